/- The document's renaming, at all terms of a program's kinds. -/
import Derived.Test.YtomahbdidlglfacGreatDoorPn5
import Derived.Test.YtomahbdidlglfacGreatDoorO8O9
import Derived.Test.YtomahbdidlglfacGreatDoorOt1Er2Er3Td0
import Derived.Test.YtomahbdidlglfacGreatDoorOt5
import Derived.Test.YtomahbdidlglfacGreatDoorO1O2O3C9O4O5W6Rs
namespace Go.Proofs.YtomahbdidlglfacGreatDoor
open Go.RowKit Go.Maps Go.WideMaps

theorem nterm_all : ∀ k, NTerm k
  | 0 => fun _ _ _ _ _ _ _ _ _ _ _ _ _ _ _ _ _ h => h.elim
  | k + 1 => fun nb K Np B S w cs pv t ps hS hSn hn h3 henv hB hSB ht hq hps hpl hpsh hK hNp => by
    obtain ⟨nd, hnd⟩ : ∃ nd : Pu.Node (Pu.TT k), nd = t := ⟨_, rfl⟩
    subst hnd
    by_cases hk1 : nd.kind = 1
    · refine (nterm_var k nb K Np B S (fun g => g ≠ nb) w cs pv nd ps hS hn hSB ht hk1 hps hpl hpsh).mono fun e w' ⟨cs', he, hf, hp⟩ => ?_
      have hwt : Pu.wt (k + 1) nd = 1 + nd.vars.length + (nd.args.map (Pu.wt k)).sum + (nd.cases.map fun c => 1 + c.2.1.length + Pu.wt k c.2.2).sum := rfl
      exact ⟨cs', he, hf.mono (fun _ _ h => h.elim), ⟨K, fr_heap hn hf (fun h => h), Nat.le_add_right _ _⟩, _, hp, by omega⟩
    · exact nterm_rest k (nterm_all k) nb K Np B S w cs pv nd ps hS hSn hn h3 henv hB hSB ht hq hk1 hps hpl hpsh hK hNp
end Go.Proofs.YtomahbdidlglfacGreatDoor

/- 'Own', and functions, copied: of what lies apart. -/
namespace Go.Proofs.YtomahbdidlglfacGreatDoor
open Go.RowKit Go.Maps Go.WideMaps
theorem own_all (k : Nat) : OwnC k := fun B w cs t h hB hw => (own_allD k B w cs t h hB hw).mono fun _ _ ⟨cs', he, hf, hr⟩ => ⟨cs', he, hf, hr.rts⟩
theorem fnsCopy_any (k B : Nat) (v : Value) (l : List (Pu.Fn k)) (w : World) (hl : Fns k B w v l) (hB : B ≤ w.heap.size) (hw : (l.map wf).sum ≤ 1073741824) :
    Calls Tryz.prog 37 #[v] w fun e w' => ∃ a c, e = .returned (.slice a l.length c) ∧ Fr No w w' ∧ ∃ acs', RowS (New w w') w' (.slice a l.length c) l.length acs' ∧ Each 9 (RFS k (New w w') w') acs' l :=
  (fnsCopyD_any k B v l w hl hB hw).mono fun _ w' ⟨a, c, he, hf, acs', V1, V2, hp, hr, hd⟩ => ⟨a, c, he, hf, acs', hr.kept (stays_self (hp.1 V1 (by simp))), hd.each fun U ck f hU ⟨pv, b, U0, U1, e1, e2, e3, e4, e5, e6⟩ =>
    ⟨pv, b, e1, e2, e4.kept (stays_self fun g hg => hp.1 V2 (by simp) g (hU g (e3.1 U0 (by simp) g hg))), e5, e6.rts.kept (stays_self fun g hg => hp.1 V2 (by simp) g (hU g (e3.1 U1 (by simp) g hg)))⟩⟩
end Go.Proofs.YtomahbdidlglfacGreatDoor

/- own: 'Term', 'Erase', walked over what they call. -/
namespace Go.Proofs.YtomahbdidlglfacGreatDoor
open Go.RowKit Go.Maps Go.WideMaps

set_option maxRecDepth 100000 in
set_option maxHeartbeats 2000000 in
theorem ownTerm_any (k : Nat) (t : Pu.TT k) (t' : Tm) (hst : StepC k t t') (B : Nat) (w : World) (cs : List Value) (ov : Value) (l : List ByteArray) (hT : RT k B w cs t) (hB : B ≤ w.heap.size) (hl : Names w.heap.size w ov l) (hw : Pu.wt k t ≤ 1073741824) (hn : l.length ≤ 1073741824) :
    Calls Tryz.prog 34 #[.agg cs.toArray, ov] w fun e w' => ∃ cs', e = .returned (.agg cs'.toArray) ∧ Fr No w w' ∧ RS (New w w') w' cs' (cnt 9 (gone k t l) t') := by
  obtain ⟨kd, n, x, y, a0, n0, c0, a1, n1, c1, a2, n2, c2, rfl⟩ := hT.form
  obtain ⟨oa, oc, rfl, _, _⟩ := hl.1.form
  have hTB := tb_new w #[.int .i64 kd, .int .i64 n, .string x, .string y, .slice a0 n0 c0, .slice a1 n1 c1, .slice a2 n2 c2]
  obtain ⟨W0, hW0⟩ : ∃ W0, W0 = ((w.alloc (.cells #[.int .i64 kd, .int .i64 n, .string x, .string y, .slice a0 n0 c0, .slice a1 n1 c1, .slice a2 n2 c2] 32)).alloc (.cells #[.int .i64 0, .int .i64 0, .string ⟨#[]⟩, .string ⟨#[]⟩, .slice none 0 0, .slice none 0 0, .slice none 0 0] 32)) := ⟨_, rfl⟩
  rw [← hW0] at hTB
  have CO : Hid (Calls Tryz.prog 40 #[.agg #[.int .i64 kd, .int .i64 n, .string x, .string y, .slice a0 n0 c0, .slice a1 n1 c1, .slice a2 n2 c2]] W0 fun e w' => ∃ d0 d1 d2 d3 d4 d5 d6, e = .returned (.agg #[d0, d1, d2, d3, d4, d5, d6]) ∧ Fr No W0 w' ∧ RTS k (New W0 w') w' [d0, d1, d2, d3, d4, d5, d6] t) :=
    (own_all k B W0 _ t (hT.old (hTB.fr.old hB (fun _ _ e => e)) hTB.fr.size) (Nat.le_trans hB hTB.fr.size) hw).mono fun e w' ⟨cs', he, hf, hr⟩ => by
      obtain ⟨_, _, _, _, _, _, _, _, _, _, _, _, _, rfl⟩ := hr.form
      exact ⟨_, _, _, _, _, _, _, he, hf, hr⟩
  have CT : Hid (∀ W S d0 d1 d2 d3 d4 d5 d6, Fr No w W → RTS k S W [d0, d1, d2, d3, d4, d5, d6] t → (∀ g, S g → g < W.heap.size) → Calls Tryz.prog 38 #[.agg #[d0, d1, d2, d3, d4, d5, d6], .slice oa l.length oc] W fun e w' => ∃ kd' n' x' y' a0' n0' c0' a1' n1' c1' a2' n2' c2', e = .returned (.agg #[.int .i64 kd', .int .i64 n', .string x', .string y', .slice a0' n0' c0', .slice a1' n1' c1', .slice a2' n2' c2']) ∧ Fr No W w' ∧ RS (fun g => S g ∨ New W w' g) w' [.int .i64 kd', .int .i64 n', .string x', .string y', .slice a0' n0' c0', .slice a1' n1' c1', .slice a2' n2' c2'] (cnt 9 (gone k t l) t')) := fun W S d0 d1 d2 d3 d4 d5 d6 hW hr hS =>
    (term_of_step k t t' hst S W _ _ l hr hS (hl.kept (hW.old (Nat.le_refl _) (fun _ _ e => e)) hW.size hW.size) hw hn).mono fun e w' ⟨cs', he, hf, hr⟩ => by
      obtain ⟨_, _, _, _, _, _, _, _, _, _, _, _, _, rfl⟩ := hr.form
      exact ⟨_, _, _, _, _, _, _, _, _, _, _, _, _, he, hf, hr⟩
  have T0 := hide hTB
  have HW0 := hide hW0
  have k0 := cell_of_heap hTB.t
  rw [hW0] at k0
  clear hT hl hst hTB hW0 hw hn
  show Calls Tryz.prog 34 #[.agg #[.int .i64 kd, .int .i64 n, .string x, .string y, .slice a0 n0 c0, .slice a1 n1 c1, .slice a2 n2 c2], .slice oa l.length oc] w _
  go_enter Tryz.func34, Tryz.ntmps34
  go_wp2_with fail
  rw [← HW0.out]
  clear k0
  refine CO.out.mono ?_
  rintro e w1 ⟨d0, d1, d2, d3, d4, d5, d6, rfl, hf1, hr1⟩
  have T1 := hide (T0.out.step hf1)
  have HR1 := hide hr1
  have hs01 := hf1.size
  clear hf1 hr1 CO
  go_wp2_with fail
  refine (CT.out w1 (New W0 w1) _ _ _ _ _ _ _ T1.out.fr HR1.out (fun g h => h.2)).mono ?_
  rintro e w2 ⟨kd', n', x', y', a0', n0', c0', a1', n1', c1', a2', n2', c2', rfl, hf2, hr2⟩
  have T2 := hide (T1.out.step hf2)
  have HR2 := hide (And.intro hr2 hf2.size)
  have k2 := cell_of_heap T2.out.r
  have z2 := frozen_of_heap T2.out.r
  have l2 := lt_of_heap T2.out.r
  have l0 := lt_of_heap T0.out.r
  have s1 := T1.out.fr.size
  clear hf2 hr2 CT
  go_wp2_with fail
  obtain ⟨t1, t2⟩ := set7 T2.out.r (.int .i64 kd') (.int .i64 n') (.string x') (.string y') (.slice a0' n0' c0') (.slice a1' n1' c1') (.slice a2' n2' c2')
  have s2 := HR2.out.2
  have s0 := T0.out.fr.size
  refine bodyPost_ret (retT rfl _ _ (w.heap.size + 1) _ _ _ _ _ _ _ (0, 0) rfl t1) rfl ⟨_, rfl, ?_, ?_⟩
  · exact T2.out.fr.trans' t2 (fun i hi e => by have e : i = w.heap.size + 1 := e; omega)
  · have s3 := t2.size
    exact HR2.out.1.kept (stays_fr t2 (fun g hg _ e => by
      have e : g = w.heap.size + 1 := e
      rcases hg with h | h
      · have := h.1; omega
      · have := h.1; omega) (fun g hg => by
      rcases hg with h | h
      · exact ⟨by have := h.1; omega, by have := h.2; omega⟩
      · exact ⟨by have := h.1; omega, by have := h.2; omega⟩))
end Go.Proofs.YtomahbdidlglfacGreatDoor

/- own: 'Erase' at what counts around a term of names, walked. -/
namespace Go.Proofs.YtomahbdidlglfacGreatDoor
open Go.RowKit Go.Maps Go.WideMaps

set_option maxRecDepth 100000 in
set_option maxHeartbeats 2000000 in
theorem ownErase_any (k : Nat) (nd : Pu.Node (Pu.TT k)) (hk : nd.kind = 1 ∨ nd.kind = 3) (hcl : nd.cases.length = 0) (ha : ∀ i (h : i < nd.args.length), ErSame k nd.args[i]) (hal : nd.args.length ≤ 1000) (s : List (Int × ByteArray)) (hs : ∀ p ∈ s, p.1 = 8 ∨ p.1 = 9) (B : Nat) (w : World) (cs : List Value) (hT : RT (spine s ⟨k + 1, nd⟩).1 B w cs (spine s ⟨k + 1, nd⟩).2) (hB : B ≤ w.heap.size) (hw : Pu.wt (spine s ⟨k + 1, nd⟩).1 (spine s ⟨k + 1, nd⟩).2 ≤ 1073741824) :
    Calls Tryz.prog 17 #[.agg cs.toArray] w fun e w' => ∃ cs', e = .returned (.agg cs'.toArray) ∧ Fr No w w' ∧ RS (New w w') w' cs' ⟨k + 1, nd⟩ := by
  obtain ⟨kd, n, x, y, a0, n0, c0, a1, n1, c1, a2, n2, c2, rfl⟩ := hT.form
  have hTB := tb_new w #[.int .i64 kd, .int .i64 n, .string x, .string y, .slice a0 n0 c0, .slice a1 n1 c1, .slice a2 n2 c2]
  obtain ⟨W0, hW0⟩ : ∃ W0, W0 = ((w.alloc (.cells #[.int .i64 kd, .int .i64 n, .string x, .string y, .slice a0 n0 c0, .slice a1 n1 c1, .slice a2 n2 c2] 32)).alloc (.cells #[.int .i64 0, .int .i64 0, .string ⟨#[]⟩, .string ⟨#[]⟩, .slice none 0 0, .slice none 0 0, .slice none 0 0] 32)) := ⟨_, rfl⟩
  rw [← hW0] at hTB
  have CO : Hid (Calls Tryz.prog 40 #[.agg #[.int .i64 kd, .int .i64 n, .string x, .string y, .slice a0 n0 c0, .slice a1 n1 c1, .slice a2 n2 c2]] W0 fun e w' => ∃ d0 d1 d2 d3 d4 d5 d6, e = .returned (.agg #[d0, d1, d2, d3, d4, d5, d6]) ∧ Fr No W0 w' ∧ RS (New W0 w') w' [d0, d1, d2, d3, d4, d5, d6] (spine s ⟨k + 1, nd⟩)) :=
    (own_all _ B W0 _ _ (hT.old (hTB.fr.old hB (fun _ _ e => e)) hTB.fr.size) (Nat.le_trans hB hTB.fr.size) hw).mono fun e w' ⟨cs', he, hf, hr⟩ => by
      obtain ⟨_, _, _, _, _, _, _, _, _, _, _, _, _, rfl⟩ := hr.form
      exact ⟨_, _, _, _, _, _, _, he, hf, hr⟩
  have CT : Hid (∀ W S d0 d1 d2 d3 d4 d5 d6, RS S W [d0, d1, d2, d3, d4, d5, d6] (spine s ⟨k + 1, nd⟩) → (∀ g, S g → g < W.heap.size) → Calls Tryz.prog 39 #[.agg #[d0, d1, d2, d3, d4, d5, d6]] W fun e w' => ∃ kd' n' x' y' a0' n0' c0' a1' n1' c1' a2' n2' c2', e = .returned (.agg #[.int .i64 kd', .int .i64 n', .string x', .string y', .slice a0' n0' c0', .slice a1' n1' c1', .slice a2' n2' c2']) ∧ Fr No W w' ∧ RS S w' [.int .i64 kd', .int .i64 n', .string x', .string y', .slice a0' n0' c0', .slice a1' n1' c1', .slice a2' n2' c2'] ⟨k + 1, nd⟩) := fun W S d0 d1 d2 d3 d4 d5 d6 hr hS =>
    (er_flat k nd hk hcl ha hal s hs S W _ hr hS).mono fun e w' ⟨cs', he, hf, hr, _⟩ => by
      obtain ⟨_, _, _, _, _, _, _, _, _, _, _, _, _, rfl⟩ := hr.form
      exact ⟨_, _, _, _, _, _, _, _, _, _, _, _, _, he, hf, hr⟩
  have T0 := hide hTB
  have HW0 := hide hW0
  have k0 := cell_of_heap hTB.t
  rw [hW0] at k0
  clear hT hTB hW0 hw hk hcl ha hal hs
  show Calls Tryz.prog 17 #[.agg #[.int .i64 kd, .int .i64 n, .string x, .string y, .slice a0 n0 c0, .slice a1 n1 c1, .slice a2 n2 c2]] w _
  go_enter Tryz.func17, Tryz.ntmps17
  go_wp2_with fail
  rw [← HW0.out]
  clear k0
  refine CO.out.mono ?_
  rintro e w1 ⟨d0, d1, d2, d3, d4, d5, d6, rfl, hf1, hr1⟩
  have T1 := hide (T0.out.step hf1)
  have HR1 := hide hr1
  have hs01 := hf1.size
  clear hf1 hr1 CO
  go_wp2_with fail
  refine (CT.out w1 (New W0 w1) _ _ _ _ _ _ _ HR1.out (fun g h => h.2)).mono ?_
  rintro e w2 ⟨kd', n', x', y', a0', n0', c0', a1', n1', c1', a2', n2', c2', rfl, hf2, hr2⟩
  have T2 := hide (T1.out.step hf2)
  have HR2 := hide (And.intro hr2 hf2.size)
  have k2 := cell_of_heap T2.out.r
  have z2 := frozen_of_heap T2.out.r
  have l2 := lt_of_heap T2.out.r
  have l0 := lt_of_heap T0.out.r
  have s1 := T1.out.fr.size
  clear hf2 hr2 CT
  go_wp2_with fail
  obtain ⟨t1, t2⟩ := set7 T2.out.r (.int .i64 kd') (.int .i64 n') (.string x') (.string y') (.slice a0' n0' c0') (.slice a1' n1' c1') (.slice a2' n2' c2')
  have s2 := HR2.out.2
  have s0 := T0.out.fr.size
  refine bodyPost_ret (retT rfl _ _ (w.heap.size + 1) _ _ _ _ _ _ _ (0, 0) rfl t1) rfl ⟨_, rfl, ?_, ?_⟩
  · exact T2.out.fr.trans' t2 (fun i hi e => by have e : i = w.heap.size + 1 := e; omega)
  · have s3 := t2.size
    exact HR2.out.1.kept (stays_fr t2 (fun g hg _ e => by
      have e : g = w.heap.size + 1 := e
      have := hg.1; omega) (fun g hg => ⟨by have := hg.1; omega, by have := hg.2; omega⟩))
end Go.Proofs.YtomahbdidlglfacGreatDoor

/- own: 'Fn', walked. -/
namespace Go.Proofs.YtomahbdidlglfacGreatDoor
open Go.RowKit Go.Maps Go.WideMaps

theorem infoF9 : (Tryz.prog.info? 34).map (·.size) = some 9 := by kernel_rfl
theorem retF {fn : Func} {p : Tmp} (h : fn.results = #[.cell p 34]) (tmps : Array Value) (w : World) (g : Nat) (u0 u1 u2 u3 u4 u5 u6 u7 u8 : Value) (z : Nat × Nat) (hp : tmps.getD p undef = .pointer (some ⟨g, 0, none⟩)) (hg : w.heap[g]? = some (.cells #[u0, u1, u2, u3, u4, u5, u6, u7, u8] 34 z)) :
    (results fn tmps).run Tryz.prog w = .ok (.agg #[u0, u1, u2, u3, u4, u5, u6, u7, u8]) w := results_cell_row h tmps w g _ _ z _ hp hg Tryz.underlying34 rfl infoF9
theorem set9f {w : World} {g : Nat} {x0 x1 x2 x3 x4 x5 x6 x7 x8 : Value} {t : TypeId} {z : Nat × Nat} (h : w.heap[g]? = some (.cells #[x0, x1, x2, x3, x4, x5, x6, x7, x8] t z)) (u0 u1 u2 u3 u4 u5 u6 u7 u8 : Value) :
    (((((((((w.setCell ⟨g, 0, none⟩ u0).setCell ⟨g, 1, none⟩ u1).setCell ⟨g, 2, none⟩ u2).setCell ⟨g, 3, none⟩ u3).setCell ⟨g, 4, none⟩ u4).setCell ⟨g, 5, none⟩ u5).setCell ⟨g, 6, none⟩ u6).setCell ⟨g, 7, none⟩ u7).setCell ⟨g, 8, none⟩ u8).heap[g]? = some (.cells #[u0, u1, u2, u3, u4, u5, u6, u7, u8] t z) ∧
    Fr (· = g) w (((((((((w.setCell ⟨g, 0, none⟩ u0).setCell ⟨g, 1, none⟩ u1).setCell ⟨g, 2, none⟩ u2).setCell ⟨g, 3, none⟩ u3).setCell ⟨g, 4, none⟩ u4).setCell ⟨g, 5, none⟩ u5).setCell ⟨g, 6, none⟩ u6).setCell ⟨g, 7, none⟩ u7).setCell ⟨g, 8, none⟩ u8) :=
  ⟨by simp [World.setCell, Array.getElem?_modify, h], (((((((((Fr.refl (· = g) w).setCell (p := ⟨g, 0, none⟩) (.inl rfl) u0).setCell (p := ⟨g, 1, none⟩) (.inl rfl) u1).setCell (p := ⟨g, 2, none⟩) (.inl rfl) u2).setCell (p := ⟨g, 3, none⟩) (.inl rfl) u3).setCell (p := ⟨g, 4, none⟩) (.inl rfl) u4).setCell (p := ⟨g, 5, none⟩) (.inl rfl) u5).setCell (p := ⟨g, 6, none⟩) (.inl rfl) u6).setCell (p := ⟨g, 7, none⟩) (.inl rfl) u7).setCell (p := ⟨g, 8, none⟩) (.inl rfl) u8⟩
theorem set9b {w : World} {g : Nat} {x0 x1 x2 x3 x4 x5 x6 x7 x8 : Value} {t : TypeId} {z : Nat × Nat} (h : w.heap[g]? = some (.cells #[x0, x1, x2, x3, x4, x5, x6, x7, x8] t z)) (u2 u3 u4 u5 u6 u7 u8 : Value) :
    (((((((w.setCell ⟨g, 2, none⟩ u2).setCell ⟨g, 3, none⟩ u3).setCell ⟨g, 4, none⟩ u4).setCell ⟨g, 5, none⟩ u5).setCell ⟨g, 6, none⟩ u6).setCell ⟨g, 7, none⟩ u7).setCell ⟨g, 8, none⟩ u8).heap[g]? = some (.cells #[x0, x1, u2, u3, u4, u5, u6, u7, u8] t z) ∧
    Fr (· = g) w (((((((w.setCell ⟨g, 2, none⟩ u2).setCell ⟨g, 3, none⟩ u3).setCell ⟨g, 4, none⟩ u4).setCell ⟨g, 5, none⟩ u5).setCell ⟨g, 6, none⟩ u6).setCell ⟨g, 7, none⟩ u7).setCell ⟨g, 8, none⟩ u8) :=
  ⟨by simp [World.setCell, Array.getElem?_modify, h], (((((((Fr.refl (· = g) w).setCell (p := ⟨g, 2, none⟩) (.inl rfl) u2).setCell (p := ⟨g, 3, none⟩) (.inl rfl) u3).setCell (p := ⟨g, 4, none⟩) (.inl rfl) u4).setCell (p := ⟨g, 5, none⟩) (.inl rfl) u5).setCell (p := ⟨g, 6, none⟩) (.inl rfl) u6).setCell (p := ⟨g, 7, none⟩) (.inl rfl) u7).setCell (p := ⟨g, 8, none⟩) (.inl rfl) u8⟩

/-- The zero function. -/
abbrev fnZero : Array Value := #[.string ⟨#[]⟩, .slice none 0 0, .int .i64 0, .int .i64 0, .string ⟨#[]⟩, .string ⟨#[]⟩, .slice none 0 0, .slice none 0 0, .slice none 0 0]

/-- One function, in a row of one. -/
theorem fns_one {k B : Nat} {w : World} {cs : List Value} {f : Pu.Fn k} (h : RF k B w cs f) (hl : cs.length = 9) (hB : B ≤ w.heap.size) : Fns k (w.heap.size + 1) (w.alloc (.cells cs.toArray 34)) (.slice (some ⟨w.heap.size, 0, none⟩) 1 1) [f] := by
  have hf : Fr No w (w.alloc (.cells cs.toArray 34)) := (Fr.refl No w).alloc _
  refine ⟨cs, ⟨_, 1, rfl, Nat.le_refl _, by unfold maxLen; decide, fun _ => ⟨w.heap.size, 0, rfl, Nat.lt_succ_self _, by rw [World.size_alloc]; exact Nat.lt_succ_self _, fun i hi => ?_⟩⟩, cs, [], by simp, hl, h.kept (hf.old hB (fun _ _ e => e)) (by omega) hf.size, rfl⟩
  rw [Nat.zero_add, cell_of_heap (heap_alloc_new w _) i]
  simp

theorem RF.form9 {k B : Nat} {w : World} {cs : List Value} {f : Pu.Fn k} (h : RF k B w cs f) : ∃ pa pc kd n x y a0 n0 c0 a1 n1 c1 a2 n2 c2, cs = [.string f.1, .slice pa f.2.1.length pc, .int .i64 kd, .int .i64 n, .string x, .string y, .slice a0 n0 c0, .slice a1 n1 c1, .slice a2 n2 c2] := by
  obtain ⟨pv, b, rfl, _, hn, _, hb⟩ := h
  obtain ⟨pa, pc, rfl, _⟩ := hn.1.form
  obtain ⟨kd, n, x, y, a0, n0, c0, a1, n1, c1, a2, n2, c2, rfl⟩ := hb.form
  exact ⟨_, _, _, _, _, _, _, _, _, _, _, _, _, _, _, rfl⟩

/-- What Fns lays of one function. -/
structure OneAt (k : Nat) (S : Nat → Prop) (w : World) (g o : Nat) (cap : Nat) (pa : Option Addr) (pc : Nat) (kd n : Int) (x y : ByteArray) (a0 : Option Addr) (n0 c0 : Nat) (a1 : Option Addr) (n1 c1 : Nat) (a2 : Option Addr) (n2 c2 : Nat) (f : Pu.Fn k) : Prop where
  cap : cap ≤ maxLen
  lt : g < w.heap.size
  mem : S g
  names : NamesS S w (.slice pa f.2.1.length pc) f.2.1
  term : RTS k S w [.int .i64 kd, .int .i64 n, .string x, .string y, .slice a0 n0 c0, .slice a1 n1 c1, .slice a2 n2 c2] f.2.2
  cells : ∀ j, j < 9 → w.cell? ⟨g, o + j, none⟩ = [Value.string f.1, .slice pa f.2.1.length pc, .int .i64 kd, .int .i64 n, .string x, .string y, .slice a0 n0 c0, .slice a1 n1 c1, .slice a2 n2 c2][j]?

theorem fnsOne_any (k B : Nat) (v : Value) (f : Pu.Fn k) (w : World) (hl : Fns k B w v [f]) (hB : B ≤ w.heap.size) (hw : wf f ≤ 1073741824) :
    Calls Tryz.prog 37 #[v] w fun e w' => ∃ g o cap pa pc kd n x y a0 n0 c0 a1 n1 c1 a2 n2 c2, e = .returned (.slice (some ⟨g, o, none⟩) 1 cap) ∧ Fr No w w' ∧ OneAt k (New w w') w' g o cap pa pc kd n x y a0 n0 c0 a1 n1 c1 a2 n2 c2 f :=
  (fnsCopy_any k B v [f] w hl hB (by simpa using hw)).mono fun e w' ⟨a, c, he, hf, acs, hr, hea⟩ => by
    obtain ⟨a', cap, hv, _, hcap, hrow⟩ := hr
    injection hv with hv1 _ hv2
    subst hv1 hv2
    obtain ⟨g, o, rfl, hS, hg, _, hcell⟩ := hrow (by simp)
    obtain ⟨ck, rest, rfl, hlen, hfs, hrest⟩ := hea
    have hrest' : rest = [] := hrest
    subst hrest'
    obtain ⟨pv, b, rfl, h1, h2, h3, h4⟩ := hfs
    obtain ⟨pa, pc, rfl, _⟩ := rowS_form h2.1
    obtain ⟨kd, n, x, y, a0, n0, c0, a1, n1, c1, a2, n2, c2, rfl⟩ := h4.form
    exact ⟨g, o, c, pa, pc, kd, n, x, y, a0, n0, c0, a1, n1, c1, a2, n2, c2, he, hf, hcap, hg, hS, h2, h4, fun j hj => by rw [hcell j (by simpa using hj)]; simp⟩

set_option maxRecDepth 100000 in
set_option maxHeartbeats 4000000 in
theorem ownFn_any' (k : Nat) (f : Pu.Fn k) (t' : Tm) (hst : StepC k f.2.2 t') (B : Nat) (w : World) (cs : List Value) (hf : RF k B w cs f) (hB : B ≤ w.heap.size) (hw : wf f ≤ 1073741824) :
    Calls Tryz.prog 14 #[.agg cs.toArray] w fun e w' => ∃ pa pc kd n x y a0 n0 c0 a1 n1 c1 a2 n2 c2, e = .returned (.agg #[.string f.1, .slice pa f.2.1.length pc, .int .i64 kd, .int .i64 n, .string x, .string y, .slice a0 n0 c0, .slice a1 n1 c1, .slice a2 n2 c2]) ∧ Fr No w w' ∧ NamesS (New w w') w' (.slice pa f.2.1.length pc) f.2.1 ∧ RS (New w w') w' [.int .i64 kd, .int .i64 n, .string x, .string y, .slice a0 n0 c0, .slice a1 n1 c1, .slice a2 n2 c2] (cnt 9 (gone k f.2.2 f.2.1) t') := by
  have hlen : cs.length = 9 := by obtain ⟨_, _, _, _, _, _, _, _, _, _, _, _, _, _, _, h⟩ := hf.form9; rw [h]; rfl
  obtain ⟨W0, hW0⟩ : ∃ W0, W0 = ((w.alloc (.cells cs.toArray 34)).alloc (.cells fnZero 34)) := ⟨_, rfl⟩
  have f0 : Fr No w W0 := by rw [hW0]; exact ((Fr.refl No w).alloc _).alloc _
  have b0 : W0.heap[w.heap.size]? = some (.cells cs.toArray 34 (0, 0)) := by rw [hW0]; exact fr_heap (heap_alloc_new w _) ((Fr.refl No _).alloc _) (fun e => e)
  have b1 : W0.heap[w.heap.size + 1]? = some (.cells fnZero 34 (0, 0)) := by
    have h := heap_alloc_new (w.alloc (.cells cs.toArray 34)) (.cells fnZero 34)
    rw [World.size_alloc] at h
    rw [hW0]; exact h
  have hs0 : W0.heap.size = w.heap.size + 2 := by rw [hW0]; simp
  have hf0 : RF k B W0 cs f := hf.kept (f0.old hB (fun _ _ e => e)) (Nat.le_refl _) f0.size
  have CF : Hid (Calls Tryz.prog 37 #[.slice (some ⟨w.heap.size + 1 + 1, 0, none⟩) 1 1] (W0.alloc (.cells cs.toArray 34)) fun e w' => ∃ g o cap pa pc kd n x y a0 n0 c0 a1 n1 c1 a2 n2 c2, e = .returned (.slice (some ⟨g, o, none⟩) 1 cap) ∧ Fr No (W0.alloc (.cells cs.toArray 34)) w' ∧ OneAt k (New (W0.alloc (.cells cs.toArray 34)) w') w' g o cap pa pc kd n x y a0 n0 c0 a1 n1 c1 a2 n2 c2 f) :=
    by
      have h := fnsOne_any k (W0.heap.size + 1) _ f _ (fns_one hf0 hlen (Nat.le_trans hB f0.size)) (by rw [World.size_alloc]; exact Nat.le_refl _) hw
      rw [hs0] at h
      exact h
  have CT : Hid (∀ W S ov d0 d1 d2 d3 d4 d5 d6, RTS k S W [d0, d1, d2, d3, d4, d5, d6] f.2.2 → (∀ g, S g → g < W.heap.size) → Names W.heap.size W ov f.2.1 → Calls Tryz.prog 38 #[.agg #[d0, d1, d2, d3, d4, d5, d6], ov] W fun e w' => ∃ kd' n' x' y' a0' n0' c0' a1' n1' c1' a2' n2' c2', e = .returned (.agg #[.int .i64 kd', .int .i64 n', .string x', .string y', .slice a0' n0' c0', .slice a1' n1' c1', .slice a2' n2' c2']) ∧ Fr No W w' ∧ RS (fun g => S g ∨ New W w' g) w' [.int .i64 kd', .int .i64 n', .string x', .string y', .slice a0' n0' c0', .slice a1' n1' c1', .slice a2' n2' c2'] (cnt 9 (gone k f.2.2 f.2.1) t')) := fun W S ov d0 d1 d2 d3 d4 d5 d6 hr hS hl =>
    (term_of_step k f.2.2 t' hst S W _ ov _ hr hS hl (by unfold wf at hw; omega) (by unfold wf at hw; omega)).mono fun e w' ⟨cs', he, hf, hr⟩ => by
      obtain ⟨_, _, _, _, _, _, _, _, _, _, _, _, _, rfl⟩ := hr.form
      exact ⟨_, _, _, _, _, _, _, _, _, _, _, _, _, he, hf, hr⟩
  obtain ⟨pa0, pc0, kd0, n0, x0, y0, a00, n00, c00, a10, n10, c10, a20, n20, c20, rfl⟩ := hf.form9
  have HW0 := hide hW0
  have HF0 := hide f0
  have HB1 := hide b1
  have k0 := cell_of_heap b0
  rw [hW0] at k0
  clear hf hst hW0 f0 b0 b1 hf0 hlen hw hB
  show Calls Tryz.prog 14 #[.agg #[.string f.1, .slice pa0 f.2.1.length pc0, .int .i64 kd0, .int .i64 n0, .string x0, .string y0, .slice a00 n00 c00, .slice a10 n10 c10, .slice a20 n20 c20]] w _
  go_enter Tryz.func14, Tryz.ntmps14
  go_wp2_with fail
  rw [← HW0.out]
  clear k0
  obtain ⟨W1, hW1⟩ : ∃ W1, W1 = W0.alloc (.cells #[.string f.1, .slice pa0 f.2.1.length pc0, .int .i64 kd0, .int .i64 n0, .string x0, .string y0, .slice a00 n00 c00, .slice a10 n10 c10, .slice a20 n20 c20] 34) := ⟨_, rfl⟩
  have hCF := CF.out
  rw [← hW1] at hCF ⊢
  have f01 : Fr No W0 W1 := by rw [hW1]; exact (Fr.refl No W0).alloc _
  clear CF
  refine hCF.mono ?_
  clear hCF hW1
  rintro e w1 ⟨g, o, cap, pa, pc, kd, n, x, y, a0, m0, c0, a1, m1, c1, a2, m2, c2, rfl, hf1, h1⟩
  have q0 : w1.cell? ⟨g, o, none⟩ = some (.string f.1) := h1.cells 0 (by omega)
  have q1 := h1.cells 1 (by omega)
  have q2 := h1.cells 2 (by omega)
  have q3 := h1.cells 3 (by omega)
  have q4 := h1.cells 4 (by omega)
  have q5 := h1.cells 5 (by omega)
  have q6 := h1.cells 6 (by omega)
  have q7 := h1.cells 7 (by omega)
  have q8 := h1.cells 8 (by omega)
  have hgl := h1.lt
  have hcp := h1.cap
  unfold maxLen at hcp
  have H1 := hide h1
  have F01 := hide (f01.trans hf1)
  have hs1 : W0.heap.size ≤ W1.heap.size := f01.size
  have hs2 : W1.heap.size ≤ w1.heap.size := hf1.size
  clear h1 hf1 f01
  go_wp2_with fail
  obtain ⟨W2, hW2⟩ : ∃ W2, W2 = w1.alloc (.cells #[.string f.1, .slice pa f.2.1.length pc, .int .i64 kd, .int .i64 n, .string x, .string y, .slice a0 m0 c0, .slice a1 m1 c1, .slice a2 m2 c2] 34) := ⟨_, rfl⟩
  rw [← hW2]
  have f12 : Fr No w1 W2 := by rw [hW2]; exact (Fr.refl No w1).alloc _
  have o2 : W2.heap[w1.heap.size]? = some (.cells #[.string f.1, .slice pa f.2.1.length pc, .int .i64 kd, .int .i64 n, .string x, .string y, .slice a0 m0 c0, .slice a1 m1 c1, .slice a2 m2 c2] 34 (0, 0)) := by rw [hW2]; exact heap_alloc_new w1 _
  have hs3 : W2.heap.size = w1.heap.size + 1 := by rw [hW2]; simp
  have hnm2 : NamesS (New W1 w1) W2 (.slice pa f.2.1.length pc) f.2.1 := H1.out.names.kept (stays_of_fr f12)
  clear hW2
  refine (CT.out W2 (New W1 w1) _ _ _ _ _ _ _ _ (H1.out.term.kept (stays_of_fr f12)) (fun g h => by have := h.2; omega) ⟨hnm2.1.row (fun g h => by have := h.2; omega), hnm2.2⟩).mono ?_
  rintro e w2 ⟨kd', n', x', y', a0', n0', c0', a1', n1', c1', a2', n2', c2', rfl, hf2, hr2⟩
  have o3 := fr_heap o2 hf2 (fun e => e)
  have r3 := fr_heap HB1.out ((F01.out.trans f12).trans hf2) (fun e => e)
  have k5 := cell_of_heap o3
  have z5 := frozen_of_heap o3
  have l5 := lt_of_heap o3
  have k6 := cell_of_heap r3
  have z6 := frozen_of_heap r3
  have l6 := lt_of_heap r3
  have hne1 : ¬ w1.heap.size = w.heap.size + 1 := by have := HF0.out.size; omega
  have hne2 : ¬ w.heap.size + 1 = w1.heap.size := by omega
  have O3 := hide o3
  have R3 := hide r3
  have HR2 := hide hr2
  have F2 := hide (((HF0.out.trans F01.out).trans f12).trans hf2)
  have HN2 := hide (hnm2.kept (stays_of_fr hf2))
  have hs4 := hf2.size
  clear o2 o3 r3 hr2 hf2 f12 hnm2 q0 q1 q2 q3 q4 q5 q6 q7 q8 CT
  go_wp2_with fail
  obtain ⟨s1, s2⟩ := set9b O3.out (.int .i64 kd') (.int .i64 n') (.string x') (.string y') (.slice a0' n0' c0') (.slice a1' n1' c1') (.slice a2' n2' c2')
  obtain ⟨Z1, hZ1⟩ : ∃ Z1, Z1 = (((((((w2.setCell ⟨w1.heap.size, 2, none⟩ (.int .i64 kd')).setCell ⟨w1.heap.size, 3, none⟩ (.int .i64 n')).setCell ⟨w1.heap.size, 4, none⟩ (.string x')).setCell ⟨w1.heap.size, 5, none⟩ (.string y')).setCell ⟨w1.heap.size, 6, none⟩ (.slice a0' n0' c0')).setCell ⟨w1.heap.size, 7, none⟩ (.slice a1' n1' c1')).setCell ⟨w1.heap.size, 8, none⟩ (.slice a2' n2' c2')) := ⟨_, rfl⟩
  rw [← hZ1] at s1 s2 ⊢
  clear hZ1
  have r4 := fr_heap R3.out s2 (fun e => hne2 e)
  obtain ⟨t1, t2⟩ := set9f r4 (.string f.1) (.slice pa f.2.1.length pc) (.int .i64 kd') (.int .i64 n') (.string x') (.string y') (.slice a0' n0' c0') (.slice a1' n1' c1') (.slice a2' n2' c2')
  obtain ⟨Z2, hZ2⟩ : ∃ Z2, Z2 = (((((((((Z1.setCell ⟨w.heap.size + 1, 0, none⟩ (.string f.1)).setCell ⟨w.heap.size + 1, 1, none⟩ (.slice pa f.2.1.length pc)).setCell ⟨w.heap.size + 1, 2, none⟩ (.int .i64 kd')).setCell ⟨w.heap.size + 1, 3, none⟩ (.int .i64 n')).setCell ⟨w.heap.size + 1, 4, none⟩ (.string x')).setCell ⟨w.heap.size + 1, 5, none⟩ (.string y')).setCell ⟨w.heap.size + 1, 6, none⟩ (.slice a0' n0' c0')).setCell ⟨w.heap.size + 1, 7, none⟩ (.slice a1' n1' c1')).setCell ⟨w.heap.size + 1, 8, none⟩ (.slice a2' n2' c2')) := ⟨_, rfl⟩
  rw [← hZ2] at t1 t2 ⊢
  clear hZ2
  have hfz := HF0.out.size
  have u1 := s2.size
  have u2 := t2.size
  have hst : ∀ S : Nat → Prop, (∀ g, S g → w.heap.size + 2 ≤ g ∧ g ≠ w1.heap.size ∧ g < w2.heap.size) → Stays S (New w Z2) w2 Z2 := fun S hS => by
    refine ⟨Nat.le_trans u1 u2, fun g hg hl => ⟨⟨by have := hS g hg; omega, by have := hS g hg; omega⟩, ?_⟩⟩
    exact (t2.block g (Nat.lt_of_lt_of_le hl u1) (fun e => by have e : g = w.heap.size + 1 := e; have := hS g hg; omega)).trans (s2.block g hl (fun e => (hS g hg).2.1 e))
  have P1 : Fr No w Z2 := (F2.out.trans' s2 (fun i hi e => by have e : i = w1.heap.size := e; omega)).trans' t2 (fun i hi e => by have e : i = w.heap.size + 1 := e; omega)
  have P2 := HN2.out.kept (hst _ (fun g hg => ⟨by have := hg.1; omega, by have := hg.2; omega, by have := hg.2; omega⟩))
  have P3 := HR2.out.kept (hst _ (fun g hg => by
    rcases hg with h | h
    · exact ⟨by have := h.1; omega, by have := h.2; omega, by have := h.2; omega⟩
    · exact ⟨by have := h.1; omega, by have := h.1; omega, h.2⟩))
  refine bodyPost_ret (retF rfl _ _ (w.heap.size + 1) _ _ _ _ _ _ _ _ _ (0, 0) rfl t1) rfl ?_
  exact ⟨pa, pc, kd', n', x', y', a0', n0', c0', a1', n1', c1', a2', n2', c2', rfl, P1, P2, P3⟩
end Go.Proofs.YtomahbdidlglfacGreatDoor

/- The document's renaming of functions, walked. -/
namespace Go.Proofs.YtomahbdidlglfacGreatDoor
open Go.RowKit Go.Maps Go.WideMaps

set_option maxRecDepth 100000 in
set_option maxHeartbeats 8000000 in
theorem named_any (k B : Nat) (f : Pu.Fn k) (w : World) (cs : List Value) (hf : RF k B w cs f) (hB : B ≤ w.heap.size) (hq : Pq k f.2.2) (h3 : 3 ≤ w.heap.size) (henv : Env w) (hw : wf f ≤ 536870912) (S : Nat → Prop) (hS : ∀ g, w.heap.size ≤ g → S g) (hSB : ∀ g, g < B → S g) :
    Calls Tryz.prog 35 #[.agg cs.toArray] w fun e w' => ∃ na nc kC nC xC yC r0 p0 d0 r1 p1 d1 r2 p2 d2, e = .returned (.agg #[.string f.1, .slice na f.2.1.length nc, .int .i64 kC, .int .i64 nC, .string xC, .string yC, .slice r0 p0 d0, .slice r1 p1 d1, .slice r2 p2 d2]) ∧ Fr No w w' ∧ ∃ ns m, NamesP S w' (.slice na f.2.1.length nc) ns ∧ ns.length = f.2.1.length ∧ PT k S w' [.int .i64 kC, .int .i64 nC, .string xC, .string yC, .slice r0 p0 d0, .slice r1 p1 d1, .slice r2 p2 d2] m ∧ m ≤ Pu.wt k f.2.2 := by
  obtain ⟨pv, b, rfl, hnm, hpar, hbl, hrt⟩ := hf
  obtain ⟨pa, pc, rfl, _, hpc⟩ := hpar.1.form
  obtain ⟨kA, nA, xA, yA, a0, m0, c0, a1, m1, c1, a2, m2, c2, rfl⟩ := hrt.form
  have hwf : wf f = 1 + f.2.1.length + Pu.wt k f.2.2 := rfl
  obtain ⟨W0, hW0⟩ : ∃ W0, W0 = ((w.alloc (.cells #[.string f.1, .slice pa f.2.1.length pc, .int .i64 kA, .int .i64 nA, .string xA, .string yA, .slice a0 m0 c0, .slice a1 m1 c1, .slice a2 m2 c2] 34)).alloc (.cells fnZero 34)).alloc (.cells #[.int .i64 0] 96) := ⟨_, rfl⟩
  have f0 : Fr No w W0 := by rw [hW0]; exact (((Fr.refl No w).alloc _).alloc _).alloc _
  have b0 : W0.heap[w.heap.size]? = some (.cells #[.string f.1, .slice pa f.2.1.length pc, .int .i64 kA, .int .i64 nA, .string xA, .string yA, .slice a0 m0 c0, .slice a1 m1 c1, .slice a2 m2 c2] 34 (0, 0)) := by rw [hW0]; exact fr_heap (heap_alloc_new w _) (((Fr.refl No _).alloc _).alloc _) (fun e => e)
  have b1 : W0.heap[w.heap.size + 1]? = some (.cells fnZero 34 (0, 0)) := by
    have h := heap_alloc_new (w.alloc (.cells #[.string f.1, .slice pa f.2.1.length pc, .int .i64 kA, .int .i64 nA, .string xA, .string yA, .slice a0 m0 c0, .slice a1 m1 c1, .slice a2 m2 c2] 34)) (.cells fnZero 34)
    rw [World.size_alloc] at h
    rw [hW0]; exact fr_heap h ((Fr.refl No _).alloc _) (fun e => e)
  have b2 : W0.heap[w.heap.size + 2]? = some (.cells #[.int .i64 ((0 : Nat) : Int)] 96 (0, 0)) := by
    have h := heap_alloc_new ((w.alloc (.cells #[.string f.1, .slice pa f.2.1.length pc, .int .i64 kA, .int .i64 nA, .string xA, .string yA, .slice a0 m0 c0, .slice a1 m1 c1, .slice a2 m2 c2] 34)).alloc (.cells fnZero 34)) (.cells #[.int .i64 0] 96)
    rw [World.size_alloc, World.size_alloc] at h
    rw [hW0]; exact h
  have hs0 : W0.heap.size = w.heap.size + 3 := by rw [hW0]; simp
  have CF : Hid (Calls Tryz.prog 63 #[.pointer (some ⟨w.heap.size + 2, 0, none⟩), .slice pa f.2.1.length pc] W0 fun e w2 => ∃ na nc pa2 pc2 ns ps, e = .returned (.tuple #[.slice na f.2.1.length nc, .slice pa2 f.2.1.length pc2]) ∧ Fr (· = w.heap.size + 2) W0 w2 ∧ w2.heap[w.heap.size + 2]? = some (.cells #[.int .i64 ((f.2.1.length : Nat) : Int)] 96 (0, 0)) ∧ Fresh (fun g => S g ∧ g ≠ w.heap.size + 2 ∧ g ≠ w.heap.size + 1) w2 (.slice na f.2.1.length nc) (.slice pa2 f.2.1.length pc2) ns ps f.2.1.length) :=
    (fresh_any (w.heap.size + 2) 0 (fun g => S g ∧ g ≠ w.heap.size + 2 ∧ g ≠ w.heap.size + 1) W0 _ f.2.1 (fun g hg => ⟨hS g (by omega), by omega, by omega⟩) b2 (by omega) (henv.fr f0 h3 (fun _ _ e => e)) ⟨(hpar.1.rowP (S := fun g => g ≠ w.heap.size + 2) (fun g hg => by omega)).kept (stays_of_fr f0), hpar.2⟩ (by omega)).mono fun e w2 ⟨na, nc, pa2, pc2, ns, ps, he, h1, h2, h4⟩ => ⟨na, nc, pa2, pc2, ns, ps, he, h1, by rw [h2]; simp, h4⟩
  have CT : Hid (∀ W pv' ps', Fr (· = w.heap.size + 2) W0 W → W.heap[w.heap.size + 2]? = some (.cells #[.int .i64 ((f.2.1.length : Nat) : Int)] 96 (0, 0)) → RowP (fun g => g ≠ w.heap.size + 2) W pv' f.2.1.length (ps'.map .string) → ps'.length = f.2.1.length * 2 → Short ps' → Calls Tryz.prog 64 #[.pointer (some ⟨w.heap.size + 2, 0, none⟩), .agg #[.int .i64 kA, .int .i64 nA, .string xA, .string yA, .slice a0 m0 c0, .slice a1 m1 c1, .slice a2 m2 c2], pv'] W fun e w3 => ∃ kC nC xC yC r0 p0 d0 r1 p1 d1 r2 p2 d2, e = .returned (.agg #[.int .i64 kC, .int .i64 nC, .string xC, .string yC, .slice r0 p0 d0, .slice r1 p1 d1, .slice r2 p2 d2]) ∧ Fr (· = w.heap.size + 2) W w3 ∧ ∃ m, PT k (fun g => S g ∧ g ≠ w.heap.size + 2 ∧ g ≠ w.heap.size + 1) w3 [.int .i64 kC, .int .i64 nC, .string xC, .string yC, .slice r0 p0 d0, .slice r1 p1 d1, .slice r2 p2 d2] m ∧ m ≤ Pu.wt k f.2.2) := fun W pv' ps' hW hb hp hl hs => by
    have hfw : Fr No w W := f0.trans' hW (fun j hj e => by have e : j = w.heap.size + 2 := e; omega)
    have hsz := hW.size
    refine (nterm_all k (w.heap.size + 2) f.2.1.length f.2.1.length B (fun g => S g ∧ g ≠ w.heap.size + 2 ∧ g ≠ w.heap.size + 1) W _ pv' f.2.2 ps' (fun g hg => ⟨hS g (by omega), by omega, by omega⟩) (fun h => h.2.1 rfl) hb (by omega) (henv.fr hfw h3 (fun _ _ e => e)) (by omega) (fun g hg => ⟨hSB g hg, by omega, by omega⟩) (hrt.kept (hfw.old hB (fun _ _ e => e)) (Nat.le_refl _) hfw.size) hq hp hl hs (by omega) (by omega)).mono fun e w3 ⟨cs', he, h1, _, m, h4, h5⟩ => ?_
    obtain ⟨kC, nC, xC, yC, r0, p0, d0, r1, p1, d1, r2, p2, d2, rfl⟩ := h4.form
    exact ⟨kC, nC, xC, yC, r0, p0, d0, r1, p1, d1, r2, p2, d2, he, h1, m, h4, h5⟩
  have HW0 := hide hW0
  have F0 := hide f0
  have B0 := hide b0
  have B1 := hide b1
  clear hrt hpar hnm hq henv hW0 f0 b0 b1 b2 hwf hw hbl hS hSB
  unfold maxLen at hpc
  show Calls Tryz.prog 35 #[.agg #[.string f.1, .slice pa f.2.1.length pc, .int .i64 kA, .int .i64 nA, .string xA, .string yA, .slice a0 m0 c0, .slice a1 m1 c1, .slice a2 m2 c2]] w _
  go_enter Tryz.func35, Tryz.ntmps35
  go_wp2_with fail
  rw [← HW0.out]
  refine CF.out.mono ?_
  rintro e w2 ⟨na, nc, pa2, pc2, ns, ps, rfl, hf2, hb2, hfr⟩
  have g0 := fr_heap B0.out hf2 (fun e => by have e : w.heap.size = w.heap.size + 2 := e; omega)
  have g1 := fr_heap B1.out hf2 (fun e => by have e : w.heap.size + 1 = w.heap.size + 2 := e; omega)
  have SF : Hid (∀ W, Fr (· = w.heap.size + 2) w2 W → (W.cell? ⟨w.heap.size, 0, none⟩ = some (.string f.1) ∧ W.cell? ⟨w.heap.size, 2, none⟩ = some (.int .i64 kA) ∧ W.cell? ⟨w.heap.size, 2 + 1, none⟩ = some (.int .i64 nA) ∧ W.cell? ⟨w.heap.size, 2 + 2, none⟩ = some (.string xA) ∧ W.cell? ⟨w.heap.size, 2 + 3, none⟩ = some (.string yA) ∧ W.cell? ⟨w.heap.size, 2 + 4, none⟩ = some (.slice a0 m0 c0) ∧ W.cell? ⟨w.heap.size, 2 + 5, none⟩ = some (.slice a1 m1 c1) ∧ W.cell? ⟨w.heap.size, 2 + 6, none⟩ = some (.slice a2 m2 c2))) := fun W hW => by
    have ck := cell_of_heap (fr_heap g0 hW (fun e => by have e : w.heap.size = w.heap.size + 2 := e; omega))
    exact ⟨ck 0, ck 2, ck 3, ck 4, ck 5, ck 6, ck 7, ck 8⟩
  have HZ : Hid (w2.drew.cell? ⟨w.heap.size, 0, none⟩ = some (.string f.1) ∧ w2.drew.cell? ⟨w.heap.size, 2, none⟩ = some (.int .i64 kA) ∧ w2.drew.cell? ⟨w.heap.size, 2 + 1, none⟩ = some (.int .i64 nA) ∧ w2.drew.cell? ⟨w.heap.size, 2 + 2, none⟩ = some (.string xA) ∧ w2.drew.cell? ⟨w.heap.size, 2 + 3, none⟩ = some (.string yA) ∧ w2.drew.cell? ⟨w.heap.size, 2 + 4, none⟩ = some (.slice a0 m0 c0) ∧ w2.drew.cell? ⟨w.heap.size, 2 + 5, none⟩ = some (.slice a1 m1 c1) ∧ w2.drew.cell? ⟨w.heap.size, 2 + 6, none⟩ = some (.slice a2 m2 c2)) := SF.out _ (Fr.refl _ w2).drew
  have hneq : w.heap.size ≠ w.heap.size + 1 := by omega
  have KC : Hid (∀ (W : World) (u0 u1 u2 u3 u4 u5 u6 u7 u8 : Value), (W.cell? ⟨w.heap.size, 0, none⟩ = some (.string f.1) ∧ W.cell? ⟨w.heap.size, 2, none⟩ = some (.int .i64 kA) ∧ W.cell? ⟨w.heap.size, 2 + 1, none⟩ = some (.int .i64 nA) ∧ W.cell? ⟨w.heap.size, 2 + 2, none⟩ = some (.string xA) ∧ W.cell? ⟨w.heap.size, 2 + 3, none⟩ = some (.string yA) ∧ W.cell? ⟨w.heap.size, 2 + 4, none⟩ = some (.slice a0 m0 c0) ∧ W.cell? ⟨w.heap.size, 2 + 5, none⟩ = some (.slice a1 m1 c1) ∧ W.cell? ⟨w.heap.size, 2 + 6, none⟩ = some (.slice a2 m2 c2)) → ((((((((((W.setCell ⟨w.heap.size + 1, 0, none⟩ u0).setCell ⟨w.heap.size + 1, 1, none⟩ u1).setCell ⟨w.heap.size + 1, 2, none⟩ u2).setCell ⟨w.heap.size + 1, 3, none⟩ u3).setCell ⟨w.heap.size + 1, 4, none⟩ u4).setCell ⟨w.heap.size + 1, 5, none⟩ u5).setCell ⟨w.heap.size + 1, 6, none⟩ u6).setCell ⟨w.heap.size + 1, 7, none⟩ u7).setCell ⟨w.heap.size + 1, 8, none⟩ u8).cell? ⟨w.heap.size, 0, none⟩ = some (.string f.1) ∧ (((((((((W.setCell ⟨w.heap.size + 1, 0, none⟩ u0).setCell ⟨w.heap.size + 1, 1, none⟩ u1).setCell ⟨w.heap.size + 1, 2, none⟩ u2).setCell ⟨w.heap.size + 1, 3, none⟩ u3).setCell ⟨w.heap.size + 1, 4, none⟩ u4).setCell ⟨w.heap.size + 1, 5, none⟩ u5).setCell ⟨w.heap.size + 1, 6, none⟩ u6).setCell ⟨w.heap.size + 1, 7, none⟩ u7).setCell ⟨w.heap.size + 1, 8, none⟩ u8).cell? ⟨w.heap.size, 2, none⟩ = some (.int .i64 kA) ∧ (((((((((W.setCell ⟨w.heap.size + 1, 0, none⟩ u0).setCell ⟨w.heap.size + 1, 1, none⟩ u1).setCell ⟨w.heap.size + 1, 2, none⟩ u2).setCell ⟨w.heap.size + 1, 3, none⟩ u3).setCell ⟨w.heap.size + 1, 4, none⟩ u4).setCell ⟨w.heap.size + 1, 5, none⟩ u5).setCell ⟨w.heap.size + 1, 6, none⟩ u6).setCell ⟨w.heap.size + 1, 7, none⟩ u7).setCell ⟨w.heap.size + 1, 8, none⟩ u8).cell? ⟨w.heap.size, 2 + 1, none⟩ = some (.int .i64 nA) ∧ (((((((((W.setCell ⟨w.heap.size + 1, 0, none⟩ u0).setCell ⟨w.heap.size + 1, 1, none⟩ u1).setCell ⟨w.heap.size + 1, 2, none⟩ u2).setCell ⟨w.heap.size + 1, 3, none⟩ u3).setCell ⟨w.heap.size + 1, 4, none⟩ u4).setCell ⟨w.heap.size + 1, 5, none⟩ u5).setCell ⟨w.heap.size + 1, 6, none⟩ u6).setCell ⟨w.heap.size + 1, 7, none⟩ u7).setCell ⟨w.heap.size + 1, 8, none⟩ u8).cell? ⟨w.heap.size, 2 + 2, none⟩ = some (.string xA) ∧ (((((((((W.setCell ⟨w.heap.size + 1, 0, none⟩ u0).setCell ⟨w.heap.size + 1, 1, none⟩ u1).setCell ⟨w.heap.size + 1, 2, none⟩ u2).setCell ⟨w.heap.size + 1, 3, none⟩ u3).setCell ⟨w.heap.size + 1, 4, none⟩ u4).setCell ⟨w.heap.size + 1, 5, none⟩ u5).setCell ⟨w.heap.size + 1, 6, none⟩ u6).setCell ⟨w.heap.size + 1, 7, none⟩ u7).setCell ⟨w.heap.size + 1, 8, none⟩ u8).cell? ⟨w.heap.size, 2 + 3, none⟩ = some (.string yA) ∧ (((((((((W.setCell ⟨w.heap.size + 1, 0, none⟩ u0).setCell ⟨w.heap.size + 1, 1, none⟩ u1).setCell ⟨w.heap.size + 1, 2, none⟩ u2).setCell ⟨w.heap.size + 1, 3, none⟩ u3).setCell ⟨w.heap.size + 1, 4, none⟩ u4).setCell ⟨w.heap.size + 1, 5, none⟩ u5).setCell ⟨w.heap.size + 1, 6, none⟩ u6).setCell ⟨w.heap.size + 1, 7, none⟩ u7).setCell ⟨w.heap.size + 1, 8, none⟩ u8).cell? ⟨w.heap.size, 2 + 4, none⟩ = some (.slice a0 m0 c0) ∧ (((((((((W.setCell ⟨w.heap.size + 1, 0, none⟩ u0).setCell ⟨w.heap.size + 1, 1, none⟩ u1).setCell ⟨w.heap.size + 1, 2, none⟩ u2).setCell ⟨w.heap.size + 1, 3, none⟩ u3).setCell ⟨w.heap.size + 1, 4, none⟩ u4).setCell ⟨w.heap.size + 1, 5, none⟩ u5).setCell ⟨w.heap.size + 1, 6, none⟩ u6).setCell ⟨w.heap.size + 1, 7, none⟩ u7).setCell ⟨w.heap.size + 1, 8, none⟩ u8).cell? ⟨w.heap.size, 2 + 5, none⟩ = some (.slice a1 m1 c1) ∧ (((((((((W.setCell ⟨w.heap.size + 1, 0, none⟩ u0).setCell ⟨w.heap.size + 1, 1, none⟩ u1).setCell ⟨w.heap.size + 1, 2, none⟩ u2).setCell ⟨w.heap.size + 1, 3, none⟩ u3).setCell ⟨w.heap.size + 1, 4, none⟩ u4).setCell ⟨w.heap.size + 1, 5, none⟩ u5).setCell ⟨w.heap.size + 1, 6, none⟩ u6).setCell ⟨w.heap.size + 1, 7, none⟩ u7).setCell ⟨w.heap.size + 1, 8, none⟩ u8).cell? ⟨w.heap.size, 2 + 6, none⟩ = some (.slice a2 m2 c2))) := fun W u0 u1 u2 u3 u4 u5 u6 u7 u8 h => ⟨by rw [cell_off hneq, cell_off hneq, cell_off hneq, cell_off hneq, cell_off hneq, cell_off hneq, cell_off hneq, cell_off hneq, cell_off hneq]; exact h.1, by rw [cell_off hneq, cell_off hneq, cell_off hneq, cell_off hneq, cell_off hneq, cell_off hneq, cell_off hneq, cell_off hneq, cell_off hneq]; exact h.2.1, by rw [cell_off hneq, cell_off hneq, cell_off hneq, cell_off hneq, cell_off hneq, cell_off hneq, cell_off hneq, cell_off hneq, cell_off hneq]; exact h.2.2.1, by rw [cell_off hneq, cell_off hneq, cell_off hneq, cell_off hneq, cell_off hneq, cell_off hneq, cell_off hneq, cell_off hneq, cell_off hneq]; exact h.2.2.2.1, by rw [cell_off hneq, cell_off hneq, cell_off hneq, cell_off hneq, cell_off hneq, cell_off hneq, cell_off hneq, cell_off hneq, cell_off hneq]; exact h.2.2.2.2.1, by rw [cell_off hneq, cell_off hneq, cell_off hneq, cell_off hneq, cell_off hneq, cell_off hneq, cell_off hneq, cell_off hneq, cell_off hneq]; exact h.2.2.2.2.2.1, by rw [cell_off hneq, cell_off hneq, cell_off hneq, cell_off hneq, cell_off hneq, cell_off hneq, cell_off hneq, cell_off hneq, cell_off hneq]; exact h.2.2.2.2.2.2.1, by rw [cell_off hneq, cell_off hneq, cell_off hneq, cell_off hneq, cell_off hneq, cell_off hneq, cell_off hneq, cell_off hneq, cell_off hneq]; exact h.2.2.2.2.2.2.2⟩
  have CT1 := hide (CT.out w2.drew _ ps hf2.drew hb2 ((hfr.pairs.kept (stays_of_fr (Fr.refl No w2).drew)).kept (S' := fun g => g ≠ w.heap.size + 2) ⟨Nat.le_refl _, fun g hg _ => ⟨hg.2.1, rfl⟩⟩) hfr.len2 hfr.short2)
  have F2 := hide hf2
  have FR := hide hfr
  have G1 := hide g1
  have kg0 := cell_of_heap g0
  have lg0 := lt_of_heap g0
  clear hf2 hb2 hfr CF CT g0 g1
  go_wp2_with fail
  go_region_held3 (fun w' : World => w'.cell? ⟨w.heap.size, 0, none⟩ = some (.string f.1) ∧ w'.cell? ⟨w.heap.size, 2, none⟩ = some (.int .i64 kA) ∧ w'.cell? ⟨w.heap.size, 2 + 1, none⟩ = some (.int .i64 nA) ∧ w'.cell? ⟨w.heap.size, 2 + 2, none⟩ = some (.string xA) ∧ w'.cell? ⟨w.heap.size, 2 + 3, none⟩ = some (.string yA) ∧ w'.cell? ⟨w.heap.size, 2 + 4, none⟩ = some (.slice a0 m0 c0) ∧ w'.cell? ⟨w.heap.size, 2 + 5, none⟩ = some (.slice a1 m1 c1) ∧ w'.cell? ⟨w.heap.size, 2 + 6, none⟩ = some (.slice a2 m2 c2)) (first | with_reducible assumption | with_reducible exact HZ.out | with_reducible exact KC.out _ _ _ _ _ _ _ _ _ _ (by with_reducible assumption))
    (first
    | (go_at_call 64; refine CT1.out.mono ?_; rintro e w3 ⟨kC, nC, xC, yC, r0, p0, d0, r1, p1, d1, r2, p2, d2, rfl, hf3, m, hp3, hm3⟩; have hz3 := SF.out w3 ((Fr.refl (· = w.heap.size + 2) w2).drew.trans hf3); have F3 := hide hf3; have P3 := hide (And.intro hp3 hm3); have G3 := hide (fr_heap (w := w2.drew) G1.out hf3 (fun e => by have e : w.heap.size + 1 = w.heap.size + 2 := e; omega)); have kg3 := cell_of_heap G3.out; have kz3 := frozen_of_heap G3.out; have kl3 := lt_of_heap G3.out; clear hf3 hp3 hm3))
  all_goals
    obtain ⟨s1, s2⟩ := set9f G3.out (.string f.1) (.slice na f.2.1.length nc) (.int .i64 kC) (.int .i64 nC) (.string xC) (.string yC) (.slice r0 p0 d0) (.slice r1 p1 d1) (.slice r2 p2 d2)
    go_wp2_with fail
    have f23 : Fr (· = w.heap.size + 2) W0 w3 := F2.out.drew.trans F3.out
    have h0s := F0.out.size
    refine bodyPost_ret (retF rfl _ _ (w.heap.size + 1) _ _ _ _ _ _ _ _ _ (0, 0) rfl s1) rfl ?_
    have st3 : ∀ X, Fr (· = w.heap.size + 1) w3 X → Stays (fun g => S g ∧ g ≠ w.heap.size + 2 ∧ g ≠ w.heap.size + 1) S w3 X := fun X hX => stays_fr hX (fun g hg _ e => hg.2.2 e) (fun g hg => hg.1)
    refine ⟨na, nc, kC, nC, xC, yC, r0, p0, d0, r1, p1, d1, r2, p2, d2, rfl, (F0.out.trans' f23 (fun j hj e => by have e : j = w.heap.size + 2 := e; omega)).trans' s2 (fun j hj e => by have e : j = w.heap.size + 1 := e; omega), ns, m, ⟨?_, FR.out.short1⟩, FR.out.len1, P3.out.1.kept (st3 _ s2), P3.out.2⟩
    rw [FR.out.len1]
    exact (((FR.out.names.kept (stays_of_fr (Fr.refl No w2).drew)).kept (stays_fr F3.out (fun g hg _ e => hg.2.1 e) (fun _ h => h)))).kept (st3 _ s2)
end Go.Proofs.YtomahbdidlglfacGreatDoor
