/- own: 'Term', 'Erase', walked over what they call. -/
import Derived.Test.YtdcdegeeaakekacDoorEr1Er2
import Derived.Test.YtdcdegeeaakekacDoorOt5
namespace Go.Proofs.YtdcdegeeaakekacDoor
open Go.RowKit Go.Maps Go.WideMaps

set_option maxRecDepth 100000 in
set_option maxHeartbeats 2000000 in
theorem ownTerm_any (k : Nat) (t : Pu.TT k) (t' : Tm) (hst : StepC k t t') (B : Nat) (w : World) (cs : List Value) (ov : Value) (l : List ByteArray) (hT : RT k B w cs t) (hB : B ≤ w.heap.size) (hl : Names w.heap.size w ov l) (hw : Pu.wt k t ≤ 1073741824) (hn : l.length ≤ 1073741824) :
    Calls Tryd.prog 22 #[.agg cs.toArray, ov] w fun e w' => ∃ cs', e = .returned (.agg cs'.toArray) ∧ Fr No w w' ∧ RS (New w w') w' cs' (cnt 9 (gone k t l) t') := by
  obtain ⟨kd, n, x, y, a0, n0, c0, a1, n1, c1, a2, n2, c2, rfl⟩ := hT.form
  obtain ⟨oa, oc, rfl, _, _⟩ := hl.1.form
  have hTB := tb_new w #[.int .i64 kd, .int .i64 n, .string x, .string y, .slice a0 n0 c0, .slice a1 n1 c1, .slice a2 n2 c2]
  obtain ⟨W0, hW0⟩ : ∃ W0, W0 = ((w.alloc (.cells #[.int .i64 kd, .int .i64 n, .string x, .string y, .slice a0 n0 c0, .slice a1 n1 c1, .slice a2 n2 c2] 31)).alloc (.cells #[.int .i64 0, .int .i64 0, .string ⟨#[]⟩, .string ⟨#[]⟩, .slice none 0 0, .slice none 0 0, .slice none 0 0] 31)) := ⟨_, rfl⟩
  rw [← hW0] at hTB
  have CO : Hid (Calls Tryd.prog 39 #[.agg #[.int .i64 kd, .int .i64 n, .string x, .string y, .slice a0 n0 c0, .slice a1 n1 c1, .slice a2 n2 c2]] W0 fun e w' => ∃ d0 d1 d2 d3 d4 d5 d6, e = .returned (.agg #[d0, d1, d2, d3, d4, d5, d6]) ∧ Fr No W0 w' ∧ RTS k (New W0 w') w' [d0, d1, d2, d3, d4, d5, d6] t) :=
    (own_all k B W0 _ t (hT.old (hTB.fr.old hB (fun _ _ e => e)) hTB.fr.size) (Nat.le_trans hB hTB.fr.size) hw).mono fun e w' ⟨cs', he, hf, hr⟩ => by
      obtain ⟨_, _, _, _, _, _, _, _, _, _, _, _, _, rfl⟩ := hr.form
      exact ⟨_, _, _, _, _, _, _, he, hf, hr⟩
  have CT : Hid (∀ W S d0 d1 d2 d3 d4 d5 d6, Fr No w W → RTS k S W [d0, d1, d2, d3, d4, d5, d6] t → (∀ g, S g → g < W.heap.size) → Calls Tryd.prog 41 #[.agg #[d0, d1, d2, d3, d4, d5, d6], .slice oa l.length oc] W fun e w' => ∃ kd' n' x' y' a0' n0' c0' a1' n1' c1' a2' n2' c2', e = .returned (.agg #[.int .i64 kd', .int .i64 n', .string x', .string y', .slice a0' n0' c0', .slice a1' n1' c1', .slice a2' n2' c2']) ∧ Fr No W w' ∧ RS (fun g => S g ∨ New W w' g) w' [.int .i64 kd', .int .i64 n', .string x', .string y', .slice a0' n0' c0', .slice a1' n1' c1', .slice a2' n2' c2'] (cnt 9 (gone k t l) t')) := fun W S d0 d1 d2 d3 d4 d5 d6 hW hr hS =>
    (term_of_step k t t' hst S W _ _ l hr hS (hl.kept (hW.old (Nat.le_refl _) (fun _ _ e => e)) hW.size hW.size) hw hn).mono fun e w' ⟨cs', he, hf, hr⟩ => by
      obtain ⟨_, _, _, _, _, _, _, _, _, _, _, _, _, rfl⟩ := hr.form
      exact ⟨_, _, _, _, _, _, _, _, _, _, _, _, _, he, hf, hr⟩
  have T0 := hide hTB
  have HW0 := hide hW0
  have k0 := cell_of_heap hTB.t
  rw [hW0] at k0
  clear hT hl hst hTB hW0 hw hn
  show Calls Tryd.prog 22 #[.agg #[.int .i64 kd, .int .i64 n, .string x, .string y, .slice a0 n0 c0, .slice a1 n1 c1, .slice a2 n2 c2], .slice oa l.length oc] w _
  go_enter Tryd.func22, Tryd.ntmps22
  go_wp2_with fail
  rw [← HW0.out]
  clear k0
  refine CO.out.mono ?_
  rintro e w1 ⟨d0, d1, d2, d3, d4, d5, d6, rfl, hf1, hr1⟩
  have T1 := hide (T0.out.step hf1)
  have HR1 := hide hr1
  have hs01 := hf1.size
  clear hf1 hr1 CO
  go_wp2_with fail
  refine (CT.out w1 (New W0 w1) _ _ _ _ _ _ _ T1.out.fr HR1.out (fun g h => h.2)).mono ?_
  rintro e w2 ⟨kd', n', x', y', a0', n0', c0', a1', n1', c1', a2', n2', c2', rfl, hf2, hr2⟩
  have T2 := hide (T1.out.step hf2)
  have HR2 := hide (And.intro hr2 hf2.size)
  have k2 := cell_of_heap T2.out.r
  have z2 := frozen_of_heap T2.out.r
  have l2 := lt_of_heap T2.out.r
  have l0 := lt_of_heap T0.out.r
  have s1 := T1.out.fr.size
  clear hf2 hr2 CT
  go_wp2_with fail
  obtain ⟨t1, t2⟩ := set7 T2.out.r (.int .i64 kd') (.int .i64 n') (.string x') (.string y') (.slice a0' n0' c0') (.slice a1' n1' c1') (.slice a2' n2' c2')
  have s2 := HR2.out.2
  have s0 := T0.out.fr.size
  refine bodyPost_ret (retT rfl _ _ (w.heap.size + 1) _ _ _ _ _ _ _ (0, 0) rfl t1) rfl ⟨_, rfl, ?_, ?_⟩
  · exact T2.out.fr.trans' t2 (fun i hi e => by have e : i = w.heap.size + 1 := e; omega)
  · have s3 := t2.size
    exact HR2.out.1.kept (stays_fr t2 (fun g hg _ e => by
      have e : g = w.heap.size + 1 := e
      rcases hg with h | h
      · have := h.1; omega
      · have := h.1; omega) (fun g hg => by
      rcases hg with h | h
      · exact ⟨by have := h.1; omega, by have := h.2; omega⟩
      · exact ⟨by have := h.1; omega, by have := h.2; omega⟩))
end Go.Proofs.YtdcdegeeaakekacDoor

/- own: 'Erase' at what counts around a term of names, walked. -/
namespace Go.Proofs.YtdcdegeeaakekacDoor
open Go.RowKit Go.Maps Go.WideMaps

set_option maxRecDepth 100000 in
set_option maxHeartbeats 2000000 in
theorem ownErase_any (k : Nat) (nd : Pu.Node (Pu.TT k)) (hk : nd.kind = 1 ∨ nd.kind = 3) (hcl : nd.cases.length = 0) (ha : ∀ i (h : i < nd.args.length), ErSame k nd.args[i]) (hal : nd.args.length ≤ 1000) (s : List (Int × ByteArray)) (hs : ∀ p ∈ s, p.1 = 8 ∨ p.1 = 9) (B : Nat) (w : World) (cs : List Value) (hT : RT (spine s ⟨k + 1, nd⟩).1 B w cs (spine s ⟨k + 1, nd⟩).2) (hB : B ≤ w.heap.size) (hw : Pu.wt (spine s ⟨k + 1, nd⟩).1 (spine s ⟨k + 1, nd⟩).2 ≤ 1073741824) :
    Calls Tryd.prog 19 #[.agg cs.toArray] w fun e w' => ∃ cs', e = .returned (.agg cs'.toArray) ∧ Fr No w w' ∧ RS (New w w') w' cs' ⟨k + 1, nd⟩ := by
  obtain ⟨kd, n, x, y, a0, n0, c0, a1, n1, c1, a2, n2, c2, rfl⟩ := hT.form
  have hTB := tb_new w #[.int .i64 kd, .int .i64 n, .string x, .string y, .slice a0 n0 c0, .slice a1 n1 c1, .slice a2 n2 c2]
  obtain ⟨W0, hW0⟩ : ∃ W0, W0 = ((w.alloc (.cells #[.int .i64 kd, .int .i64 n, .string x, .string y, .slice a0 n0 c0, .slice a1 n1 c1, .slice a2 n2 c2] 31)).alloc (.cells #[.int .i64 0, .int .i64 0, .string ⟨#[]⟩, .string ⟨#[]⟩, .slice none 0 0, .slice none 0 0, .slice none 0 0] 31)) := ⟨_, rfl⟩
  rw [← hW0] at hTB
  have CO : Hid (Calls Tryd.prog 39 #[.agg #[.int .i64 kd, .int .i64 n, .string x, .string y, .slice a0 n0 c0, .slice a1 n1 c1, .slice a2 n2 c2]] W0 fun e w' => ∃ d0 d1 d2 d3 d4 d5 d6, e = .returned (.agg #[d0, d1, d2, d3, d4, d5, d6]) ∧ Fr No W0 w' ∧ RS (New W0 w') w' [d0, d1, d2, d3, d4, d5, d6] (spine s ⟨k + 1, nd⟩)) :=
    (own_all _ B W0 _ _ (hT.old (hTB.fr.old hB (fun _ _ e => e)) hTB.fr.size) (Nat.le_trans hB hTB.fr.size) hw).mono fun e w' ⟨cs', he, hf, hr⟩ => by
      obtain ⟨_, _, _, _, _, _, _, _, _, _, _, _, _, rfl⟩ := hr.form
      exact ⟨_, _, _, _, _, _, _, he, hf, hr⟩
  have CT : Hid (∀ W S d0 d1 d2 d3 d4 d5 d6, RS S W [d0, d1, d2, d3, d4, d5, d6] (spine s ⟨k + 1, nd⟩) → (∀ g, S g → g < W.heap.size) → Calls Tryd.prog 38 #[.agg #[d0, d1, d2, d3, d4, d5, d6]] W fun e w' => ∃ kd' n' x' y' a0' n0' c0' a1' n1' c1' a2' n2' c2', e = .returned (.agg #[.int .i64 kd', .int .i64 n', .string x', .string y', .slice a0' n0' c0', .slice a1' n1' c1', .slice a2' n2' c2']) ∧ Fr No W w' ∧ RS S w' [.int .i64 kd', .int .i64 n', .string x', .string y', .slice a0' n0' c0', .slice a1' n1' c1', .slice a2' n2' c2'] ⟨k + 1, nd⟩) := fun W S d0 d1 d2 d3 d4 d5 d6 hr hS =>
    (er_flat k nd hk hcl ha hal s hs S W _ hr hS).mono fun e w' ⟨cs', he, hf, hr, _⟩ => by
      obtain ⟨_, _, _, _, _, _, _, _, _, _, _, _, _, rfl⟩ := hr.form
      exact ⟨_, _, _, _, _, _, _, _, _, _, _, _, _, he, hf, hr⟩
  have T0 := hide hTB
  have HW0 := hide hW0
  have k0 := cell_of_heap hTB.t
  rw [hW0] at k0
  clear hT hTB hW0 hw hk hcl ha hal hs
  show Calls Tryd.prog 19 #[.agg #[.int .i64 kd, .int .i64 n, .string x, .string y, .slice a0 n0 c0, .slice a1 n1 c1, .slice a2 n2 c2]] w _
  go_enter Tryd.func19, Tryd.ntmps19
  go_wp2_with fail
  rw [← HW0.out]
  clear k0
  refine CO.out.mono ?_
  rintro e w1 ⟨d0, d1, d2, d3, d4, d5, d6, rfl, hf1, hr1⟩
  have T1 := hide (T0.out.step hf1)
  have HR1 := hide hr1
  have hs01 := hf1.size
  clear hf1 hr1 CO
  go_wp2_with fail
  refine (CT.out w1 (New W0 w1) _ _ _ _ _ _ _ HR1.out (fun g h => h.2)).mono ?_
  rintro e w2 ⟨kd', n', x', y', a0', n0', c0', a1', n1', c1', a2', n2', c2', rfl, hf2, hr2⟩
  have T2 := hide (T1.out.step hf2)
  have HR2 := hide (And.intro hr2 hf2.size)
  have k2 := cell_of_heap T2.out.r
  have z2 := frozen_of_heap T2.out.r
  have l2 := lt_of_heap T2.out.r
  have l0 := lt_of_heap T0.out.r
  have s1 := T1.out.fr.size
  clear hf2 hr2 CT
  go_wp2_with fail
  obtain ⟨t1, t2⟩ := set7 T2.out.r (.int .i64 kd') (.int .i64 n') (.string x') (.string y') (.slice a0' n0' c0') (.slice a1' n1' c1') (.slice a2' n2' c2')
  have s2 := HR2.out.2
  have s0 := T0.out.fr.size
  refine bodyPost_ret (retT rfl _ _ (w.heap.size + 1) _ _ _ _ _ _ _ (0, 0) rfl t1) rfl ⟨_, rfl, ?_, ?_⟩
  · exact T2.out.fr.trans' t2 (fun i hi e => by have e : i = w.heap.size + 1 := e; omega)
  · have s3 := t2.size
    exact HR2.out.1.kept (stays_fr t2 (fun g hg _ e => by
      have e : g = w.heap.size + 1 := e
      have := hg.1; omega) (fun g hg => ⟨by have := hg.1; omega, by have := hg.2; omega⟩))
end Go.Proofs.YtdcdegeeaakekacDoor
