/- own: 'term', walked over what 'step' answers, where that leaves what it is handed as it is. -/
import Derived.Test.YtomahbdidlglfacGreatDoorOc2DkDpOc3Oc4Er1
import Derived.Deep.Cut
import Derived.Deep.RegionLaw
namespace Go.Proofs.YtomahbdidlglfacGreatDoor
open Go.RowKit Go.Maps Go.WideMaps

theorem RTS.rt {S : Nat → Prop} {B : Nat} {w : World} (hS : ∀ g, S g → g < B) : ∀ {k : Nat} {cs : List Value} {t : Pu.TT k}, RTS k S w cs t → RT k B w cs t
  | 0, _, _, h => h.elim
  | _ + 1, _, _, h => by
    obtain ⟨vv, av, cv, acs, ccs, h1, h2, h3, h4, h5, h6, h7, h8⟩ := h
    exact ⟨vv, av, cv, acs, ccs, h1, h2, h3, ⟨h4.1.row hS, h4.2⟩, h5.row hS, h6.mono (fun _ _ h => RTS.rt hS h), h7.row hS, h8.mono (fun _ _ h => by
      obtain ⟨vv, b, e1, e2, e3, e4⟩ := h
      exact ⟨vv, b, e1, ⟨e2.1.row hS, e2.2⟩, e3, RTS.rt hS e4⟩)⟩

/-- 'step' at t answers t', whatever is owned; what lay lies as it lay. -/
def StepC (k : Nat) (t : Pu.TT k) (t' : Tm) : Prop := ∀ (S : Nat → Prop) (w : World) (cs : List Value) (ov : Value) (l : List ByteArray), RTS k S w cs t → (∀ g, S g → g < w.heap.size) → Names w.heap.size w ov l →
  Calls Tryz.prog 75 #[.agg cs.toArray, ov] w fun e w' => ∃ cs', e = .returned (.agg cs'.toArray) ∧ Fr No w w' ∧ RS (fun g => S g ∨ New w w' g) w' cs' t'

/-- What goes first. -/
def gone (k : Nat) (t : Pu.TT k) (l : List ByteArray) : List ByteArray := l.filter fun x => !Pu.has (Pu.free k t) x

/-- A func value that answers p of each name, while what lies stays. -/
abbrev IsA (w : World) (v : Value) (p : ByteArray → Bool) : Prop := Is (fun g => g < w.heap.size) w v p
theorem Is.all {S : Nat → Prop} {w : World} {v : Value} {p : ByteArray → Bool} (h : Is S w v p) : IsA w v p := h.kept ⟨Nat.le_refl _, fun _ _ hl => ⟨hl, rfl⟩⟩
theorem IsA.fr {w w' : World} {v : Value} {p : ByteArray → Bool} (h : IsA w v p) (hf : Fr No w w') : IsA w' v p := h.kept ⟨hf.size, fun g hg _ => ⟨Nat.lt_of_lt_of_le hg hf.size, hf.block g hg (fun e => e)⟩⟩

/-- What is kept of the call's own boxes: the term, the result. -/
structure TB (w : World) (cs : Array Value) (W : World) : Prop where
  fr : Fr No w W
  t : W.heap[w.heap.size]? = some (.cells cs 32 (0, 0))
  r : W.heap[w.heap.size + 1]? = some (.cells #[.int .i64 0, .int .i64 0, .string ⟨#[]⟩, .string ⟨#[]⟩, .slice none 0 0, .slice none 0 0, .slice none 0 0] 32 (0, 0))
theorem TB.step {w W W' : World} {cs : Array Value} (h : TB w cs W) (hf : Fr No W W') : TB w cs W' := ⟨h.fr.trans hf, fr_heap h.t hf (fun e => e), fr_heap h.r hf (fun e => e)⟩

theorem wf8 : (Lit.int .i64 8).wf = true := by decide
theorem wf9 : (Lit.int .i64 9).wf = true := by decide

set_option maxRecDepth 100000 in
set_option maxHeartbeats 4000000 in
theorem term_of_step (k : Nat) (t : Pu.TT k) (t' : Tm) (hst : StepC k t t') (S : Nat → Prop) (w : World) (cs : List Value) (ov : Value) (l : List ByteArray) (hT : RTS k S w cs t) (hS : ∀ g, S g → g < w.heap.size) (hl : Names w.heap.size w ov l) (hw : Pu.wt k t ≤ 1073741824) (hn : l.length ≤ 1073741824) :
    Calls Tryz.prog 38 #[.agg cs.toArray, ov] w fun e w' => ∃ cs', e = .returned (.agg cs'.toArray) ∧ Fr No w w' ∧ RS (fun g => S g ∨ New w w' g) w' cs' (cnt 9 (gone k t l) t') := by
  obtain ⟨kd, n, x, y, a0, n0, c0, a1, n1, c1, a2, n2, c2, rfl⟩ := hT.form
  obtain ⟨oa, oc, rfl, _, _⟩ := hl.1.form
  obtain ⟨W0, hW0⟩ : ∃ W0, W0 = ((w.alloc (.cells #[.int .i64 kd, .int .i64 n, .string x, .string y, .slice a0 n0 c0, .slice a1 n1 c1, .slice a2 n2 c2] 32)).alloc (.cells #[.int .i64 0, .int .i64 0, .string ⟨#[]⟩, .string ⟨#[]⟩, .slice none 0 0, .slice none 0 0, .slice none 0 0] 32)) := ⟨_, rfl⟩
  have f0 : Fr No w W0 := by rw [hW0]; exact ((Fr.refl No w).alloc _).alloc _
  have b0 : W0.heap[w.heap.size]? = some (.cells #[.int .i64 kd, .int .i64 n, .string x, .string y, .slice a0 n0 c0, .slice a1 n1 c1, .slice a2 n2 c2] 32 (0, 0)) := by rw [hW0]; exact fr_heap (heap_alloc_new w _) ((Fr.refl No _).alloc _) (fun e => e)
  have b1 : W0.heap[w.heap.size + 1]? = some (.cells #[.int .i64 0, .int .i64 0, .string ⟨#[]⟩, .string ⟨#[]⟩, .slice none 0 0, .slice none 0 0, .slice none 0 0] 32 (0, 0)) := by
    have h := heap_alloc_new (w.alloc (.cells #[.int .i64 kd, .int .i64 n, .string x, .string y, .slice a0 n0 c0, .slice a1 n1 c1, .slice a2 n2 c2] 32)) (.cells #[.int .i64 0, .int .i64 0, .string ⟨#[]⟩, .string ⟨#[]⟩, .slice none 0 0, .slice none 0 0, .slice none 0 0] 32)
    rw [World.size_alloc] at h
    rw [hW0]; exact h
  have HT : Hid (∀ W, Fr No w W → RTS k S W [.int .i64 kd, .int .i64 n, .string x, .string y, .slice a0 n0 c0, .slice a1 n1 c1, .slice a2 n2 c2] t) := fun W hW => hT.kept (stays_of_fr hW)
  have HL : Hid (∀ W, Fr No w W → Names w.heap.size W (.slice oa l.length oc) l) := fun W hW => hl.kept (hW.old (Nat.le_refl _) (fun _ _ e => e)) (Nat.le_refl _) hW.size
  have CN : Hid (Calls Tryz.prog 71 #[.agg #[.int .i64 kd, .int .i64 n, .string x, .string y, .slice a0 n0 c0, .slice a1 n1 c1, .slice a2 n2 c2]] W0 fun e w' => ∃ u, e = .returned u ∧ Fr No W0 w' ∧ Is (New W0 w') w' u (Pu.has (Pu.free k t))) :=
    needed_any k w.heap.size W0 _ t ((HT.out W0 f0).rt (fun g hg => hS g hg)) f0.size hw
  have hTB : TB w #[.int .i64 kd, .int .i64 n, .string x, .string y, .slice a0 n0 c0, .slice a1 n1 c1, .slice a2 n2 c2] W0 := ⟨f0, b0, b1⟩
  have CNOT : Hid (∀ W u p, IsA W u p → Calls Tryz.prog 73 #[u] W fun e w' => ∃ f cap, e = .returned (.func (.func f) #[] cap) ∧ Fr No W w' ∧ IsA w' (.func (.func f) #[] cap) (fun x => !p x)) := fun W u p hu =>
    (not_any u p _ W hu (fun _ h => h)).mono fun e w' ⟨r, he, hf, hi⟩ => by
      obtain ⟨f, cap, rfl, _⟩ := id hi
      exact ⟨f, cap, he, hf, hi.all⟩
  have COF : Hid (∀ W u p, Fr No w W → IsA W u p → Calls Tryz.prog 74 #[u, .slice oa l.length oc] W fun e w' => ∃ a c, e = .returned (.slice a (l.filter p).length c) ∧ Fr No W w' ∧ Names w'.heap.size w' (.slice a (l.filter p).length c) (l.filter p)) := fun W u p hW hu =>
    (of_any _ w.heap.size u _ p l W hu (HL.out W hW) hW.size (by omega)).mono fun e w' ⟨r, he, hf, hr⟩ => by
      obtain ⟨a, c, rfl⟩ := row_form hr
      exact ⟨a, c, he, hf, own_names hr rfl (fun y hy => hl.2 y (List.mem_filter.1 hy).1)⟩
  have CST : Hid (∀ W v m, TB w #[.int .i64 kd, .int .i64 n, .string x, .string y, .slice a0 n0 c0, .slice a1 n1 c1, .slice a2 n2 c2] W → Names W.heap.size W v m → Calls Tryz.prog 75 #[.agg #[.int .i64 kd, .int .i64 n, .string x, .string y, .slice a0 n0 c0, .slice a1 n1 c1, .slice a2 n2 c2], v] W fun e w' => ∃ d0 d1 d2 d3 d4 d5 d6, e = .returned (.agg #[d0, d1, d2, d3, d4, d5, d6]) ∧ Fr No W w' ∧ RS (fun g => S g ∨ (w.heap.size + 2 ≤ g ∧ g < w'.heap.size)) w' [d0, d1, d2, d3, d4, d5, d6] t') := fun W v m hW hv =>
    (hst S W _ v m (HT.out W hW.fr) (fun g hg => Nat.lt_of_lt_of_le (hS g hg) hW.fr.size) hv).mono fun e w' ⟨cs', he, hf, hr⟩ => by
      obtain ⟨_, _, _, _, _, _, _, _, _, _, _, _, _, rfl⟩ := hr.form
      exact ⟨_, _, _, _, _, _, _, he, hf, hr.kept ⟨Nat.le_refl _, fun g hg _ => ⟨hg.imp (fun h => h) (fun h => ⟨Nat.le_trans (lt_of_heap hW.r) h.1, h.2⟩), rfl⟩⟩⟩
  have CCO : Hid (∀ W v d0 d1 d2 d3 d4 d5 d6, TB w #[.int .i64 kd, .int .i64 n, .string x, .string y, .slice a0 n0 c0, .slice a1 n1 c1, .slice a2 n2 c2] W → Names W.heap.size W v (gone k t l) → RS (fun g => S g ∨ (w.heap.size + 2 ≤ g ∧ g < W.heap.size)) W [d0, d1, d2, d3, d4, d5, d6] t' → Calls Tryz.prog 72 #[.int .i64 9, v, .agg #[d0, d1, d2, d3, d4, d5, d6]] W fun e w' => ∃ kd' n' x' y' a0' n0' c0' a1' n1' c1' a2' n2' c2', e = .returned (.agg #[.int .i64 kd', .int .i64 n', .string x', .string y', .slice a0' n0' c0', .slice a1' n1' c1', .slice a2' n2' c2']) ∧ Fr No W w' ∧ RS (fun g => S g ∨ (w.heap.size + 2 ≤ g ∧ g < w'.heap.size)) w' [.int .i64 kd', .int .i64 n', .string x', .string y', .slice a0' n0' c0', .slice a1' n1' c1', .slice a2' n2' c2'] (cnt 9 (gone k t l) t')) := fun W v d0 d1 d2 d3 d4 d5 d6 hW hv hr =>
    (count_any _ W.heap.size 9 wf9 v (gone k t l) (by have := List.length_filter_le (fun x => !Pu.has (Pu.free k t) x) l; unfold gone; omega) t' _ W hv hr (fun g hg => hg.elim (fun h => Nat.lt_of_lt_of_le (hS g h) hW.fr.size) (fun h => h.2))).mono fun e w' ⟨cs', he, hf, hr⟩ => by
      obtain ⟨_, _, _, _, _, _, _, _, _, _, _, _, _, rfl⟩ := hr.form
      exact ⟨_, _, _, _, _, _, _, _, _, _, _, _, _, he, hf, hr.kept ⟨Nat.le_refl _, fun g hg hl => ⟨hg.elim (fun h => h.imp (fun h => h) (fun h => ⟨h.1, hl⟩)) (fun h => .inr ⟨Nat.le_trans (lt_of_heap hW.r) h.1, h.2⟩), rfl⟩⟩⟩
  have HTB := hide hTB
  have HSS := hide hS
  have HW0 := hide hW0
  have hk0 := cell_of_heap b0
  clear hT hS hl hst f0 b0 b1 hW0 hw HT HL hTB
  show Calls Tryz.prog 38 #[.agg #[.int .i64 kd, .int .i64 n, .string x, .string y, .slice a0 n0 c0, .slice a1 n1 c1, .slice a2 n2 c2], .slice oa l.length oc] w _
  go_enter Tryz.func38, Tryz.ntmps38
  go_wp2_with fail
  rw [← HW0.out]
  refine CN.out.mono ?_
  rintro e w1 ⟨u, rfl, hf1, hi1⟩
  obtain ⟨fu, cu, rfl, eg1, _⟩ := id hi1
  have TB1 := hide (HTB.out.step hf1)
  have I1 := hide hi1.all
  clear hf1 hi1 CN hk0 HTB
  have k1 := cell_of_heap TB1.out.t
  have q1 := lt_of_heap TB1.out.t
  have q2 := lt_of_heap TB1.out.r
  go_wp2_with fail
  go_region_with (first
    | (go_at_call 73; refine (CNOT.out _ _ _ (by first | exact I1.out.fr (Fr.refl No _).drew | exact I1.out)).mono ?_; rintro e w2 ⟨f2, cap2, rfl, hf2, hi2⟩; have TB2 := hide (TB1.out.step ((Fr.refl No _).drew.trans hf2)); have I2 := hide hi2; have I12 := hide (I1.out.fr ((Fr.refl No _).drew.trans hf2)); have k2 := cell_of_heap TB2.out.t; have q3 := lt_of_heap TB2.out.t; clear hf2 hi2 CNOT)
    | (go_at_call 74; refine (COF.out _ _ _ TB2.out.fr I2.out).mono ?_; rintro e w3 ⟨a3, c3, rfl, hf3, hn3⟩; have TB3 := hide (TB2.out.step hf3); have N3 := hide hn3; have I13 := hide (I12.out.fr hf3); have k3 := cell_of_heap TB3.out.t; have q4 := lt_of_heap TB3.out.t; clear hf3 hn3 I2)
    | (go_at_call 74; refine (COF.out _ _ _ TB3.out.fr I13.out).mono ?_; rintro e w4 ⟨a4, c4, rfl, hf4, hn4⟩; have TB4 := hide (TB3.out.step hf4); have N4 := hide hn4; have N34 := hide (N3.out.kept (hf4.old (Nat.le_refl _) (fun _ _ e => e)) hf4.size hf4.size); have k4 := cell_of_heap TB4.out.t; have q5 := lt_of_heap TB4.out.t; clear hf4 hn4 I13)
    | (go_at_call 75; refine (CST.out _ _ _ TB4.out N4.out).mono ?_; rintro e w5 ⟨d0, d1, d2, d3, d4, d5, d6, rfl, hf5, hr5⟩; have TB5 := hide (TB4.out.step hf5); have R5 := hide hr5; have N35 := hide (N34.out.kept (hf5.old (Nat.le_refl _) (fun _ _ e => e)) hf5.size hf5.size); clear hf5 hr5 CST)
    | (go_at_call 72; refine (CCO.out _ _ _ _ _ _ _ _ _ TB5.out N35.out R5.out).mono ?_; rintro e w6 ⟨kd', n', x', y', a0', n0', c0', a1', n1', c1', a2', n2', c2', rfl, hf6, hr6⟩; have TB6 := hide (TB5.out.step hf6); have R6 := hide hr6; have k6 := cell_of_heap TB6.out.r; have z6 := frozen_of_heap TB6.out.r; have q6 := lt_of_heap TB6.out.r; clear hf6 hr6))
  all_goals
    obtain ⟨s1, s2⟩ := set7 TB6.out.r (.int .i64 kd') (.int .i64 n') (.string x') (.string y') (.slice a0' n0' c0') (.slice a1' n1' c1') (.slice a2' n2' c2')
    go_wp2_with fail
    refine bodyPost_ret (retT rfl _ _ (w.heap.size + 1) _ _ _ _ _ _ _ (0, 0) rfl s1) rfl ⟨_, rfl, ?_, ?_⟩
    · exact TB6.out.fr.trans' s2 (fun i hi e => by have e : i = w.heap.size + 1 := e; omega)
    · have hs := TB6.out.fr.size
      have hS6 := HSS.out
      exact R6.out.kept ⟨s2.size, fun g hg hl => ⟨hg.imp (fun h => h) (fun h => ⟨by omega, Nat.lt_of_lt_of_le hl s2.size⟩), s2.block g hl (fun e => by
        have e : g = w.heap.size + 1 := e
        rcases hg with h | h
        · have := hS6 g h; omega
        · omega)⟩⟩
end Go.Proofs.YtomahbdidlglfacGreatDoor

/- own: 'erased' at a spine of what counts around a term of names, walked. -/
namespace Go.Proofs.YtomahbdidlglfacGreatDoor
open Go.RowKit Go.Maps Go.WideMaps

theorem RS.wrap_inv {S : Nat → Prop} {w : World} {cs : List Value} {kd : Int} {x : ByteArray} {t : Tm} (h : RS S w cs (wrap kd x t)) :
    ∃ a0 c0 g o c1 a2 c2 kd' n' x' y' b0 m0 e0 b1 m1 e1 b2 m2 e2, cs = [.int .i64 kd, .int .i64 0, .string x, .string ⟨#[]⟩, .slice a0 0 c0, .slice (some ⟨g, o, none⟩) 1 c1, .slice a2 0 c2] ∧ S g ∧ g < w.heap.size ∧ c1 ≤ maxLen ∧
      RS S w [.int .i64 kd', .int .i64 n', .string x', .string y', .slice b0 m0 e0, .slice b1 m1 e1, .slice b2 m2 e2] t ∧ ∀ j, j < 7 → w.cell? ⟨g, o + j, none⟩ = [Value.int .i64 kd', .int .i64 n', .string x', .string y', .slice b0 m0 e0, .slice b1 m1 e1, .slice b2 m2 e2][j]? := by
  obtain ⟨vv, av, cv, acs, ccs, h1, h2, h3, h4, h5, h6, h7, h8⟩ := h
  obtain ⟨a0, c0, rfl, _, _⟩ := h4.1
  obtain ⟨a2, c2, rfl, _, _⟩ := h7
  obtain ⟨a1, c1, rfl, _, hc1, hrow⟩ := h5
  obtain ⟨g, o, rfl, hS, hg, _, hcell⟩ := hrow (by show 0 < 1; decide)
  obtain ⟨ck, rest, rfl, hl, hr, hrest⟩ := h6
  have hrest' : rest = [] := hrest
  subst hrest'
  obtain ⟨kd', n', x', y', b0, m0, e0, b1, m1, e1, b2, m2, e2, rfl⟩ := hr.form
  exact ⟨a0, c0, g, o, c1, a2, c2, kd', n', x', y', b0, m0, e0, b1, m1, e1, b2, m2, e2, h1, hS, hg, hc1, hr, fun j hj => by rw [hcell j (by simpa using hj)]; simp⟩

/-- 'erased' answers what it was handed. -/
def ErSame (k : Nat) (t : Pu.TT k) : Prop := ∀ (S : Nat → Prop) (w : World) (cs : List Value), RTS k S w cs t → (∀ g, S g → g < w.heap.size) →
  Calls Tryz.prog 39 #[.agg cs.toArray] w fun e w' => e = .returned (.agg cs.toArray) ∧ Fr No w w'

theorem tb_new' (w : World) (cs : Array Value) : TB w cs ((w.alloc (.cells cs 32)).alloc (.cells #[.int .i64 0, .int .i64 0, .string ⟨#[]⟩, .string ⟨#[]⟩, .slice none 0 0, .slice none 0 0, .slice none 0 0] 32)) := by
  refine ⟨((Fr.refl No w).alloc _).alloc _, fr_heap (heap_alloc_new w _) ((Fr.refl No _).alloc _) (fun e => e), ?_⟩
  have h := heap_alloc_new (w.alloc (.cells cs 32)) (.cells #[.int .i64 0, .int .i64 0, .string ⟨#[]⟩, .string ⟨#[]⟩, .slice none 0 0, .slice none 0 0, .slice none 0 0] 32)
  rw [World.size_alloc] at h
  exact h

theorem args_atS {k : Nat} {S : Nat → Prop} {w : World} {av : Value} {acs : List Value} {args : List (Pu.TT k)} (hr : RowS S w av args.length acs) (he : Each 7 (RTS k S w) acs args) (i : Nat) (hi : i < args.length) :
    ∃ g o cap kd n x y a0 n0 c0 a1 n1 c1 a2 n2 c2, av = .slice (some ⟨g, o, none⟩) args.length cap ∧ cap ≤ maxLen ∧ S g ∧ g < w.heap.size ∧
      RTS k S w [.int .i64 kd, .int .i64 n, .string x, .string y, .slice a0 n0 c0, .slice a1 n1 c1, .slice a2 n2 c2] args[i] ∧ (∀ j, j < 7 → w.frozen? ⟨g, o + i * 7 + j, none⟩ = false) ∧
      ∀ j, j < 7 → w.cell? ⟨g, o + i * 7 + j, none⟩ = [Value.int .i64 kd, .int .i64 n, .string x, .string y, .slice a0 n0 c0, .slice a1 n1 c1, .slice a2 n2 c2][j]? := by
  obtain ⟨a, cap, rfl, _, hcap, hrow⟩ := hr
  obtain ⟨g, o, rfl, hS, hg, hz, hcell⟩ := hrow (by omega)
  obtain ⟨ck, h1, h2, h3⟩ := he.get i args[i] (List.getElem?_eq_getElem hi)
  have hl := he.length
  obtain ⟨kd, n, x, y, a0, n0, c0, a1, n1, c1, a2, n2, c2, rfl⟩ := h2.form
  refine ⟨g, o, cap, kd, n, x, y, a0, n0, c0, a1, n1, c1, a2, n2, c2, rfl, hcap, hS, hg, h2, fun j hj => ?_, fun j hj => ?_⟩
  · rw [Nat.add_assoc]; exact hz _ (by rw [hl]; have : i * 7 + 7 ≤ args.length * 7 := by omega
                                       omega)
  · rw [Nat.add_assoc, hcell _ (by rw [hl]; have : i * 7 + 7 ≤ args.length * 7 := by omega
                                   omega)]
    exact h3 j hj

set_option maxRecDepth 100000 in
set_option maxHeartbeats 8000000 in
theorem er_flat (k : Nat) (nd : Pu.Node (Pu.TT k)) (hk : nd.kind = 1 ∨ nd.kind = 3) (hcl : nd.cases.length = 0) (ha : ∀ i (h : i < nd.args.length), ErSame k nd.args[i]) (hal : nd.args.length ≤ 1000) (s : List (Int × ByteArray)) (hs : ∀ p ∈ s, p.1 = 8 ∨ p.1 = 9) (S : Nat → Prop) (w : World) (cs : List Value) (hT : RS S w cs (spine s ⟨k + 1, nd⟩)) (hS : ∀ g, S g → g < w.heap.size) :
    Calls Tryz.prog 39 #[.agg cs.toArray] w fun e w' => ∃ cs', e = .returned (.agg cs'.toArray) ∧ Fr No w w' ∧ RS S w' cs' ⟨k + 1, nd⟩ ∧ (s = [] → cs' = cs) := by
  obtain ⟨kd, n, x, y, a0, n0, c0, a1, n1, c1, a2, n2, c2, rfl⟩ := hT.form
  have hTB := tb_new' w #[.int .i64 kd, .int .i64 n, .string x, .string y, .slice a0 n0 c0, .slice a1 n1 c1, .slice a2 n2 c2]
  obtain ⟨W0, hW0⟩ : ∃ W0, W0 = ((w.alloc (.cells #[.int .i64 kd, .int .i64 n, .string x, .string y, .slice a0 n0 c0, .slice a1 n1 c1, .slice a2 n2 c2] 32)).alloc (.cells #[.int .i64 0, .int .i64 0, .string ⟨#[]⟩, .string ⟨#[]⟩, .slice none 0 0, .slice none 0 0, .slice none 0 0] 32)) := ⟨_, rfl⟩
  rw [← hW0] at hTB
  have HT := hide hT
  have T0 := hide hTB
  have HSS := hide hS
  have HS := hide hs
  have HA := hide ha
  have HK := hide hk
  have HAL := hide hal
  clear hT hTB hS hs ha hk hal
  show Calls Tryz.prog 39 #[.agg #[.int .i64 kd, .int .i64 n, .string x, .string y, .slice a0 n0 c0, .slice a1 n1 c1, .slice a2 n2 c2]] w _
  go_enter Tryz.func39, Tryz.ntmps39
  go_wp2_with fail
  rw [← hW0]
  clear hW0
  go_loopg [] (s.length + 1) (fun gn wr => ∃ done rest kd' n' x' y' b0 m0 e0 b1 m1 e1 b2 m2 e2, s = done ++ rest ∧ gn = rest.length + 1 ∧ wr.heap[w.heap.size]? = some (.cells #[.int .i64 kd', .int .i64 n', .string x', .string y', .slice b0 m0 e0, .slice b1 m1 e1, .slice b2 m2 e2] 32 (0, 0)) ∧ RS S wr [.int .i64 kd', .int .i64 n', .string x', .string y', .slice b0 m0 e0, .slice b1 m1 e1, .slice b2 m2 e2] (spine rest ⟨k + 1, nd⟩) ∧ Fr (· = w.heap.size) W0 wr ∧ (done = [] → [Value.int .i64 kd', .int .i64 n', .string x', .string y', .slice b0 m0 e0, .slice b1 m1 e1, .slice b2 m2 e2] = [.int .i64 kd, .int .i64 n, .string x, .string y, .slice a0 n0 c0, .slice a1 n1 c1, .slice a2 n2 c2]))
  case atStart => exact ⟨[], s, kd, n, x, y, a0, n0, c0, a1, n1, c1, a2, n2, c2, rfl, rfl, T0.out.t, HT.out.kept (stays_of_fr T0.out.fr), Fr.refl _ _, fun _ => rfl⟩
  case round =>
    obtain ⟨done, rest, kd', n', x', y', b0, m0, e0, b1, m1, e1, b2, m2, e2, hse, hgn, hbx, hrs, hfr, hsame⟩ := hrel
    have k0 := cell_of_heap hbx
    have z0 := frozen_of_heap hbx
    have l0 := lt_of_heap hbx
    cases rest with
    | cons p rest =>
      have hp := HS.out p (by rw [hse]; exact List.mem_append_right _ (List.mem_cons_self ..))
      obtain ⟨d0, dc0, g, o, dc1, d2, dc2, kd2, n2', x2, y2, f0, r0, s0, f1, r1, s1, f2, r2, s2, he, hSg, hg, hc1, hr2, hcell⟩ := RS.wrap_inv (t := spine rest ⟨k + 1, nd⟩) (kd := p.1) (x := p.2) hrs
      simp only [List.cons.injEq, Value.int.injEq, Value.string.injEq, Value.slice.injEq, and_true, true_and] at he
      obtain ⟨rfl, rfl, rfl, rfl, ⟨rfl, rfl, rfl⟩, ⟨rfl, rfl, rfl⟩, ⟨rfl, rfl, rfl⟩⟩ := he
      have CC : Hid (∀ u, Calls Tryz.prog 76 #[.int .i64 p.1] u fun e w' => e = .returned (.bool true) ∧ w' = u) := fun u => counts_any p.1 true (by rcases hp with h | h <;> simp [h]) u
      have hgw : g ≠ w.heap.size := by have := HSS.out g hSg; omega
      have q0 : wr.cell? ⟨g, o, none⟩ = some (.int .i64 kd2) := hcell 0 (by omega)
      have q1 := hcell 1 (by omega)
      have q2 := hcell 2 (by omega)
      have q3 := hcell 3 (by omega)
      have q4 := hcell 4 (by omega)
      have q5 := hcell 5 (by omega)
      have q6 := hcell 6 (by omega)
      unfold maxLen at hc1
      have HBX := hide hbx
      have HR2 := hide hr2
      have HFR := hide hfr
      have HGN := hide hgn
      have HSE := hide hse
      clear hcell hbx hr2 hfr hrs hsame hse hgn hp
      go_wp2_with fail
      refine (CC.out _).mono ?_
      rintro e w1 ⟨rfl, hw1⟩
      rw [hw1]
      clear hw1
      go_wp2_with fail
      go_roundg (rest.length + 1)
      case measure => have := HGN.out; simp only [List.length_cons] at this; omega
      case rel =>
        obtain ⟨t1, t2⟩ := set7 HBX.out (.int .i64 kd2) (.int .i64 n2') (.string x2) (.string y2) (.slice f0 r0 s0) (.slice f1 r1 s1) (.slice f2 r2 s2)
        exact ⟨done ++ [p], rest, kd2, n2', x2, y2, f0, r0, s0, f1, r1, s1, f2, r2, s2, by rw [HSE.out, List.append_assoc]; rfl, rfl, t1, HR2.out.kept (stays_fr t2 (fun g hg _ e => by have e : g = w.heap.size := e; have := HSS.out g hg; omega) (fun _ h => h)), HFR.out.trans t2, fun h => by simp at h⟩
    | nil =>
      have hrn : RNS (RTS k S wr) S wr [.int .i64 kd', .int .i64 n', .string x', .string y', .slice b0 m0 e0, .slice b1 m1 e1, .slice b2 m2 e2] nd := hrs
      obtain ⟨vv, av, cv, acs, ccs, h1, _, _, h4, h5, h6, h7, _⟩ := hrn
      obtain ⟨va, vc, rfl, _, _⟩ := h4.1
      obtain ⟨aa, ac, rfl, _, hac, _⟩ := id h5
      obtain ⟨ca, cc, rfl, _, _⟩ := h7
      simp only [List.cons.injEq, Value.int.injEq, Value.string.injEq, Value.slice.injEq, and_true, true_and] at h1
      obtain ⟨rfl, rfl, rfl, rfl, ⟨rfl, rfl, rfl⟩, ⟨rfl, rfl, rfl⟩, ⟨rfl, rfl, rfl⟩⟩ := h1
      have CC : Hid (∀ u, Calls Tryz.prog 76 #[.int .i64 nd.kind] u fun e w' => e = .returned (.bool false) ∧ w' = u) := fun u => counts_any nd.kind false (by rcases HK.out with h | h <;> simp [h]) u
      have n12 : (nd.kind == 12) = false := by rcases HK.out with h | h <;> rw [h] <;> decide
      obtain ⟨W1, hW1⟩ : ∃ W1, W1 = wr := ⟨_, rfl⟩
      rw [← hW1] at hbx hrs hfr h5 h6 k0 z0 l0 ⊢
      clear hW1 h4
      have HBX := hide hbx
      have HRS := hide hrs
      have HFR := hide (And.intro hfr (And.intro hsame hse))
      have H5 := hide h5
      have H6 := hide h6
      have HCL := hide hcl
      have hal := HAL.out
      clear hbx hrs hfr hsame hse h5 h6 hgn
      go_wp2_with fail
      refine (CC.out _).mono ?_
      rintro e w1 ⟨rfl, hw1⟩
      rw [hw1]
      clear hw1 CC
      go_wp2_with fail
      go_loopw [28] (fun q wr' => ∃ i : Nat, i ≤ nd.args.length ∧ q = .int .i64 i ∧ Fr No W1 wr') (fun q _ => nd.args.length - (intOf q).toNat)
      case atStart => exact ⟨0, Nat.zero_le _, rfl, Fr.refl _ _⟩
      case round =>
        obtain ⟨i, hi, rfl, hf⟩ := hrel
        have hb2 := fr_heap HBX.out hf (fun e => e)
        clear k0 z0 l0
        have k0 := cell_of_heap hb2
        have z0 := frozen_of_heap hb2
        have l0 := lt_of_heap hb2
        have HB2 := hide hb2
        by_cases hlt : i < nd.args.length
        · obtain ⟨g, o, cap, kd2, n2, x2, y2, f0, r0, s0, f1, r1, s1, f2, r2, s2, hav, hcap, hSg, hgw, hrt, hzz, hcell⟩ := args_atS H5.out H6.out i hlt
          injection hav with hav1 _ hav2
          subst hav1 hav2
          have hcw : ∀ j, j < 7 → wr.cell? ⟨g, o + i * 7 + j, none⟩ = [Value.int .i64 kd2, .int .i64 n2, .string x2, .string y2, .slice f0 r0 s0, .slice f1 r1 s1, .slice f2 r2 s2][j]? := fun j hj => by
            rw [show wr.cell? ⟨g, o + i * 7 + j, none⟩ = W1.cell? ⟨g, o + i * 7 + j, none⟩ from by simp only [World.cell?, hf.block g hgw (fun e => e)]]; exact hcell j hj
          have q0 : wr.cell? ⟨g, o + i * 7, none⟩ = some (.int .i64 kd2) := hcw 0 (by omega)
          have q1 := hcw 1 (by omega)
          have q2 := hcw 2 (by omega)
          have q3 := hcw 3 (by omega)
          have q4 := hcw 4 (by omega)
          have q5 := hcw 5 (by omega)
          have q6 := hcw 6 (by omega)
          have hgl : g < wr.heap.size := Nat.lt_of_lt_of_le hgw hf.size
          have CE : Hid (∀ W, Fr No W1 W → Calls Tryz.prog 39 #[.agg #[.int .i64 kd2, .int .i64 n2, .string x2, .string y2, .slice f0 r0 s0, .slice f1 r1 s1, .slice f2 r2 s2]] W fun e w' => e = .returned (.agg #[.int .i64 kd2, .int .i64 n2, .string x2, .string y2, .slice f0 r0 s0, .slice f1 r1 s1, .slice f2 r2 s2]) ∧ Fr No W w' ∧ (w'.heap[w.heap.size]? = W1.heap[w.heap.size]? ∧ (∀ j, j < 7 → w'.cell? ⟨g, o + i * 7 + j, none⟩ = [Value.int .i64 kd2, .int .i64 n2, .string x2, .string y2, .slice f0 r0 s0, .slice f1 r1 s1, .slice f2 r2 s2][j]?) ∧ (∀ j, j < 7 → w'.frozen? ⟨g, o + i * 7 + j, none⟩ = false))) := fun W hW =>
            (HA.out i hlt S W _ (hrt.kept (stays_of_fr hW)) (fun g hg => Nat.lt_of_lt_of_le (HSS.out g hg) (by have := HFR.out.1.size; have := T0.out.fr.size; have := hW.size; omega))).mono fun e w' ⟨he, hf'⟩ => by
              have hb := (hW.trans hf').block g hgw (fun e => e)
              exact ⟨he, hf', (hW.trans hf').block _ (lt_of_heap HBX.out) (fun e => e), fun j hj => by rw [show w'.cell? ⟨g, o + i * 7 + j, none⟩ = W1.cell? ⟨g, o + i * 7 + j, none⟩ from by simp only [World.cell?, hb]]; exact hcell j hj, fun j hj => by rw [show w'.frozen? ⟨g, o + i * 7 + j, none⟩ = W1.frozen? ⟨g, o + i * 7 + j, none⟩ from by simp only [World.frozen?, hb]]; exact hzz j hj⟩
          have HF := hide hf
          have HI := hide hi
          clear hcw hcell hrt hf hzz hb2 hi
          have i1 : (i : Int) < (nd.args.length : Int) := by omega
          have i0 : (0 : Int) ≤ (i : Int) := by omega
          unfold maxLen at hac
          go_wp2_with fail
          go_region_with (first
            | (go_at_call 39; refine (CE.out _ (by first | exact (HF.out.alloc _).drew | exact HF.out.alloc _)).mono ?_; rintro e w5 ⟨rfl, hf5, hb5, hc5, hz5⟩; have F5 := hide hf5; have B5 := hb5.trans HBX.out; have k5 := cell_of_heap B5; have l5 := lt_of_heap B5; have c50 : w5.cell? ⟨g, o + i * 7, none⟩ = some (.int .i64 kd2) := hc5 0 (by omega); have c51 := hc5 1 (by omega); have c52 := hc5 2 (by omega); have c53 := hc5 3 (by omega); have c54 := hc5 4 (by omega); have c55 := hc5 5 (by omega); have c56 := hc5 6 (by omega); have z50 : w5.frozen? ⟨g, o + i * 7, none⟩ = false := hz5 0 (by omega); have z51 := hz5 1 (by omega); have z52 := hz5 2 (by omega); have z53 := hz5 3 (by omega); have z54 := hz5 4 (by omega); have z55 := hz5 5 (by omega); have z56 := hz5 6 (by omega); have HC5 := hide hc5; clear hf5 hb5 hc5 hz5 B5))
          all_goals
            rw [setCell_id c50, setCell_id c51, setCell_id c52, setCell_id c53, setCell_id c54, setCell_id c55, setCell_id c56]
            go_wp2_with fail
            go_roundw
            case rel => exact ⟨i + 1, by omega, by go_num, ((HF.out.alloc _).drew).trans F5.out⟩
            case measure => simp [intOf]; omega
        · have hil : i = nd.args.length := by omega
          subst hil
          have HF := hide hf
          clear hf hb2
          rw [hcl] at k0
          go_wp2_with fail
          obtain ⟨W2, hW2⟩ : ∃ W2, W2 = wr := ⟨_, rfl⟩
          rw [← hW2] at HB2 HF ⊢
          clear k0 z0 l0 hW2
          go_loopw [43] (fun q wr' => q = .int .i64 0 ∧ Fr No W2 wr') (fun _ _ => 0)
          case atStart => exact ⟨rfl, Fr.refl _ _⟩
          case round =>
            obtain ⟨rfl, hf3⟩ := hrel
            have hb3 := fr_heap HB2.out hf3 (fun e => e)
            rw [hcl] at hb3
            have hr3 := fr_heap (fr_heap T0.out.r HFR.out.1 (fun e => by have e : w.heap.size + 1 = w.heap.size := e; omega)) (HF.out.trans hf3) (fun e => e)
            have k3 := cell_of_heap hb3
            have k4 := cell_of_heap hr3
            have z4 := frozen_of_heap hr3
            have l3 := lt_of_heap hb3
            have l4 := lt_of_heap hr3
            have HR3 := hide hr3
            have HF3 := hide (HF.out.trans hf3)
            clear hb3 hr3 hf3
            go_wp2_with fail
            obtain ⟨t1, t2⟩ := set7 HR3.out (.int .i64 nd.kind) (.int .i64 nd.n) (.string nd.name) (.string nd.token) (.slice b0 nd.vars.length e0) (.slice b1 nd.args.length e1) (.slice b2 0 e2)
            refine bodyPost_ret (retT rfl _ _ (w.heap.size + 1) _ _ _ _ _ _ _ (0, 0) rfl t1) rfl ⟨_, rfl, ?_, ?_, ?_⟩
            · exact ((T0.out.fr.trans' HFR.out.1 (fun i hi e => by have e : i = w.heap.size := e; omega)).trans HF3.out).trans' t2 (fun i hi e => by have e : i = w.heap.size + 1 := e; omega)
            · have hr := HRS.out
              rw [hcl] at hr
              have hsz := T0.out.fr.size
              have hsz2 := HFR.out.1.size
              exact (hr.kept (stays_of_fr HF3.out)).kept (stays_fr t2 (fun g hg _ e => by have e : g = w.heap.size + 1 := e; have := HSS.out g hg; omega) (fun _ h => h))
            · intro hs0
              obtain ⟨_, hsame, hse⟩ := HFR.out
              rw [hs0] at hse
              have hd : done = [] := by
                cases done with
                | nil => rfl
                | cons a l => simp at hse
              have := hsame hd
              rw [hcl] at this
              exact this
end Go.Proofs.YtomahbdidlglfacGreatDoor

/- own: 'erased' at what counts, in general: nothing counts in what it answers. -/
namespace Go.Proofs.YtomahbdidlglfacGreatDoor
open Go.RowKit Go.Maps Go.WideMaps

/-- A term of the language: none of its kinds counts. -/
def Pl : (k : Nat) → Pu.TT k → Prop
  | 0, _ => True
  | k + 1, t => (1 ≤ (show Pu.Node (Pu.TT k) from t).kind ∧ (show Pu.Node (Pu.TT k) from t).kind ≤ 7) ∧ (∀ a, a ∈ (show Pu.Node (Pu.TT k) from t).args → Pl k a) ∧ (∀ c, c ∈ (show Pu.Node (Pu.TT k) from t).cases → Pl k c.2.2)
theorem counts7_any (kd : Int) (h1 : 1 ≤ kd) (h7 : kd ≤ 7) (w : World) : Calls Tryz.prog 76 #[.int .i64 kd] w fun e w' => e = .returned (.bool false) ∧ w' = w := by
  have h : kd = 1 ∨ kd = 2 ∨ kd = 3 ∨ kd = 4 ∨ kd = 5 ∨ kd = 6 ∨ kd = 7 := by omega
  clear h1 h7
  rcases h with rfl | rfl | rfl | rfl | rfl | rfl | rfl
  all_goals
    go_enter Tryz.func76, Tryz.ntmps76
    go_wp2_with fail
    go_ret
    exact ⟨rfl, rfl⟩
/-- 'erased' at what has counting around it, and in it, answers the term. -/
def ErD (M k : Nat) (t : Pu.TT k) : Prop := ∀ (m : Nat) (V : Nat → Prop) (w : World) (cs : List Value), CW M k m w V cs t → (∀ g, V g → g < w.heap.size) →
  Calls Tryz.prog 39 #[.agg cs.toArray] w fun e w' => ∃ cs', e = .returned (.agg cs'.toArray) ∧ Fr V w w' ∧ RTD k w' V cs' t

/-- What counts, around a term's own node. -/
abbrev SpN (M k : Nat) (w : World) (s : List (Int × ByteArray)) (V : Nat → Prop) (cs : List Value) (nd : Pu.Node (Pu.TT k)) : Prop := SpD (fun U c => RND (CW M k M w) w U c nd) w s V cs
theorem SpN.cw {M k : Nat} {w : World} {s : List (Int × ByteArray)} {V : Nat → Prop} {cs : List Value} {nd : Pu.Node (Pu.TT k)} (h : SpN M k w s V cs nd) : CW M (k + 1) s.length w V cs nd := ⟨s, Nat.le_refl _, h⟩
theorem SpN.kept {M k : Nat} {w w' : World} {s : List (Int × ByteArray)} {V : Nat → Prop} {cs : List Value} {nd : Pu.Node (Pu.TT k)} (hs : Stays V V w w') (h : SpN M k w s V cs nd) : SpN M k w' s V cs nd :=
  SpD.mono hs (fun _ _ hU h => RND.mono ⟨hs.1, fun g hg hl => ⟨hg, (hs.2 g (hU g hg) hl).2⟩⟩ (fun _ _ _ hU' h => CW.kept ⟨hs.1, fun g hg hl => ⟨hg, (hs.2 g (hU g (hU' g hg)) hl).2⟩⟩ h) h) h
theorem SpN.inv {M k : Nat} {w : World} {p : Int × ByteArray} {s : List (Int × ByteArray)} {V : Nat → Prop} {cs : List Value} {nd : Pu.Node (Pu.TT k)} (h : SpN M k w (p :: s) V cs nd) :
    ∃ a0 c0 a2 c2 g o c1 kd' n' x' y' b0 m0 e0 b1 m1 e1 b2 m2 e2 B, cs = [.int .i64 p.1, .int .i64 0, .string p.2, .string ⟨#[]⟩, .slice a0 0 c0, .slice (some ⟨g, o, none⟩) 1 c1, .slice a2 0 c2] ∧ ck p.1 ∧ V g ∧ g < w.heap.size ∧ c1 ≤ maxLen ∧ Sub B V ∧
      SpN M k w s B [.int .i64 kd', .int .i64 n', .string x', .string y', .slice b0 m0 e0, .slice b1 m1 e1, .slice b2 m2 e2] nd ∧ ∀ j, j < 7 → w.cell? ⟨g, o + j, none⟩ = [Value.int .i64 kd', .int .i64 n', .string x', .string y', .slice b0 m0 e0, .slice b1 m1 e1, .slice b2 m2 e2][j]? := by
  obtain ⟨a0, c0, av, a2, c2, acs, A, B, h1, h2, h3, h4, h5, h6, h7⟩ := h
  obtain ⟨a1, c1, rfl, _, hc1, hrow⟩ := h5
  obtain ⟨g, o, rfl, hS, hg, _, hcell⟩ := hrow (by decide)
  have h8 : SpN M k w s B acs nd := h7
  obtain ⟨kd', n', x', y', b0, m0, e0, b1, m1, e1, b2, m2, e2, rfl⟩ := h8.cw.form
  exact ⟨a0, c0, a2, c2, g, o, c1, kd', n', x', y', b0, m0, e0, b1, m1, e1, b2, m2, e2, B, h1, h2.1, h4.1 A (by simp) g hS, hg, hc1, h4.1 B (by simp), h8, fun j hj => hcell j (by simpa using hj)⟩
/-- What is stored in of a term's lists; what its lists and all in them are, between two rounds. -/
structure ErSt (M k : Nat) (av : Value) (n : Nat) (l : List (Pu.TT k)) (V1 V2 : Nat → Prop) (i : Nat) (w : World) : Prop where
  ex : ∃ (Z1 Z2 : Nat → Prop) (xs1 xs2 : List Value), Sub Z1 V2 ∧ Sub Z2 V2 ∧ Dis Z1 Z2 ∧ RowS V1 w av n (xs1 ++ xs2) ∧ EachD 7 (RTD k w) Z1 xs1 (l.take i) ∧ EachD 7 (CW M k M w) Z2 xs2 (l.drop i)
structure ErSc (M k : Nat) (av : Value) (n : Nat) (l : List (Int × List ByteArray × Pu.TT k)) (V1 V2 : Nat → Prop) (i : Nat) (w : World) : Prop where
  ex : ∃ (Z1 Z2 : Nat → Prop) (xs1 xs2 : List Value), Sub Z1 V2 ∧ Sub Z2 V2 ∧ Dis Z1 Z2 ∧ RowS V1 w av n (xs1 ++ xs2) ∧ EachD 9 (RCD (RTD k w) w) Z1 xs1 (l.take i) ∧ EachD 9 (RCD (CW M k M w) w) Z2 xs2 (l.drop i)
theorem st_of {S T : Nat → Prop} {w w' : World} (hf : Fr T w w') (hd : Dis S T) : Stays S S w w' := stays_fr hf (fun g hg _ h => hd g hg h) (fun _ h => h)

/-- One argument's turn. -/
theorem ErSt.at {M k : Nat} {av : Value} {l : List (Pu.TT k)} {V1 V2 : Nat → Prop} {i : Nat} {w : World} (h : ErSt M k av l.length l V1 V2 i w) (hi : i < l.length) (hd : Dis V1 V2) :
    ∃ g o cap kd n x y a0 n0 c0 a1 n1 c1 a2 n2 c2 A, av = .slice (some ⟨g, o, none⟩) l.length cap ∧ V1 g ∧ g < w.heap.size ∧ Sub A V2 ∧
      CW M k M w A [.int .i64 kd, .int .i64 n, .string x, .string y, .slice a0 n0 c0, .slice a1 n1 c1, .slice a2 n2 c2] l[i] ∧ (∀ j, j < 7 → w.frozen? ⟨g, o + i * 7 + j, none⟩ = false) ∧
      (∀ j, j < 7 → w.cell? ⟨g, o + i * 7 + j, none⟩ = [Value.int .i64 kd, .int .i64 n, .string x, .string y, .slice a0 n0 c0, .slice a1 n1 c1, .slice a2 n2 c2][j]?) ∧
      ∀ (w' : World) (us : List Value), Fr A w w' → us.length = 7 → RTD k w' A us l[i] → ErSt M k av l.length l V1 V2 (i + 1) (setsAt w' g (o + i * 7) us) ∧ Fr (· = g) w' (setsAt w' g (o + i * 7) us) := by
  obtain ⟨Z1, Z2, xs1, xs2, hz1, hz2, hz, hrow, he1, he2⟩ := h
  rw [List.drop_eq_getElem_cons hi] at he2
  obtain ⟨A, B, cc, rest, rfl, hcl, hA, hB, hAB, hcw, hrest⟩ := he2
  obtain ⟨a, cap, rfl, hr2, hr3, hr4⟩ := id hrow
  obtain ⟨g, o, rfl, hS, hg, hzz, hcell⟩ := hr4 (by omega)
  have hx1 := he1.length
  rw [List.length_take, Nat.min_eq_left (Nat.le_of_lt hi)] at hx1
  obtain ⟨kd, n, x, y, a0, n0, c0, a1, n1, c1, a2, n2, c2, rfl⟩ := hcw.form
  refine ⟨g, o, cap, kd, n, x, y, a0, n0, c0, a1, n1, c1, a2, n2, c2, A, rfl, hS, hg, fun q hq => hz2 q (hA q hq), hcw, fun j hj => ?_, fun j hj => ?_, fun w' us hf hus hrt => ?_⟩
  · rw [Nat.add_assoc]; exact hzz _ (by simp; omega)
  · rw [Nat.add_assoc, hcell _ (by simp; omega), List.getElem?_append_right (by omega), hx1, Nat.add_sub_cancel_left, List.getElem?_append_left (by simpa using hj)]
  · have dV1A : Dis V1 A := fun q h1 h2 => hd q h1 (hz2 q (hA q h2))
    have hrow' := hrow.kept (st_of hf dV1A)
    rw [← List.append_assoc] at hrow'
    have hp := row_put (us := us) hrow' (by omega) (by rw [hus]; rfl) (by simp)
    rw [hx1] at hp
    have hgV : ∀ U : Nat → Prop, Sub U V2 → Dis U (· = g) := fun U hU q hq e => hd g hS (by have e : q = g := e; rw [← e]; exact hU q hq)
    refine ⟨⟨fun q => Z1 q ∨ A q, B, xs1 ++ us, rest, fun q h => h.elim (hz1 q) (fun h => hz2 q (hA q h)), fun q h => hz2 q (hB q h), fun q h hb => h.elim (fun h => hz q h (hB q hb)) (fun h => hAB q h hb), hp.1, ?_, ?_⟩, hp.2⟩
    · rw [List.take_succ_eq_append_getElem hi]
      refine EachD.snoc hus (hrt.kept (st_of hp.2 (hgV A (fun q h => hz2 q (hA q h))))) (fun q h1 h2 => hz q h1 (hA q h2)) (he1.mono fun U _ _ hU h => ?_)
      exact (h.kept (st_of hf (fun q h1 h2 => hz q (hU q h1) (hA q h2)))).kept (st_of hp.2 (hgV U (fun q h => hz1 q (hU q h))))
    · exact hrest.mono fun U _ _ hU h => (h.kept (st_of hf (fun q h1 h2 => hAB q h2 (hU q h1)))).kept (st_of hp.2 (hgV U (fun q h => hz2 q (hB q (hU q h)))))
/-- One case's turn. -/
theorem ErSc.at {M k : Nat} {av : Value} {l : List (Int × List ByteArray × Pu.TT k)} {V1 V2 : Nat → Prop} {i : Nat} {w : World} (h : ErSc M k av l.length l V1 V2 i w) (hi : i < l.length) (hd : Dis V1 V2) :
    ∃ g o cap tg va vn vc kd n x y a0 n0 c0 a1 n1 c1 a2 n2 c2 A, av = .slice (some ⟨g, o, none⟩) l.length cap ∧ V1 g ∧ g < w.heap.size ∧ Sub A V2 ∧
      CW M k M w A [.int .i64 kd, .int .i64 n, .string x, .string y, .slice a0 n0 c0, .slice a1 n1 c1, .slice a2 n2 c2] l[i].2.2 ∧ (∀ j, j < 9 → w.frozen? ⟨g, o + i * 9 + j, none⟩ = false) ∧
      (∀ j, j < 9 → w.cell? ⟨g, o + i * 9 + j, none⟩ = [Value.int .i64 tg, .slice va vn vc, .int .i64 kd, .int .i64 n, .string x, .string y, .slice a0 n0 c0, .slice a1 n1 c1, .slice a2 n2 c2][j]?) ∧
      ∀ (w' : World) (us : List Value), Fr A w w' → us.length = 7 → RTD k w' A us l[i].2.2 → ErSc M k av l.length l V1 V2 (i + 1) (setsAt w' g (o + i * 9 + 2) us) ∧ Fr (· = g) w' (setsAt w' g (o + i * 9 + 2) us) := by
  obtain ⟨Z1, Z2, xs1, xs2, hz1, hz2, hz, hrow, he1, he2⟩ := h
  rw [List.drop_eq_getElem_cons hi] at he2
  obtain ⟨U, B, cc, rest, rfl, hcl, hU, hB, hUB, hcw, hrest⟩ := he2
  obtain ⟨vv, b, A0, A, rfl, hpt, hnm, hbl, hcw⟩ := hcw
  obtain ⟨a, cap, rfl, hr2, hr3, hr4⟩ := id hrow
  obtain ⟨g, o, rfl, hS, hg, hzz, hcell⟩ := hr4 (by omega)
  have hx1 := he1.length
  rw [List.length_take, Nat.min_eq_left (Nat.le_of_lt hi)] at hx1
  obtain ⟨kd, n, x, y, a0, n0, c0, a1, n1, c1, a2, n2, c2, rfl⟩ := hcw.form
  obtain ⟨va, vc, rfl, _⟩ := id hnm.1
  have hAU : Sub A U := hpt.1 A (by simp)
  have hA0U : Sub A0 U := hpt.1 A0 (by simp)
  have hA0A : Dis A0 A := by have := hpt.2; simpa using this
  refine ⟨g, o, cap, l[i].1, va, l[i].2.1.length, vc, kd, n, x, y, a0, n0, c0, a1, n1, c1, a2, n2, c2, A, rfl, hS, hg, fun q hq => hz2 q (hU q (hAU q hq)), hcw, fun j hj => ?_, fun j hj => ?_, fun w' us hf hus hrt => ?_⟩
  · rw [Nat.add_assoc]; exact hzz _ (by simp; omega)
  · rw [Nat.add_assoc, hcell _ (by simp; omega), List.getElem?_append_right (by omega), hx1, Nat.add_sub_cancel_left, List.getElem?_append_left (by simpa using hj)]
  · have dV1A : Dis V1 A := fun q h1 h2 => hd q h1 (hz2 q (hU q (hAU q h2)))
    have hrow' := hrow.kept (st_of hf dV1A)
    rw [show xs1 ++ ((Value.int .i64 l[i].1 :: .slice va l[i].2.1.length vc :: [.int .i64 kd, .int .i64 n, .string x, .string y, .slice a0 n0 c0, .slice a1 n1 c1, .slice a2 n2 c2]) ++ rest) = (xs1 ++ [Value.int .i64 l[i].1, .slice va l[i].2.1.length vc]) ++ [.int .i64 kd, .int .i64 n, .string x, .string y, .slice a0 n0 c0, .slice a1 n1 c1, .slice a2 n2 c2] ++ rest from by simp] at hrow'
    have hp := row_put (us := us) hrow' (by omega) (by rw [hus]; rfl) (by simp)
    rw [show (xs1 ++ [Value.int .i64 l[i].1, .slice va l[i].2.1.length vc]).length = i * 9 + 2 from by simp [hx1], ← Nat.add_assoc] at hp
    have hgV : ∀ U : Nat → Prop, Sub U V2 → Dis U (· = g) := fun U hU q hq e => hd g hS (by have e : q = g := e; rw [← e]; exact hU q hq)
    refine ⟨⟨fun q => Z1 q ∨ U q, B, xs1 ++ (.int .i64 l[i].1 :: .slice va l[i].2.1.length vc :: us), rest, fun q h => h.elim (hz1 q) (fun h => hz2 q (hU q h)), fun q h => hz2 q (hB q h), fun q h hb => h.elim (fun h => hz q h (hB q hb)) (fun h => hUB q h hb), ?_, ?_, ?_⟩, hp.2⟩
    · have := hp.1
      rw [show (xs1 ++ [Value.int .i64 l[i].1, .slice va l[i].2.1.length vc]) ++ us ++ rest = xs1 ++ (.int .i64 l[i].1 :: .slice va l[i].2.1.length vc :: us) ++ rest from by simp] at this
      exact this
    · rw [List.take_succ_eq_append_getElem hi]
      refine EachD.snoc (U := U) (by simp [hus]) ⟨_, us, A0, A, rfl, hpt, ?_, hus, ?_⟩ (fun q h1 h2 => hz q h1 (hU q h2)) (he1.mono fun W _ _ hW h => ?_)
      rotate_left
      · exact (hnm.kept (st_of hf hA0A)).kept (st_of hp.2 (hgV A0 (fun q h => hz2 q (hU q (hA0U q h)))))
      · exact hrt.kept (st_of hp.2 (hgV A (fun q h => hz2 q (hU q (hAU q h)))))
      · have d1 : Dis W A := fun q h1 h2 => hz q (hW q h1) (hU q (hAU q h2))
        exact RCD.mono (st_of hp.2 (hgV W (fun q h => hz1 q (hW q h)))) (fun _ _ _ hU' h => RTD.kept (st_of hp.2 (hgV _ (fun q h => hz1 q (hW q (hU' q h))))) h)
          (RCD.mono (st_of hf d1) (fun _ _ _ hU' h => RTD.kept (st_of hf (fun q h1 h2 => d1 q (hU' q h1) h2)) h) h)
    · refine hrest.mono fun W _ _ hW h => ?_
      have d1 : Dis W A := fun q h1 h2 => hUB q (hAU q h2) (hW q h1)
      exact RCD.mono (st_of hp.2 (hgV W (fun q h => hz2 q (hB q (hW q h))))) (fun _ _ _ hU' h => CW.kept (st_of hp.2 (hgV _ (fun q h => hz2 q (hB q (hW q (hU' q h)))))) h)
          (RCD.mono (st_of hf d1) (fun _ _ _ hU' h => CW.kept (st_of hf (fun q h1 h2 => d1 q (hU' q h1) h2)) h) h)
end Go.Proofs.YtomahbdidlglfacGreatDoor

/- Terms of the kinds that a program has. No walk in it. -/
namespace Go.Proofs.YtomahbdidlglfacGreatDoor
open Go.RowKit Go.Maps Go.WideMaps

/-- A term of the kinds that a program has; a let has two terms. -/
def Pq : (k : Nat) → Pu.TT k → Prop
  | 0, _ => True
  | k + 1, t => ((1 ≤ (show Pu.Node (Pu.TT k) from t).kind ∧ (show Pu.Node (Pu.TT k) from t).kind ≤ 7) ∧ ((show Pu.Node (Pu.TT k) from t).kind = 6 → (show Pu.Node (Pu.TT k) from t).args.length = 2)) ∧ (∀ a, a ∈ (show Pu.Node (Pu.TT k) from t).args → Pq k a) ∧ (∀ c, c ∈ (show Pu.Node (Pu.TT k) from t).cases → Pq k c.2.2)
theorem Pq.pl : ∀ {k : Nat} {t : Pu.TT k}, Pq k t → Pl k t
  | 0, _, _ => trivial
  | _ + 1, _, h => ⟨h.1.1, fun a ha => Pq.pl (h.2.1 a ha), fun c hc => Pq.pl (h.2.2 c hc)⟩
end Go.Proofs.YtomahbdidlglfacGreatDoor
