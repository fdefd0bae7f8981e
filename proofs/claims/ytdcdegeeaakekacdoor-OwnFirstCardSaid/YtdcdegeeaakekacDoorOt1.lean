/- own: 'term', walked over what 'step' answers, where that leaves what it is handed as it is. -/
import Derived.Test.YtdcdegeeaakekacDoorOc4
import Derived.Deep.Cut
import Derived.Deep.RegionLaw
namespace Go.Proofs.YtdcdegeeaakekacDoor
open Go.RowKit Go.Maps Go.WideMaps

theorem RTS.rt {S : Nat → Prop} {B : Nat} {w : World} (hS : ∀ g, S g → g < B) : ∀ {k : Nat} {cs : List Value} {t : Pu.TT k}, RTS k S w cs t → RT k B w cs t
  | 0, _, _, h => h.elim
  | _ + 1, _, _, h => by
    obtain ⟨vv, av, cv, acs, ccs, h1, h2, h3, h4, h5, h6, h7, h8⟩ := h
    exact ⟨vv, av, cv, acs, ccs, h1, h2, h3, ⟨h4.1.row hS, h4.2⟩, h5.row hS, h6.mono (fun _ _ h => RTS.rt hS h), h7.row hS, h8.mono (fun _ _ h => by
      obtain ⟨vv, b, e1, e2, e3, e4⟩ := h
      exact ⟨vv, b, e1, ⟨e2.1.row hS, e2.2⟩, e3, RTS.rt hS e4⟩)⟩

/-- 'step' at t answers t', whatever is owned; what lay lies as it lay. -/
def StepC (k : Nat) (t : Pu.TT k) (t' : Tm) : Prop := ∀ (S : Nat → Prop) (w : World) (cs : List Value) (ov : Value) (l : List ByteArray), RTS k S w cs t → (∀ g, S g → g < w.heap.size) → Names w.heap.size w ov l →
  Calls Tryd.prog 69 #[.agg cs.toArray, ov] w fun e w' => ∃ cs', e = .returned (.agg cs'.toArray) ∧ Fr No w w' ∧ RS (fun g => S g ∨ New w w' g) w' cs' t'

/-- What goes first. -/
def gone (k : Nat) (t : Pu.TT k) (l : List ByteArray) : List ByteArray := l.filter fun x => !Pu.has (Pu.free k t) x

/-- A func value that answers p of each name, while what lies stays. -/
abbrev IsA (w : World) (v : Value) (p : ByteArray → Bool) : Prop := Is (fun g => g < w.heap.size) w v p
theorem Is.all {S : Nat → Prop} {w : World} {v : Value} {p : ByteArray → Bool} (h : Is S w v p) : IsA w v p := h.kept ⟨Nat.le_refl _, fun _ _ hl => ⟨hl, rfl⟩⟩
theorem IsA.fr {w w' : World} {v : Value} {p : ByteArray → Bool} (h : IsA w v p) (hf : Fr No w w') : IsA w' v p := h.kept ⟨hf.size, fun g hg _ => ⟨Nat.lt_of_lt_of_le hg hf.size, hf.block g hg (fun e => e)⟩⟩

/-- What is kept of the call's own boxes: the term, the result. -/
structure TB (w : World) (cs : Array Value) (W : World) : Prop where
  fr : Fr No w W
  t : W.heap[w.heap.size]? = some (.cells cs 31 (0, 0))
  r : W.heap[w.heap.size + 1]? = some (.cells #[.int .i64 0, .int .i64 0, .string ⟨#[]⟩, .string ⟨#[]⟩, .slice none 0 0, .slice none 0 0, .slice none 0 0] 31 (0, 0))
theorem TB.step {w W W' : World} {cs : Array Value} (h : TB w cs W) (hf : Fr No W W') : TB w cs W' := ⟨h.fr.trans hf, fr_heap h.t hf (fun e => e), fr_heap h.r hf (fun e => e)⟩

theorem wf8 : (Lit.int .i64 8).wf = true := by decide
theorem wf9 : (Lit.int .i64 9).wf = true := by decide

set_option maxRecDepth 100000 in
set_option maxHeartbeats 4000000 in
theorem term_of_step (k : Nat) (t : Pu.TT k) (t' : Tm) (hst : StepC k t t') (S : Nat → Prop) (w : World) (cs : List Value) (ov : Value) (l : List ByteArray) (hT : RTS k S w cs t) (hS : ∀ g, S g → g < w.heap.size) (hl : Names w.heap.size w ov l) (hw : Pu.wt k t ≤ 1073741824) (hn : l.length ≤ 1073741824) :
    Calls Tryd.prog 41 #[.agg cs.toArray, ov] w fun e w' => ∃ cs', e = .returned (.agg cs'.toArray) ∧ Fr No w w' ∧ RS (fun g => S g ∨ New w w' g) w' cs' (cnt 9 (gone k t l) t') := by
  obtain ⟨kd, n, x, y, a0, n0, c0, a1, n1, c1, a2, n2, c2, rfl⟩ := hT.form
  obtain ⟨oa, oc, rfl, _, _⟩ := hl.1.form
  obtain ⟨W0, hW0⟩ : ∃ W0, W0 = ((w.alloc (.cells #[.int .i64 kd, .int .i64 n, .string x, .string y, .slice a0 n0 c0, .slice a1 n1 c1, .slice a2 n2 c2] 31)).alloc (.cells #[.int .i64 0, .int .i64 0, .string ⟨#[]⟩, .string ⟨#[]⟩, .slice none 0 0, .slice none 0 0, .slice none 0 0] 31)) := ⟨_, rfl⟩
  have f0 : Fr No w W0 := by rw [hW0]; exact ((Fr.refl No w).alloc _).alloc _
  have b0 : W0.heap[w.heap.size]? = some (.cells #[.int .i64 kd, .int .i64 n, .string x, .string y, .slice a0 n0 c0, .slice a1 n1 c1, .slice a2 n2 c2] 31 (0, 0)) := by rw [hW0]; exact fr_heap (heap_alloc_new w _) ((Fr.refl No _).alloc _) (fun e => e)
  have b1 : W0.heap[w.heap.size + 1]? = some (.cells #[.int .i64 0, .int .i64 0, .string ⟨#[]⟩, .string ⟨#[]⟩, .slice none 0 0, .slice none 0 0, .slice none 0 0] 31 (0, 0)) := by
    have h := heap_alloc_new (w.alloc (.cells #[.int .i64 kd, .int .i64 n, .string x, .string y, .slice a0 n0 c0, .slice a1 n1 c1, .slice a2 n2 c2] 31)) (.cells #[.int .i64 0, .int .i64 0, .string ⟨#[]⟩, .string ⟨#[]⟩, .slice none 0 0, .slice none 0 0, .slice none 0 0] 31)
    rw [World.size_alloc] at h
    rw [hW0]; exact h
  have HT : Hid (∀ W, Fr No w W → RTS k S W [.int .i64 kd, .int .i64 n, .string x, .string y, .slice a0 n0 c0, .slice a1 n1 c1, .slice a2 n2 c2] t) := fun W hW => hT.kept (stays_of_fr hW)
  have HL : Hid (∀ W, Fr No w W → Names w.heap.size W (.slice oa l.length oc) l) := fun W hW => hl.kept (hW.old (Nat.le_refl _) (fun _ _ e => e)) (Nat.le_refl _) hW.size
  have CN : Hid (Calls Tryd.prog 65 #[.agg #[.int .i64 kd, .int .i64 n, .string x, .string y, .slice a0 n0 c0, .slice a1 n1 c1, .slice a2 n2 c2]] W0 fun e w' => ∃ u, e = .returned u ∧ Fr No W0 w' ∧ Is (New W0 w') w' u (Pu.has (Pu.free k t))) :=
    needed_any k w.heap.size W0 _ t ((HT.out W0 f0).rt (fun g hg => hS g hg)) f0.size hw
  have hTB : TB w #[.int .i64 kd, .int .i64 n, .string x, .string y, .slice a0 n0 c0, .slice a1 n1 c1, .slice a2 n2 c2] W0 := ⟨f0, b0, b1⟩
  have CNOT : Hid (∀ W u p, IsA W u p → Calls Tryd.prog 67 #[u] W fun e w' => ∃ f cap, e = .returned (.func (.func f) #[] cap) ∧ Fr No W w' ∧ IsA w' (.func (.func f) #[] cap) (fun x => !p x)) := fun W u p hu =>
    (not_any u p _ W hu (fun _ h => h)).mono fun e w' ⟨r, he, hf, hi⟩ => by
      obtain ⟨f, cap, rfl, _⟩ := id hi
      exact ⟨f, cap, he, hf, hi.all⟩
  have COF : Hid (∀ W u p, Fr No w W → IsA W u p → Calls Tryd.prog 68 #[u, .slice oa l.length oc] W fun e w' => ∃ a c, e = .returned (.slice a (l.filter p).length c) ∧ Fr No W w' ∧ Names w'.heap.size w' (.slice a (l.filter p).length c) (l.filter p)) := fun W u p hW hu =>
    (of_any _ w.heap.size u _ p l W hu (HL.out W hW) hW.size (by omega)).mono fun e w' ⟨r, he, hf, hr⟩ => by
      obtain ⟨a, c, rfl⟩ := row_form hr
      exact ⟨a, c, he, hf, own_names hr rfl (fun y hy => hl.2 y (List.mem_filter.1 hy).1)⟩
  have CST : Hid (∀ W v m, TB w #[.int .i64 kd, .int .i64 n, .string x, .string y, .slice a0 n0 c0, .slice a1 n1 c1, .slice a2 n2 c2] W → Names W.heap.size W v m → Calls Tryd.prog 69 #[.agg #[.int .i64 kd, .int .i64 n, .string x, .string y, .slice a0 n0 c0, .slice a1 n1 c1, .slice a2 n2 c2], v] W fun e w' => ∃ d0 d1 d2 d3 d4 d5 d6, e = .returned (.agg #[d0, d1, d2, d3, d4, d5, d6]) ∧ Fr No W w' ∧ RS (fun g => S g ∨ (w.heap.size + 2 ≤ g ∧ g < w'.heap.size)) w' [d0, d1, d2, d3, d4, d5, d6] t') := fun W v m hW hv =>
    (hst S W _ v m (HT.out W hW.fr) (fun g hg => Nat.lt_of_lt_of_le (hS g hg) hW.fr.size) hv).mono fun e w' ⟨cs', he, hf, hr⟩ => by
      obtain ⟨_, _, _, _, _, _, _, _, _, _, _, _, _, rfl⟩ := hr.form
      exact ⟨_, _, _, _, _, _, _, he, hf, hr.kept ⟨Nat.le_refl _, fun g hg _ => ⟨hg.imp (fun h => h) (fun h => ⟨Nat.le_trans (lt_of_heap hW.r) h.1, h.2⟩), rfl⟩⟩⟩
  have CCO : Hid (∀ W v d0 d1 d2 d3 d4 d5 d6, TB w #[.int .i64 kd, .int .i64 n, .string x, .string y, .slice a0 n0 c0, .slice a1 n1 c1, .slice a2 n2 c2] W → Names W.heap.size W v (gone k t l) → RS (fun g => S g ∨ (w.heap.size + 2 ≤ g ∧ g < W.heap.size)) W [d0, d1, d2, d3, d4, d5, d6] t' → Calls Tryd.prog 66 #[.int .i64 9, v, .agg #[d0, d1, d2, d3, d4, d5, d6]] W fun e w' => ∃ kd' n' x' y' a0' n0' c0' a1' n1' c1' a2' n2' c2', e = .returned (.agg #[.int .i64 kd', .int .i64 n', .string x', .string y', .slice a0' n0' c0', .slice a1' n1' c1', .slice a2' n2' c2']) ∧ Fr No W w' ∧ RS (fun g => S g ∨ (w.heap.size + 2 ≤ g ∧ g < w'.heap.size)) w' [.int .i64 kd', .int .i64 n', .string x', .string y', .slice a0' n0' c0', .slice a1' n1' c1', .slice a2' n2' c2'] (cnt 9 (gone k t l) t')) := fun W v d0 d1 d2 d3 d4 d5 d6 hW hv hr =>
    (count_any _ W.heap.size 9 wf9 v (gone k t l) (by have := List.length_filter_le (fun x => !Pu.has (Pu.free k t) x) l; unfold gone; omega) t' _ W hv hr (fun g hg => hg.elim (fun h => Nat.lt_of_lt_of_le (hS g h) hW.fr.size) (fun h => h.2))).mono fun e w' ⟨cs', he, hf, hr⟩ => by
      obtain ⟨_, _, _, _, _, _, _, _, _, _, _, _, _, rfl⟩ := hr.form
      exact ⟨_, _, _, _, _, _, _, _, _, _, _, _, _, he, hf, hr.kept ⟨Nat.le_refl _, fun g hg hl => ⟨hg.elim (fun h => h.imp (fun h => h) (fun h => ⟨h.1, hl⟩)) (fun h => .inr ⟨Nat.le_trans (lt_of_heap hW.r) h.1, h.2⟩), rfl⟩⟩⟩
  have HTB := hide hTB
  have HSS := hide hS
  have HW0 := hide hW0
  have hk0 := cell_of_heap b0
  clear hT hS hl hst f0 b0 b1 hW0 hw HT HL hTB
  show Calls Tryd.prog 41 #[.agg #[.int .i64 kd, .int .i64 n, .string x, .string y, .slice a0 n0 c0, .slice a1 n1 c1, .slice a2 n2 c2], .slice oa l.length oc] w _
  go_enter Tryd.func41, Tryd.ntmps41
  go_wp2_with fail
  rw [← HW0.out]
  refine CN.out.mono ?_
  rintro e w1 ⟨u, rfl, hf1, hi1⟩
  obtain ⟨fu, cu, rfl, eg1, _⟩ := id hi1
  have TB1 := hide (HTB.out.step hf1)
  have I1 := hide hi1.all
  clear hf1 hi1 CN hk0 HTB
  have k1 := cell_of_heap TB1.out.t
  have q1 := lt_of_heap TB1.out.t
  have q2 := lt_of_heap TB1.out.r
  go_wp2_with fail
  go_region_with (first
    | (go_at_call 67; refine (CNOT.out _ _ _ (by first | exact I1.out.fr (Fr.refl No _).drew | exact I1.out)).mono ?_; rintro e w2 ⟨f2, cap2, rfl, hf2, hi2⟩; have TB2 := hide (TB1.out.step ((Fr.refl No _).drew.trans hf2)); have I2 := hide hi2; have I12 := hide (I1.out.fr ((Fr.refl No _).drew.trans hf2)); have k2 := cell_of_heap TB2.out.t; have q3 := lt_of_heap TB2.out.t; clear hf2 hi2 CNOT)
    | (go_at_call 68; refine (COF.out _ _ _ TB2.out.fr I2.out).mono ?_; rintro e w3 ⟨a3, c3, rfl, hf3, hn3⟩; have TB3 := hide (TB2.out.step hf3); have N3 := hide hn3; have I13 := hide (I12.out.fr hf3); have k3 := cell_of_heap TB3.out.t; have q4 := lt_of_heap TB3.out.t; clear hf3 hn3 I2)
    | (go_at_call 68; refine (COF.out _ _ _ TB3.out.fr I13.out).mono ?_; rintro e w4 ⟨a4, c4, rfl, hf4, hn4⟩; have TB4 := hide (TB3.out.step hf4); have N4 := hide hn4; have N34 := hide (N3.out.kept (hf4.old (Nat.le_refl _) (fun _ _ e => e)) hf4.size hf4.size); have k4 := cell_of_heap TB4.out.t; have q5 := lt_of_heap TB4.out.t; clear hf4 hn4 I13)
    | (go_at_call 69; refine (CST.out _ _ _ TB4.out N4.out).mono ?_; rintro e w5 ⟨d0, d1, d2, d3, d4, d5, d6, rfl, hf5, hr5⟩; have TB5 := hide (TB4.out.step hf5); have R5 := hide hr5; have N35 := hide (N34.out.kept (hf5.old (Nat.le_refl _) (fun _ _ e => e)) hf5.size hf5.size); clear hf5 hr5 CST)
    | (go_at_call 66; refine (CCO.out _ _ _ _ _ _ _ _ _ TB5.out N35.out R5.out).mono ?_; rintro e w6 ⟨kd', n', x', y', a0', n0', c0', a1', n1', c1', a2', n2', c2', rfl, hf6, hr6⟩; have TB6 := hide (TB5.out.step hf6); have R6 := hide hr6; have k6 := cell_of_heap TB6.out.r; have z6 := frozen_of_heap TB6.out.r; have q6 := lt_of_heap TB6.out.r; clear hf6 hr6))
  all_goals
    obtain ⟨s1, s2⟩ := set7 TB6.out.r (.int .i64 kd') (.int .i64 n') (.string x') (.string y') (.slice a0' n0' c0') (.slice a1' n1' c1') (.slice a2' n2' c2')
    go_wp2_with fail
    refine bodyPost_ret (retT rfl _ _ (w.heap.size + 1) _ _ _ _ _ _ _ (0, 0) rfl s1) rfl ⟨_, rfl, ?_, ?_⟩
    · exact TB6.out.fr.trans' s2 (fun i hi e => by have e : i = w.heap.size + 1 := e; omega)
    · have hs := TB6.out.fr.size
      have hS6 := HSS.out
      exact R6.out.kept ⟨s2.size, fun g hg hl => ⟨hg.imp (fun h => h) (fun h => ⟨by omega, Nat.lt_of_lt_of_le hl s2.size⟩), s2.block g hl (fun e => by
        have e : g = w.heap.size + 1 := e
        rcases hg with h | h
        · have := hS6 g h; omega
        · omega)⟩⟩
end Go.Proofs.YtdcdegeeaakekacDoor
