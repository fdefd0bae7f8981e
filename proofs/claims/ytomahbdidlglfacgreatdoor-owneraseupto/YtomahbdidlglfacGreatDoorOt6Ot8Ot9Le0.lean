/- own: 'term', walked over what 'step' answers, where that stores in what it is handed. -/
import Derived.Test.YtomahbdidlglfacGreatDoorPn0PapOd1Ot2Ot3
import Derived.Test.YtomahbdidlglfacGreatDoorOt5
import Derived.Test.YtomahbdidlglfacGreatDoorOw1Ow2Oc1
import Derived.Test.YtomahbdidlglfacGreatDoorOc2DkDpOc3Oc4Er1
import Derived.Test.YtomahbdidlglfacGreatDoorOt1Er2Er3Td0
namespace Go.Proofs.YtomahbdidlglfacGreatDoor
open Go.RowKit Go.Maps Go.WideMaps

/-- Names in a row that does not lie in V. -/
def NamesX (V : Nat → Prop) (w : World) (v : Value) (l : List ByteArray) : Prop :=
  (∃ a cap, v = .slice a l.length cap ∧ l.length ≤ cap ∧ cap ≤ maxLen ∧ (0 < l.length → ∃ g o, a = some ⟨g, o, none⟩ ∧ ¬ V g ∧ g < w.heap.size ∧ ∀ i, i < (l.map Value.string).length → w.cell? ⟨g, o + i, none⟩ = (l.map Value.string)[i]?)) ∧ Short l
theorem NamesX.form {V : Nat → Prop} {w : World} {v : Value} {l : List ByteArray} (h : NamesX V w v l) : ∃ a c, v = .slice a l.length c := by
  obtain ⟨⟨a, c, e, _⟩, _⟩ := h; exact ⟨a, c, e⟩
theorem NamesX.names {V : Nat → Prop} {w : World} {v : Value} {l : List ByteArray} (h : NamesX V w v l) : Names w.heap.size w v l := by
  obtain ⟨⟨a, c, h1, h2, h3, h4⟩, h5⟩ := h
  refine ⟨⟨a, c, h1, h2, h3, fun h0 => ?_⟩, h5⟩
  obtain ⟨g, o, e1, e2, e3, e4⟩ := h4 h0
  exact ⟨g, o, e1, e3, e3, e4⟩
theorem NamesX.fr {V : Nat → Prop} {w w' : World} {v : Value} {l : List ByteArray} (h : NamesX V w v l) (hf : Fr V w w') : NamesX V w' v l := by
  obtain ⟨⟨a, c, h1, h2, h3, h4⟩, h5⟩ := h
  refine ⟨⟨a, c, h1, h2, h3, fun h0 => ?_⟩, h5⟩
  obtain ⟨g, o, e1, e2, e3, e4⟩ := h4 h0
  refine ⟨g, o, e1, e2, Nat.lt_of_lt_of_le e3 hf.size, fun i hi => ?_⟩
  rw [← e4 i hi]
  simp only [World.cell?, hf.block g e3 e2]
theorem NamesX.no {V : Nat → Prop} {w w' : World} {v : Value} {l : List ByteArray} (h : NamesX V w v l) (hf : Fr No w w') : NamesX V w' v l := h.fr (hf.mono fun _ _ e => e.elim)
theorem own_namesX {V : Nat → Prop} {w : World} {base n : Nat} {v : Value} {l : List ByteArray} {e : TypeId} {sz : Nat} (h : w.ownsRow base e sz v n (l.map .string)) (hn : n = l.length) (hs : Short l) (hV : ∀ g, base ≤ g → ¬ V g) : NamesX V w v l := by
  have hS := own_namesS (S := fun g => base ≤ g) h hn hs (fun g hg _ => hg)
  obtain ⟨⟨a, c, h1, h2, h3, h4⟩, h5⟩ := hS
  refine ⟨⟨a, c, h1, h2, h3, fun h0 => ?_⟩, h5⟩
  obtain ⟨g, o, e1, e2, e3, _, e4⟩ := h4 h0
  exact ⟨g, o, e1, hV g e2, e3, e4⟩

/-- 'step' at t: what stands around what comes of it, and in it, counts; nothing but t's own blocks is stored in. -/
def StepD (Q : Nat) (k : Nat) (t : Pu.TT k) : Prop := ∀ (V : Nat → Prop) (w : World) (cs : List Value) (ov : Value) (l : List ByteArray), RTD k w V cs t → (∀ g, V g → g < w.heap.size) → NamesX V w ov l → l.length + Pu.wt k t ≤ Q →
  Calls Tryz.prog 75 #[.agg cs.toArray, ov] w fun e w' => ∃ cs', e = .returned (.agg cs'.toArray) ∧ Fr V w w' ∧ CW (4 * Q) k Q w' (fun g => V g ∨ New w w' g) cs' t
def TermD (Q : Nat) (k : Nat) (t : Pu.TT k) : Prop := ∀ (V : Nat → Prop) (w : World) (cs : List Value) (ov : Value) (l : List ByteArray), RTD k w V cs t → (∀ g, V g → g < w.heap.size) → NamesX V w ov l → l.length + Pu.wt k t ≤ Q →
  Calls Tryz.prog 38 #[.agg cs.toArray, ov] w fun e w' => ∃ cs', e = .returned (.agg cs'.toArray) ∧ Fr V w w' ∧ CW (4 * Q) k (2 * Q) w' (fun g => V g ∨ New w w' g) cs' t

/-- What is kept of the call's own boxes, where blocks of V may be stored in. -/
structure TBD (V : Nat → Prop) (w : World) (cs : Array Value) (W : World) : Prop where
  fr : Fr V w W
  t : W.heap[w.heap.size]? = some (.cells cs 32 (0, 0))
  r : W.heap[w.heap.size + 1]? = some (.cells #[.int .i64 0, .int .i64 0, .string ⟨#[]⟩, .string ⟨#[]⟩, .slice none 0 0, .slice none 0 0, .slice none 0 0] 32 (0, 0))
theorem TB.toD {V : Nat → Prop} {w W : World} {cs : Array Value} (h : TB w cs W) : TBD V w cs W := ⟨h.fr.mono (fun _ _ e => e.elim), h.t, h.r⟩
theorem TBD.stepD {V : Nat → Prop} {w W W' : World} {cs : Array Value} (h : TBD V w cs W) (hV : ∀ g, V g → g < w.heap.size) (hf : Fr V W W') : TBD V w cs W' :=
  ⟨h.fr.trans hf, fr_heap h.t hf (fun e => by have := hV _ e; omega), fr_heap h.r hf (fun e => by have := hV _ e; omega)⟩
theorem TBD.no {V : Nat → Prop} {w W W' : World} {cs : Array Value} (h : TBD V w cs W) (hf : Fr No W W') : TBD V w cs W' :=
  ⟨h.fr.no hf, fr_heap h.t hf (fun e => e), fr_heap h.r hf (fun e => e)⟩

set_option maxRecDepth 100000 in
set_option maxHeartbeats 4000000 in
theorem term_of_stepD (Q : Nat) (hQ : Q ≤ 1073741824) (k : Nat) (t : Pu.TT k) (hst : StepD Q k t) : TermD Q k t := by
  intro S w cs ov l hT hS hl hql
  obtain ⟨kd, n, x, y, a0, n0, c0, a1, n1, c1, a2, n2, c2, rfl⟩ := hT.form
  obtain ⟨oa, oc, rfl⟩ := hl.form
  obtain ⟨W0, hW0⟩ : ∃ W0, W0 = ((w.alloc (.cells #[.int .i64 kd, .int .i64 n, .string x, .string y, .slice a0 n0 c0, .slice a1 n1 c1, .slice a2 n2 c2] 32)).alloc (.cells #[.int .i64 0, .int .i64 0, .string ⟨#[]⟩, .string ⟨#[]⟩, .slice none 0 0, .slice none 0 0, .slice none 0 0] 32)) := ⟨_, rfl⟩
  have f0 : Fr No w W0 := by rw [hW0]; exact ((Fr.refl No w).alloc _).alloc _
  have b0 : W0.heap[w.heap.size]? = some (.cells #[.int .i64 kd, .int .i64 n, .string x, .string y, .slice a0 n0 c0, .slice a1 n1 c1, .slice a2 n2 c2] 32 (0, 0)) := by rw [hW0]; exact fr_heap (heap_alloc_new w _) ((Fr.refl No _).alloc _) (fun e => e)
  have b1 : W0.heap[w.heap.size + 1]? = some (.cells #[.int .i64 0, .int .i64 0, .string ⟨#[]⟩, .string ⟨#[]⟩, .slice none 0 0, .slice none 0 0, .slice none 0 0] 32 (0, 0)) := by
    have h := heap_alloc_new (w.alloc (.cells #[.int .i64 kd, .int .i64 n, .string x, .string y, .slice a0 n0 c0, .slice a1 n1 c1, .slice a2 n2 c2] 32)) (.cells #[.int .i64 0, .int .i64 0, .string ⟨#[]⟩, .string ⟨#[]⟩, .slice none 0 0, .slice none 0 0, .slice none 0 0] 32)
    rw [World.size_alloc] at h
    rw [hW0]; exact h
  have HT : Hid (∀ W, Fr No w W → RTD k W S [.int .i64 kd, .int .i64 n, .string x, .string y, .slice a0 n0 c0, .slice a1 n1 c1, .slice a2 n2 c2] t) := fun W hW => hT.kept (stays_of_fr hW)
  have HL : Hid (∀ W, Fr No w W → Names w.heap.size W (.slice oa l.length oc) l) := fun W hW => hl.names.kept (hW.old (Nat.le_refl _) (fun _ _ e => e)) (Nat.le_refl _) hW.size
  have CN : Hid (Calls Tryz.prog 71 #[.agg #[.int .i64 kd, .int .i64 n, .string x, .string y, .slice a0 n0 c0, .slice a1 n1 c1, .slice a2 n2 c2]] W0 fun e w' => ∃ u, e = .returned u ∧ Fr No W0 w' ∧ Is (New W0 w') w' u (Pu.has (Pu.free k t))) :=
    needed_any k w.heap.size W0 _ t ((HT.out W0 f0).rts.rt (fun g hg => hS g hg)) f0.size (by omega)
  have hTB : TB w #[.int .i64 kd, .int .i64 n, .string x, .string y, .slice a0 n0 c0, .slice a1 n1 c1, .slice a2 n2 c2] W0 := ⟨f0, b0, b1⟩
  have CNOT : Hid (∀ W u p, IsA W u p → Calls Tryz.prog 73 #[u] W fun e w' => ∃ f cap, e = .returned (.func (.func f) #[] cap) ∧ Fr No W w' ∧ IsA w' (.func (.func f) #[] cap) (fun x => !p x)) := fun W u p hu =>
    (not_any u p _ W hu (fun _ h => h)).mono fun e w' ⟨r, he, hf, hi⟩ => by
      obtain ⟨f, cap, rfl, _⟩ := id hi
      exact ⟨f, cap, he, hf, hi.all⟩
  have COF : Hid (∀ W u p, Fr No w W → IsA W u p → Calls Tryz.prog 74 #[u, .slice oa l.length oc] W fun e w' => ∃ a c, e = .returned (.slice a (l.filter p).length c) ∧ Fr No W w' ∧ NamesX S w' (.slice a (l.filter p).length c) (l.filter p)) := fun W u p hW hu =>
    (of_any _ w.heap.size u _ p l W hu (HL.out W hW) hW.size (by omega)).mono fun e w' ⟨r, he, hf, hr⟩ => by
      obtain ⟨a, c, rfl⟩ := row_form hr
      exact ⟨a, c, he, hf, own_namesX hr rfl (fun y hy => hl.2 y (List.mem_filter.1 hy).1) (fun g hg hs => by have := hS g hs; have := hW.size; omega)⟩
  have CST : Hid (∀ W v m, TB w #[.int .i64 kd, .int .i64 n, .string x, .string y, .slice a0 n0 c0, .slice a1 n1 c1, .slice a2 n2 c2] W → m.length ≤ l.length → NamesX S W v m → Calls Tryz.prog 75 #[.agg #[.int .i64 kd, .int .i64 n, .string x, .string y, .slice a0 n0 c0, .slice a1 n1 c1, .slice a2 n2 c2], v] W fun e w' => ∃ d0 d1 d2 d3 d4 d5 d6, e = .returned (.agg #[d0, d1, d2, d3, d4, d5, d6]) ∧ Fr S W w' ∧ CW (4 * Q) k Q w' (fun g => S g ∨ (w.heap.size + 2 ≤ g ∧ g < w'.heap.size)) [d0, d1, d2, d3, d4, d5, d6] t) := fun W v m hW hm hv =>
    (hst S W _ v m (HT.out W hW.fr) (fun g hg => Nat.lt_of_lt_of_le (hS g hg) hW.fr.size) hv (by omega)).mono fun e w' ⟨cs', he, hf, hr⟩ => by
      obtain ⟨_, _, _, _, _, _, _, _, _, _, _, _, _, rfl⟩ := hr.form
      exact ⟨_, _, _, _, _, _, _, he, hf, hr.sub (fun g hg => hg.imp (fun h => h) (fun h => ⟨Nat.le_trans (lt_of_heap hW.r) h.1, h.2⟩))⟩
  have CCO : Hid (∀ W v d0 d1 d2 d3 d4 d5 d6, TBD S w #[.int .i64 kd, .int .i64 n, .string x, .string y, .slice a0 n0 c0, .slice a1 n1 c1, .slice a2 n2 c2] W → Names W.heap.size W v (gone k t l) → CW (4 * Q) k Q W (fun g => S g ∨ (w.heap.size + 2 ≤ g ∧ g < W.heap.size)) [d0, d1, d2, d3, d4, d5, d6] t → Calls Tryz.prog 72 #[.int .i64 9, v, .agg #[d0, d1, d2, d3, d4, d5, d6]] W fun e w' => ∃ kd' n' x' y' a0' n0' c0' a1' n1' c1' a2' n2' c2', e = .returned (.agg #[.int .i64 kd', .int .i64 n', .string x', .string y', .slice a0' n0' c0', .slice a1' n1' c1', .slice a2' n2' c2']) ∧ Fr No W w' ∧ CW (4 * Q) k (2 * Q) w' (fun g => S g ∨ (w.heap.size + 2 ≤ g ∧ g < w'.heap.size)) [.int .i64 kd', .int .i64 n', .string x', .string y', .slice a0' n0' c0', .slice a1' n1' c1', .slice a2' n2' c2'] t) := fun W v d0 d1 d2 d3 d4 d5 d6 hW hv hr => by
    have hgl : (gone k t l).length ≤ l.length := by unfold gone; exact List.length_filter_le _ _
    refine (countD_any (4 * Q) k Q _ W.heap.size 9 (.inr rfl) v (gone k t l) (by omega) t _ W hv hr (fun g hg => hg.elim (fun h => Nat.lt_of_lt_of_le (hS g h) hW.fr.size) (fun h => h.2))).mono fun e w' ⟨cs', he, hf, hr⟩ => ?_
    have hr := hr.more (m' := 2 * Q) (by omega)
    obtain ⟨_, _, _, _, _, _, _, _, _, _, _, _, _, rfl⟩ := hr.form
    exact ⟨_, _, _, _, _, _, _, _, _, _, _, _, _, he, hf, hr.sub (fun g hg => hg.elim (fun h => h.imp (fun h => h) (fun h => ⟨h.1, Nat.lt_of_lt_of_le h.2 hf.size⟩)) (fun h => .inr ⟨Nat.le_trans (lt_of_heap hW.r) h.1, h.2⟩))⟩
  have HTB := hide hTB
  have HSS := hide hS
  have HW0 := hide hW0
  have hk0 := cell_of_heap b0
  clear hT hS hl hst f0 b0 b1 hW0 HT HL hTB hql
  show Calls Tryz.prog 38 #[.agg #[.int .i64 kd, .int .i64 n, .string x, .string y, .slice a0 n0 c0, .slice a1 n1 c1, .slice a2 n2 c2], .slice oa l.length oc] w _
  go_enter Tryz.func38, Tryz.ntmps38
  go_wp2_with fail
  rw [← HW0.out]
  refine CN.out.mono ?_
  rintro e w1 ⟨u, rfl, hf1, hi1⟩
  obtain ⟨fu, cu, rfl, eg1, _⟩ := id hi1
  have TB1 := hide (HTB.out.step hf1)
  have I1 := hide hi1.all
  clear hf1 hi1 CN hk0 HTB
  have k1 := cell_of_heap TB1.out.t
  have q1 := lt_of_heap TB1.out.t
  have q2 := lt_of_heap TB1.out.r
  go_wp2_with fail
  go_region_with (first
    | (go_at_call 73; refine (CNOT.out _ _ _ (by first | exact I1.out.fr (Fr.refl No _).drew | exact I1.out)).mono ?_; rintro e w2 ⟨f2, cap2, rfl, hf2, hi2⟩; have TB2 := hide (TB1.out.step ((Fr.refl No _).drew.trans hf2)); have I2 := hide hi2; have I12 := hide (I1.out.fr ((Fr.refl No _).drew.trans hf2)); have k2 := cell_of_heap TB2.out.t; have q3 := lt_of_heap TB2.out.t; clear hf2 hi2 CNOT)
    | (go_at_call 74; refine (COF.out _ _ _ TB2.out.fr I2.out).mono ?_; rintro e w3 ⟨a3, c3, rfl, hf3, hn3⟩; have TB3 := hide (TB2.out.step hf3); have N3 := hide hn3; have I13 := hide (I12.out.fr hf3); have k3 := cell_of_heap TB3.out.t; have q4 := lt_of_heap TB3.out.t; clear hf3 hn3 I2)
    | (go_at_call 74; refine (COF.out _ _ _ TB3.out.fr I13.out).mono ?_; rintro e w4 ⟨a4, c4, rfl, hf4, hn4⟩; have TB4 := hide (TB3.out.step hf4); have N4 := hide hn4; have N34 := hide (N3.out.no hf4); have k4 := cell_of_heap TB4.out.t; have q5 := lt_of_heap TB4.out.t; clear hf4 hn4 I13)
    | (go_at_call 75; refine (CST.out _ _ _ TB4.out (List.length_filter_le _ _) N4.out).mono ?_; rintro e w5 ⟨d0, d1, d2, d3, d4, d5, d6, rfl, hf5, hr5⟩; have TB5 := hide (TB4.out.toD.stepD HSS.out hf5); have R5 := hide hr5; have N35 := hide (N34.out.fr hf5).names; clear hf5 hr5 CST)
    | (go_at_call 72; refine (CCO.out _ _ _ _ _ _ _ _ _ TB5.out N35.out R5.out).mono ?_; rintro e w6 ⟨kd', n', x', y', a0', n0', c0', a1', n1', c1', a2', n2', c2', rfl, hf6, hr6⟩; have TB6 := hide (TB5.out.no hf6); have R6 := hide hr6; have k6 := cell_of_heap TB6.out.r; have z6 := frozen_of_heap TB6.out.r; have q6 := lt_of_heap TB6.out.r; clear hf6 hr6))
  all_goals
    obtain ⟨s1, s2⟩ := set7 TB6.out.r (.int .i64 kd') (.int .i64 n') (.string x') (.string y') (.slice a0' n0' c0') (.slice a1' n1' c1') (.slice a2' n2' c2')
    go_wp2_with fail
    refine bodyPost_ret (retT rfl _ _ (w.heap.size + 1) _ _ _ _ _ _ _ (0, 0) rfl s1) rfl ⟨_, rfl, ?_, ?_⟩
    · exact TB6.out.fr.trans' s2 (fun i hi e => by have e : i = w.heap.size + 1 := e; omega)
    · have hs := TB6.out.fr.size
      have hS6 := HSS.out
      refine (R6.out.kept (stays_fr s2 (fun g hg _ e => by
        have e : g = w.heap.size + 1 := e
        rcases hg with h | h
        · have := hS6 g h; omega
        · have := h.1; omega) (fun _ h => h))).sub (fun g h => h.imp (fun h => h) (fun h => ⟨by have := h.1; omega, Nat.lt_of_lt_of_le h.2 s2.size⟩))
end Go.Proofs.YtomahbdidlglfacGreatDoor

/- own: 'and', walked. -/
namespace Go.Proofs.YtomahbdidlglfacGreatDoor
open Go.RowKit Go.Maps Go.WideMaps

set_option maxHeartbeats 1000000 in
theorem and1_any (S : Nat → Prop) (wb ob : Nat) (u v : Value) (p q : ByteArray → Bool) (x : ByteArray) (w : World) (hb : w.heap[wb]? = some (.cells #[u] 107 (0, 0))) (ho : w.heap[ob]? = some (.cells #[v] 107 (0, 0))) (hi : Is S w u p) (hj : Is S w v q) (hx : x.size ≤ maxLen) :
    Calls Tryz.prog 141 #[.string x, .pointer (some ⟨wb, 0, none⟩), .pointer (some ⟨ob, 0, none⟩)] w fun e w' => e = .returned (.bool (p x && q x)) ∧ Fr No w w' := by
  obtain ⟨f, cap, rfl, eg, hc⟩ := hi
  obtain ⟨f2, cap2, rfl, eg2, hc2⟩ := hj
  have CI : Hid (∀ W, Fr No w W → Calls Tryz.prog f (#[.string x] ++ cap) W fun e w' => e = .returned (.bool (p x)) ∧ Fr No W w') := fun W hW => hc W (stays_of_fr hW) x hx
  have CJ : Hid (∀ W, Fr No w W → Calls Tryz.prog f2 (#[.string x] ++ cap2) W fun e w' => e = .returned (.bool (q x)) ∧ Fr No W w') := fun W hW => hc2 W (stays_of_fr hW) x hx
  have b1 : w.cell? ⟨wb, 0, none⟩ = some (.func (.func f) #[] cap) := by rw [cell_of_heap hb]; rfl
  have HO := hide ho
  obtain ⟨px, hpx⟩ : ∃ px, px = p x := ⟨_, rfl⟩
  obtain ⟨qx, hqx⟩ : ∃ qx, qx = q x := ⟨_, rfl⟩
  rw [← hpx] at CI ⊢
  rw [← hqx] at CJ ⊢
  clear hc hc2 hb ho hpx hqx
  cases px
  all_goals
    go_enter Tryz.func141, Tryz.ntmps141
    go_wp2_with fail
    refine (CI.out _ (by first | exact Fr.refl _ _ | exact (Fr.refl _ _).drew)).mono ?_
    rintro e w1 ⟨rfl, hf⟩
    have F1 := hide hf
    have e1 := fr_heap HO.out hf (fun e => e)
    have b2 : w1.cell? ⟨ob, 0, none⟩ = some (.func (.func f2) #[] cap2) := by rw [cell_of_heap e1]; rfl
    clear hf e1
    go_wp2_with fail
  · go_ret
    exact ⟨rfl, F1.out⟩
  · refine (CJ.out _ F1.out).mono ?_
    rintro e w2 ⟨rfl, hf⟩
    have F2 := hide (F1.out.trans hf)
    clear hf
    go_wp2_with fail
    go_ret
    exact ⟨by simp, F2.out⟩

set_option maxHeartbeats 1000000 in
theorem and_any (u v : Value) (p q : ByteArray → Bool) (S : Nat → Prop) (w : World) (hi : Is S w u p) (hj : Is S w v q) (hS : ∀ g, S g → g < w.heap.size) :
    Calls Tryz.prog 127 #[u, v] w fun e w' => ∃ r, e = .returned r ∧ Fr No w w' ∧ Is (fun g => S g ∨ New w w' g) w' r (fun x => p x && q x) := by
  obtain ⟨f, cap, rfl, eg, hc⟩ := id hi
  obtain ⟨f2, cap2, rfl, eg2, hc2⟩ := id hj
  have hsf : ∀ (a : Addr) (fn : Fn) (x y : Array Value) (w : World), (store a (.func fn x y)).run Tryz.prog w = stored Tryz.prog w a (.func fn x y) .plain := fun a fn x y w => run_store Tryz.prog w a _ .plain rfl
  have hmf : ∀ (fn : Fn) (first cap : Array Value) (w : World), (Instr.makeFunc fn first cap).run Tryz.prog w = .ok (.func fn first cap) w := fun _ _ _ _ => rfl
  obtain ⟨W, hW⟩ : ∃ W, W = (w.alloc (.cells #[.func (.func f) #[] cap] 107)).alloc (.cells #[.func (.func f2) #[] cap2] 107) := ⟨_, rfl⟩
  have fW : Fr No w W := by rw [hW]; exact ((Fr.refl No w).alloc _).alloc _
  have g0 : W.heap[w.heap.size]? = some (.cells #[.func (.func f) #[] cap] 107 (0, 0)) := by rw [hW]; exact fr_heap (heap_alloc_new w _) ((Fr.refl No _).alloc _) (fun e => e)
  have g1 : W.heap[w.heap.size + 1]? = some (.cells #[.func (.func f2) #[] cap2] 107 (0, 0)) := by
    have h := heap_alloc_new (w.alloc (.cells #[.func (.func f) #[] cap] 107)) (.cells #[.func (.func f2) #[] cap2] 107)
    rw [World.size_alloc] at h
    rw [hW]; exact h
  have HW := hide hW
  have FW := hide fW
  have G0 := hide g0
  have G1 := hide g1
  have HI := hide hi
  have HJ := hide hj
  have HS := hide hS
  clear hi hj hc hc2 hS hW fW g0 g1
  go_enter Tryz.func127, Tryz.ntmps127
  go_wp2_with fail
  go_ret
  rw [← HW.out]
  have lg := lt_of_heap G0.out
  have lh := lt_of_heap G1.out
  refine ⟨_, rfl, FW.out, 141, #[.pointer (some ⟨w.heap.size, 0, none⟩), .pointer (some ⟨w.heap.size + 1, 0, none⟩)], rfl, fun args w => Tryz.call141 args w, fun V hV x hx => ?_⟩
  have e1 := (hV.2 w.heap.size (.inr ⟨Nat.le_refl _, lg⟩) lg).2.trans G0.out
  have e2 := (hV.2 (w.heap.size + 1) (.inr ⟨Nat.le_succ _, lh⟩) lh).2.trans G1.out
  have st : Stays S S w V := ⟨Nat.le_trans FW.out.size hV.1, fun g hg hl => ⟨hg, (hV.2 g (.inl hg) (Nat.lt_of_lt_of_le hl FW.out.size)).2.trans (FW.out.block g hl (fun e => e))⟩⟩
  exact and1_any S w.heap.size (w.heap.size + 1) _ _ p q x V e1 e2 (HI.out.kept st) (HJ.out.kept st) hx
end Go.Proofs.YtomahbdidlglfacGreatDoor

/- own: func values that answer while blocks of V are stored in. -/
namespace Go.Proofs.YtomahbdidlglfacGreatDoor
open Go.RowKit Go.Maps Go.WideMaps

/-- A func value that answers p of each name, whatever is stored in V. -/
abbrev IsD (V : Nat → Prop) (w : World) (u : Value) (p : ByteArray → Bool) : Prop := Is (fun g => ¬ V g ∧ g < w.heap.size) w u p
theorem IsD.fr {V : Nat → Prop} {w w' : World} {u : Value} {p : ByteArray → Bool} (h : IsD V w u p) (hf : Fr V w w') : IsD V w' u p :=
  h.kept ⟨hf.size, fun g hg hl => ⟨⟨hg.1, Nat.lt_of_lt_of_le hl hf.size⟩, hf.block g hl hg.1⟩⟩
theorem IsD.no {V : Nat → Prop} {w w' : World} {u : Value} {p : ByteArray → Bool} (h : IsD V w u p) (hf : Fr No w w') : IsD V w' u p := h.fr (hf.mono fun _ _ e => e.elim)
theorem Is.d {V S : Nat → Prop} {w : World} {u : Value} {p : ByteArray → Bool} (h : Is S w u p) (hS : ∀ g, S g → g < w.heap.size → ¬ V g) : IsD V w u p :=
  h.kept ⟨Nat.le_refl _, fun g hg hl => ⟨⟨hS g hg hl, hl⟩, rfl⟩⟩

theorem neededD_any (V : Nat → Prop) (k B : Nat) (w : World) (cs : List Value) (t : Pu.TT k) (ht : RT k B w cs t) (hB : B ≤ w.heap.size) (hw : Pu.wt k t ≤ 1073741824) (hV : ∀ g, V g → g < w.heap.size) :
    Calls Tryz.prog 71 #[.agg cs.toArray] w fun e w' => ∃ u, e = .returned u ∧ Fr No w w' ∧ IsD V w' u (Pu.has (Pu.free k t)) :=
  (needed_any k B w cs t ht hB hw).mono fun e w' ⟨u, he, hf, hi⟩ => ⟨u, he, hf, hi.d (fun g hg _ hv => by have := hV g hv; have := hg.1; omega)⟩
theorem notD_any (V : Nat → Prop) (v : Value) (p : ByteArray → Bool) (w : World) (hi : IsD V w v p) (hV : ∀ g, V g → g < w.heap.size) :
    Calls Tryz.prog 73 #[v] w fun e w' => ∃ u, e = .returned u ∧ Fr No w w' ∧ IsD V w' u (fun x => !p x) :=
  (not_any v p _ w hi (fun _ h => h.2)).mono fun e w' ⟨u, he, hf, hi⟩ => ⟨u, he, hf, hi.d (fun g hg _ hv => hg.elim (fun h => h.1 hv) (fun h => by have := hV g hv; have := h.1; omega))⟩
theorem andD_any (V : Nat → Prop) (u v : Value) (p q : ByteArray → Bool) (w : World) (hi : IsD V w u p) (hj : IsD V w v q) (hV : ∀ g, V g → g < w.heap.size) :
    Calls Tryz.prog 127 #[u, v] w fun e w' => ∃ r, e = .returned r ∧ Fr No w w' ∧ IsD V w' r (fun x => p x && q x) :=
  (and_any u v p q _ w hi hj (fun _ h => h.2)).mono fun e w' ⟨u, he, hf, hi⟩ => ⟨u, he, hf, hi.d (fun g hg _ hv => hg.elim (fun h => h.1 hv) (fun h => by have := hV g hv; have := h.1; omega))⟩
theorem ofD_any (V : Nat → Prop) (u v : Value) (p : ByteArray → Bool) (l : List ByteArray) (w : World) (hi : IsD V w u p) (hl : NamesX V w v l) (hn : l.length ≤ 1073741824) (hV : ∀ g, V g → g < w.heap.size) :
    Calls Tryz.prog 74 #[u, v] w fun e w' => ∃ r, e = .returned r ∧ Fr No w w' ∧ w'.ownsRow w.heap.size 9 1 r (l.filter p).length ((l.filter p).map .string) ∧ NamesX V w' r (l.filter p) :=
  (of_any _ w.heap.size u v p l w hi hl.names (Nat.le_refl _) (by omega)).mono fun e w' ⟨r, he, hf, hr⟩ => ⟨r, he, hf, hr, own_namesX hr rfl (fun y hy => hl.2 y (List.mem_filter.1 hy).1) (fun g hg hv => by have := hV g hv; omega)⟩
end Go.Proofs.YtomahbdidlglfacGreatDoor

/- A term of two lists' places, stored in: no walk in it. -/
namespace Go.Proofs.YtomahbdidlglfacGreatDoor
open Go.RowKit Go.Maps Go.WideMaps

abbrev tz : Array Value := #[.int .i64 0, .int .i64 0, .string ⟨#[]⟩, .string ⟨#[]⟩, .slice none 0 0, .slice none 0 0, .slice none 0 0]
/-- What stays where what lies in U stays. -/
abbrev KeptP (P : World → (Nat → Prop) → List Value → Prop) : Prop := ∀ (w w' : World) (U : Nat → Prop) (c : List Value), Stays U U w w' → P w U c → P w' U c
theorem kept_rtd (k : Nat) (t : Pu.TT k) : KeptP (fun w V cs => RTD k w V cs t) := fun _ _ _ _ h => RTD.kept h
theorem kept_cw (M k m : Nat) (t : Pu.TT k) : KeptP (fun w V cs => CW M k m w V cs t) := fun _ _ _ _ h => CW.kept h
/-- A call's boxes, and a row of two terms. -/
structure LetAt (S V1 : Nat → Prop) (w : World) (cs : Array Value) (av : Value) (P R : World → (Nat → Prop) → List Value → Prop) (ca cb : List Value) (A B : Nat → Prop) (W : World) : Prop where
  fr : Fr S w W
  t : W.heap[w.heap.size]? = some (.cells cs 32 (0, 0))
  r : W.heap[w.heap.size + 1]? = some (.cells tz 32 (0, 0))
  row : RowS V1 W av 2 (ca ++ cb)
  pa : P W A ca
  pb : R W B cb
theorem st_fr {S T : Nat → Prop} {w w' : World} (hf : Fr T w w') (hd : ∀ g, S g → g < w.heap.size → ¬ T g) : Stays S S w w' := stays_fr hf hd (fun _ h => h)
theorem LetAt.no {S V1 : Nat → Prop} {w : World} {cs : Array Value} {av : Value} {P R : World → (Nat → Prop) → List Value → Prop} {ca cb : List Value} {A B : Nat → Prop} {W W' : World} (h : LetAt S V1 w cs av P R ca cb A B W) (hP : KeptP P) (hR : KeptP R) (hf : Fr No W W') : LetAt S V1 w cs av P R ca cb A B W' :=
  ⟨h.fr.no hf, fr_heap h.t hf (fun e => e), fr_heap h.r hf (fun e => e), h.row.kept (stays_of_fr hf), hP _ _ _ _ (stays_of_fr hf) h.pa, hR _ _ _ _ (stays_of_fr hf) h.pb⟩
theorem LetAt.put0 {S V1 : Nat → Prop} {w : World} {cs : Array Value} {g o cap : Nat} {P R Q : World → (Nat → Prop) → List Value → Prop} {ca cb ca' : List Value} {A B : Nat → Prop} {W W' : World} (h : LetAt S V1 w cs (.slice (some ⟨g, o, none⟩) 2 cap) P R ca cb A B W) (hS : ∀ x, S x → x < w.heap.size)
    (hA : Sub A S) (hV : Sub V1 S) (dVA : Dis V1 A) (dVB : Dis V1 B) (dAB : Dis A B) (hg : V1 g) (hf : Fr A W W') (hc : Q W' (fun x => A x ∨ New W W' x) ca') (hl : ca.length = 7) (hl' : ca'.length = 7) (hR : KeptP R) (hQ : KeptP Q) :
    LetAt S V1 w cs (.slice (some ⟨g, o, none⟩) 2 cap) Q R ca' cb (fun x => A x ∨ New W W' x) B (setsAt W' g o ca') ∧ Fr S W (setsAt W' g o ca') := by
  have hsz := h.fr.size
  have hrow := h.row.kept (st_of hf dVA)
  have hrow' : RowS V1 W' (.slice (some ⟨g, o, none⟩) 2 cap) 2 ([] ++ ca ++ cb) := by simpa using hrow
  have hp := row_put (us := ca') hrow' (by decide) (by rw [hl, hl']) (by omega)
  simp only [List.length_nil, Nat.add_zero, List.nil_append] at hp
  have gW : g < W.heap.size := by have := hS g (hV g hg); omega
  have ns : ∀ x, w.heap.size ≤ x → ¬ A x := fun x hx ha => by have := hS x (hA x ha); omega
  have gs := hS g (hV g hg)
  have f2 : Fr S W (setsAt W' g o ca') := (hf.mono (fun x _ ha => hA x ha)).trans (hp.2.mono (fun x _ e => by have e : x = g := e; rw [e]; exact hV g hg))
  refine ⟨⟨h.fr.trans f2, ?_, ?_, hp.1, ?_, ?_⟩, f2⟩
  · exact fr_heap (fr_heap h.t hf (ns _ (Nat.le_refl _))) hp.2 (fun e => by have e : w.heap.size = g := e; omega)
  · exact fr_heap (fr_heap h.r hf (ns _ (Nat.le_succ _))) hp.2 (fun e => by have e : w.heap.size + 1 = g := e; omega)
  · exact hQ _ _ _ _ (st_of hp.2 (fun x hx e => by have e : x = g := e; subst e; exact hx.elim (dVA x hg) (fun h => by have := h.1; omega))) hc
  · exact hR _ _ _ _ (st_of hp.2 (fun x hx e => by have e : x = g := e; subst e; exact dVB x hg hx)) (hR _ _ _ _ (st_of hf (fun x hx ha => dAB x ha hx)) h.pb)
theorem LetAt.put1 {S V1 : Nat → Prop} {w : World} {cs : Array Value} {g o cap : Nat} {P R Q : World → (Nat → Prop) → List Value → Prop} {ca cb cb' : List Value} {A B : Nat → Prop} {W W' : World} (h : LetAt S V1 w cs (.slice (some ⟨g, o, none⟩) 2 cap) P R ca cb A B W) (hS : ∀ x, S x → x < w.heap.size)
    (hB : Sub B S) (hV : Sub V1 S) (dVA : Dis V1 A) (dVB : Dis V1 B) (dAB : Dis A B) (hg : V1 g) (hf : Fr B W W') (hc : Q W' (fun x => B x ∨ New W W' x) cb') (hl : ca.length = 7) (hlb : cb.length = 7) (hl' : cb'.length = 7) (hP : KeptP P) (hQ : KeptP Q) :
    LetAt S V1 w cs (.slice (some ⟨g, o, none⟩) 2 cap) P Q ca cb' A (fun x => B x ∨ New W W' x) (setsAt W' g (o + 7) cb') ∧ Fr S W (setsAt W' g (o + 7) cb') := by
  have hsz := h.fr.size
  have hrow := h.row.kept (st_of hf dVB)
  have hrow' : RowS V1 W' (.slice (some ⟨g, o, none⟩) 2 cap) 2 (ca ++ cb ++ []) := by simpa using hrow
  have hp := row_put (us := cb') hrow' (by decide) (by rw [hlb, hl']) (by omega)
  simp only [hl, List.append_nil] at hp
  have gW : g < W.heap.size := by have := hS g (hV g hg); omega
  have ns : ∀ x, w.heap.size ≤ x → ¬ B x := fun x hx ha => by have := hS x (hB x ha); omega
  have gs := hS g (hV g hg)
  have f2 : Fr S W (setsAt W' g (o + 7) cb') := (hf.mono (fun x _ ha => hB x ha)).trans (hp.2.mono (fun x _ e => by have e : x = g := e; rw [e]; exact hV g hg))
  refine ⟨⟨h.fr.trans f2, ?_, ?_, hp.1, ?_, ?_⟩, f2⟩
  · exact fr_heap (fr_heap h.t hf (ns _ (Nat.le_refl _))) hp.2 (fun e => by have e : w.heap.size = g := e; omega)
  · exact fr_heap (fr_heap h.r hf (ns _ (Nat.le_succ _))) hp.2 (fun e => by have e : w.heap.size + 1 = g := e; omega)
  · exact hP _ _ _ _ (st_of hp.2 (fun x hx e => by have e : x = g := e; subst e; exact dVA x hg hx)) (hP _ _ _ _ (st_of hf (fun x hx ha => dAB x hx ha)) h.pa)
  · exact hQ _ _ _ _ (st_of hp.2 (fun x hx e => by have e : x = g := e; subst e; exact hx.elim (dVB x hg) (fun h => by have := h.1; omega))) hc
/-- The two terms of a row of two, cell by cell. -/
theorem LetAt.cells {S V1 : Nat → Prop} {w : World} {cs : Array Value} {g o cap : Nat} {P R : World → (Nat → Prop) → List Value → Prop} {ca cb : List Value} {A B : Nat → Prop} {W : World} (h : LetAt S V1 w cs (.slice (some ⟨g, o, none⟩) 2 cap) P R ca cb A B W) (hl : ca.length = 7) (hlb : cb.length = 7) :
    V1 g ∧ g < W.heap.size ∧ (∀ j, j < 7 → W.cell? ⟨g, o + j, none⟩ = ca[j]?) ∧ (∀ j, j < 7 → W.cell? ⟨g, o + 7 + j, none⟩ = cb[j]?) ∧ (∀ j, j < 14 → W.frozen? ⟨g, o + j, none⟩ = false) := by
  obtain ⟨a', cap', hv, h2, h3, h4⟩ := h.row
  injection hv with hv1 _ hv2
  subst hv1 hv2
  obtain ⟨g', o', e1, hS, hg, hz, hcell⟩ := h4 (by decide)
  injection e1 with e1
  injection e1 with e1 e2
  subst e1 e2
  have hlen : (ca ++ cb).length = 14 := by simp [hl, hlb]
  refine ⟨hS, hg, fun j hj => ?_, fun j hj => ?_, fun j hj => hz j (by omega)⟩
  · rw [hcell j (by omega), List.getElem?_append_left (by omega)]
  · rw [Nat.add_assoc, hcell (7 + j) (by omega), List.getElem?_append_right (by omega), hl, Nat.add_sub_cancel_left]
/-- The two terms of a row of two that lie apart. -/
theorem two_terms {k : Nat} {P : (Nat → Prop) → List Value → Pu.TT k → Prop} {V : Nat → Prop} {xs : List Value} {l : List (Pu.TT k)} (h : EachD 7 P V xs l) (hl : l.length = 2) :
    ∃ a b A B ca cb, l = [a, b] ∧ xs = ca ++ cb ∧ ca.length = 7 ∧ cb.length = 7 ∧ Sub A V ∧ Sub B V ∧ Dis A B ∧ P A ca a ∧ P B cb b := by
  match l, hl, h with
  | [a, b], _, ⟨A, U, ca, rest, h1, h2, h3, h4, h5, h6, B, U2, cb, rest2, g1, g2, g3, g4, g5, g6, g7⟩ =>
    have g7 : rest2 = [] := g7
    subst g7
    rw [List.append_nil] at g1
    subst g1
    exact ⟨a, b, A, B, ca, rest, rfl, h1, h2, g2, h3, fun x hx => h4 x (g3 x hx), fun x hx hb => h5 x hx (g3 x hb), h6, g6⟩
theorem NamesX.sub {V V' : Nat → Prop} {w : World} {v : Value} {l : List ByteArray} (h : NamesX V w v l) (hs : Sub V' V) : NamesX V' w v l := by
  obtain ⟨⟨a, c, h1, h2, h3, h4⟩, h5⟩ := h
  refine ⟨⟨a, c, h1, h2, h3, fun h0 => ?_⟩, h5⟩
  obtain ⟨g, o, e1, e2, e3, e4⟩ := h4 h0
  exact ⟨g, o, e1, fun h => e2 (hs g h), e3, e4⟩
theorem Is.mono {S S' : Nat → Prop} {w : World} {u : Value} {p : ByteArray → Bool} (h : Is S w u p) (hs : ∀ g, S g → g < w.heap.size → S' g) : Is S' w u p :=
  h.kept ⟨Nat.le_refl _, fun g hg hl => ⟨hs g hg hl, rfl⟩⟩
theorem IsD.form {V : Nat → Prop} {w : World} {u : Value} {p : ByteArray → Bool} (h : IsD V w u p) : ∃ f c, u = .func (.func f) #[] c := by
  obtain ⟨f, c, e, _⟩ := h
  exact ⟨f, c, e⟩
theorem amongD_any (V : Nat → Prop) (B : Nat) (v : Value) (l : List ByteArray) (w : World) (hl : Names B w v l) (hB : B ≤ w.heap.size) (hn : l.length ≤ 1099511627776) (hV : ∀ g, V g → g < w.heap.size) :
    Calls Tryz.prog 104 #[v] w fun e w' => ∃ f c, e = .returned (.func (.func f) #[] c) ∧ Fr No w w' ∧ IsD V w' (.func (.func f) #[] c) (Pu.has l) :=
  (among_any B v l w hl hB hn).mono fun e w' ⟨u, he, hf, hi⟩ => by
    obtain ⟨f, c, rfl, _⟩ := id hi
    exact ⟨f, c, he, hf, hi.d (fun g hg _ hv => by have := hV g hv; have := hg.1; omega)⟩
theorem name_one {w : World} {b : Nat} {x : ByteArray} (h : w.heap[b]? = some (.cells #[.string x] 9 (0, 0))) (hx : x.size ≤ maxLen) : Names w.heap.size w (.slice (some ⟨b, 0, none⟩) 1 1) [x] := by
  have hb := lt_of_heap h
  refine ⟨⟨some ⟨b, 0, none⟩, 1, rfl, Nat.le_refl _, by unfold maxLen; decide, fun _ => ⟨b, 0, rfl, hb, hb, fun i hi => ?_⟩⟩, fun y hy => by simp at hy; rw [hy]; exact hx⟩
  rw [Nat.zero_add, cell_of_heap h i]
  simp
theorem setsAt_size : ∀ (us : List Value) (w : World) (g p : Nat), (setsAt w g p us).heap.size = w.heap.size
  | [], _, _, _ => rfl
  | u :: r, w, g, p => by
    show (setsAt (w.setCell ⟨g, p, none⟩ u) g (p + 1) r).heap.size = w.heap.size
    rw [setsAt_size r]
    simp [World.setCell]
theorem cell_off {W : World} {p q : Addr} {u : Value} (h : q.block ≠ p.block) : (W.setCell p u).cell? q = W.cell? q := by
  simp only [World.cell?, World.setCell]
  rw [Array.getElem?_modify]
  rw [if_neg (fun e => h e.symm)]
theorem keepA7 {W : World} {g i0 i1 i2 i3 i4 i5 i6 : Nat} {q : Addr} {v : Option Value} (u0 u1 u2 u3 u4 u5 u6 : Value) (h : q.block ≠ g) (hv : W.cell? q = v) :
    (((((((W.setCell ⟨g, i0, none⟩ u0).setCell ⟨g, i1, none⟩ u1).setCell ⟨g, i2, none⟩ u2).setCell ⟨g, i3, none⟩ u3).setCell ⟨g, i4, none⟩ u4).setCell ⟨g, i5, none⟩ u5).setCell ⟨g, i6, none⟩ u6).cell? q = v := by
  rw [cell_off h, cell_off h, cell_off h, cell_off h, cell_off h, cell_off h, cell_off h, hv]
theorem cell_allocA {W : World} {q : Addr} {u : Value} (ob : Obj) (h : W.cell? q = some u) : (W.alloc ob).cell? q = some u := by
  obtain ⟨g, o, r⟩ := q
  have hg : g < W.heap.size := by
    rcases Nat.lt_or_ge g W.heap.size with h' | h'
    · exact h'
    · simp [World.cell?, Array.getElem?_eq_none h'] at h
  rw [← h]
  simp only [World.cell?]
  rw [((Fr.refl No W).alloc ob).block g hg (fun e => e)]
/-- What the walk wants to know at a world: the call's box, and one term's cells. -/
structure Aft (w : World) (cs : Array Value) (g p : Nat) (ca : List Value) (W : World) : Prop where
  t : W.heap[w.heap.size]? = some (.cells cs 32 (0, 0))
  r : W.heap[w.heap.size + 1]? = some (.cells tz 32 (0, 0))
  lt : g < W.heap.size
  cell : ∀ j, j < 7 → W.cell? ⟨g, p + j, none⟩ = ca[j]?
  froz : ∀ j, j < 7 → W.frozen? ⟨g, p + j, none⟩ = false
theorem LetAt.aft0 {S V1 : Nat → Prop} {w : World} {cs : Array Value} {g o cap : Nat} {P R : World → (Nat → Prop) → List Value → Prop} {ca cb : List Value} {A B : Nat → Prop} {W : World} (h : LetAt S V1 w cs (.slice (some ⟨g, o, none⟩) 2 cap) P R ca cb A B W) (hl : ca.length = 7) (hlb : cb.length = 7) : Aft w cs g o ca W :=
  have h' := h.cells hl hlb
  ⟨h.t, h.r, h'.2.1, h'.2.2.1, fun j hj => h'.2.2.2.2 j (by omega)⟩
theorem LetAt.aft1 {S V1 : Nat → Prop} {w : World} {cs : Array Value} {g o cap : Nat} {P R : World → (Nat → Prop) → List Value → Prop} {ca cb : List Value} {A B : Nat → Prop} {W : World} (h : LetAt S V1 w cs (.slice (some ⟨g, o, none⟩) 2 cap) P R ca cb A B W) (hl : ca.length = 7) (hlb : cb.length = 7) : Aft w cs g (o + 7) cb W :=
  have h' := h.cells hl hlb
  ⟨h.t, h.r, h'.2.1, h'.2.2.2.1, fun j hj => by rw [Nat.add_assoc]; exact h'.2.2.2.2 (7 + j) (by omega)⟩
theorem Aft.fr {w : World} {cs : Array Value} {g p : Nat} {ca : List Value} {T : Nat → Prop} {W W' : World} (h : Aft w cs g p ca W) (hf : Fr T W W') (h0 : ¬ T w.heap.size) (h1 : ¬ T (w.heap.size + 1)) (hg : ¬ T g) : Aft w cs g p ca W' :=
  ⟨fr_heap h.t hf h0, fr_heap h.r hf h1, Nat.lt_of_lt_of_le h.lt hf.size,
    fun j hj => by rw [show W'.cell? ⟨g, p + j, none⟩ = W.cell? ⟨g, p + j, none⟩ from by simp only [World.cell?, hf.block g h.lt hg]]; exact h.cell j hj,
    fun j hj => by rw [show W'.frozen? ⟨g, p + j, none⟩ = W.frozen? ⟨g, p + j, none⟩ from by simp only [World.frozen?, hf.block g h.lt hg]]; exact h.froz j hj⟩
/-- 'term' at one of the two. -/
theorem term_two {Q k : Nat} {a : Pu.TT k} (hT : TermD Q k a) {T V1 A : Nat → Prop} {w W : World} {cs : Array Value} {g p : Nat} {ca : List Value} {v : Value} {m : List ByteArray} (ht : RTD k W A ca a) (haf : Aft w cs g p ca W) (hw : w.heap.size ≤ W.heap.size) (hTw : ∀ x, T x → x < w.heap.size) (hA : Sub A T) (hg : V1 g) (hd : Dis V1 A) (hm : NamesX T W v m) (hq : m.length + Pu.wt k a ≤ Q) :
    Calls Tryz.prog 38 #[.agg ca.toArray, v] W fun e w' => ∃ kd n x y a0 n0 c0 a1 n1 c1 a2 n2 c2, e = .returned (.agg #[.int .i64 kd, .int .i64 n, .string x, .string y, .slice a0 n0 c0, .slice a1 n1 c1, .slice a2 n2 c2]) ∧ Fr A W w' ∧
      CW (4 * Q) k (4 * Q) w' (fun x => A x ∨ New W w' x) [.int .i64 kd, .int .i64 n, .string x, .string y, .slice a0 n0 c0, .slice a1 n1 c1, .slice a2 n2 c2] a ∧ Aft w cs g p ca w' :=
  (hT A W ca v m ht (fun x hx => Nat.lt_of_lt_of_le (hTw x (hA x hx)) hw) (hm.sub hA) hq).mono fun e w' ⟨cs', he, hf, hr⟩ => by
    obtain ⟨kd, n, x, y, a0, n0, c0, a1, n1, c1, a2, n2, c2, rfl⟩ := hr.form
    exact ⟨kd, n, x, y, a0, n0, c0, a1, n1, c1, a2, n2, c2, he, hf, hr.more (by omega), haf.fr hf (fun h => by have := hTw _ (hA _ h); omega) (fun h => by have := hTw _ (hA _ h); omega) (fun h => hd g hg h)⟩
end Go.Proofs.YtomahbdidlglfacGreatDoor
