/- Values that are alike, by the program's 'Same'; few values: 'each', 'Few'. -/
import Derived.Test.YtdgmengfdfkgaabDoorRvE5
namespace Go.Proofs.YtdgmengfdfkgaabDoor
open Go.RowKit Go.Maps Go.WideMaps

/-- What 'Same' answers at values of k levels. -/
def SameV (k : Nat) : Prop := ∀ (k2 : Nat) (w : World) (cs1 cs2 : List Value) (a b : Pu.V), RV k Any w cs1 a → RV k2 Any w cs2 b →
  Calls Tryd.prog 22 #[.agg cs1.toArray, .agg cs2.toArray] w fun e w' => ∃ r, e = .returned (.bool r) ∧ (r = true ↔ a = b) ∧ Fr No w w'

set_option maxHeartbeats 4000000 in
theorem equalVals_any (k : Nat) (hS : SameV k) (k2 : Nat) (w : World) (v1 v2 : Value) (xs1 xs2 : List Value) (l1 l2 : List Pu.V) (hr1 : RowS Any w v1 l1.length xs1) (he1 : Each 3 (RV k Any w) xs1 l1) (hr2 : RowS Any w v2 l2.length xs2) (he2 : Each 3 (RV k2 Any w) xs2 l2) :
    Calls Tryd.prog 46 #[v1, v2, .func (.func 22) #[] #[]] w fun e w' => ∃ r, e = .returned (.bool r) ∧ (r = true ↔ l1 = l2) ∧ Fr No w w' := by
  obtain ⟨a1, d1, rfl, hd1, hd1'⟩ := hr1.form
  obtain ⟨a2, d2, rfl, hd2, hd2'⟩ := hr2.form
  unfold maxLen at hd1' hd2'
  have HR1 := hide hr1
  have HE1 := hide he1
  have HR2 := hide hr2
  have HE2 := hide he2
  have HS := hide hS
  clear hr1 he1 hr2 he2 hS
  by_cases hl : l1.length = l2.length
  rotate_left
  · have hl' : ((l1.length : Int) != (l2.length : Int)) = true := by simp; omega
    have HN : Hid (¬ l1 = l2) := fun e => hl (congrArg List.length e)
    clear hl
    go_enter Tryd.func46, Tryd.ntmps46
    go_wp2_with fail
    go_ret
    exact ⟨false, rfl, ⟨fun h => absurd h (by decide), fun h => absurd h HN.out⟩, Fr.refl No w⟩
  rw [← hl]
  have HL := hide hl
  have hd2c : l1.length ≤ d2 := by omega
  clear hl hd2
  go_enter Tryd.func46, Tryd.ntmps46
  go_wp2_with fail
  go_loopw [17] (fun q wr => ∃ i : Nat, i ≤ l1.length ∧ q = .int .i64 i ∧ Fr No w wr ∧ ∀ j (h1 : j < l1.length) (h2 : j < l2.length), j < i → l1[j] = l2[j]) (fun q _ => l1.length - (intOf q).toNat)
  case atStart => exact ⟨0, Nat.zero_le _, rfl, Fr.refl _ _, fun j _ _ hj => absurd hj (by omega)⟩
  case round =>
    obtain ⟨i, hi, rfl, hf, hall⟩ := hrel
    have HA := hide hall
    clear hall
    by_cases hlt : i < l1.length
    · have hlt2 : i < l2.length := by have := HL.out; omega
      obtain ⟨g, o, cap, b1, m1, e1, hav, _, _, _, hgw, hm1, hrt, q0, q1, q2⟩ := kids_at (HR1.out.kept (stays_fr hf (fun _ _ _ e => e) (fun _ h => h))) (HE1.out.mono fun _ _ h => h.fr hf) i hlt
      injection hav with hav1 _ hav2
      subst hav1 hav2
      obtain ⟨g', o', cap', b2, m2, e2, hav', _, _, _, hgw', hm2, hrt', p0, p1, p2⟩ := kids_at (HR2.out.kept (stays_fr hf (fun _ _ _ e => e) (fun _ h => h))) (HE2.out.mono fun _ _ h => h.fr hf) i hlt2
      injection hav' with hav1 _ hav2
      subst hav1 hav2
      obtain ⟨x, hx⟩ : ∃ x, x = l1[i] := ⟨_, rfl⟩
      obtain ⟨y, hy⟩ : ∃ y, y = l2[i] := ⟨_, rfl⟩
      rw [← hx] at hrt q0 q1 hm1
      rw [← hy] at hrt' p0 p1 hm2
      have AS : Hid (∀ W, Fr No wr W → Calls Tryd.prog 22 #[.agg #[.bool x.con, .int .i64 x.n, .slice b1 m1 e1], .agg #[.bool y.con, .int .i64 y.n, .slice b2 m2 e2]] W fun e w' => ∃ r, e = .returned (.bool r) ∧ (r = true ↔ x = y) ∧ Fr No W w') := fun W hW =>
        HS.out k2 W _ _ x y (hrt.fr hW) (hrt'.fr hW)
      have HF := hide hf
      have HX := hide hx
      have HY := hide hy
      clear hrt hrt' hf hx hy hm1 hm2
      have i1 : (i : Int) < (l1.length : Int) := by omega
      have i0 : (0 : Int) ≤ (i : Int) := by omega
      go_wp2_with fail
      refine (AS.out _ (((Fr.refl No wr).alloc _).alloc _)).mono ?_
      rintro e w5 ⟨r, rfl, hr5, hf5⟩
      have F5 := hide ((HF.out.alloc _).alloc _ |>.trans hf5)
      have HR5 := hide hr5
      clear hf5 hr5 AS
      cases r with
      | true =>
        go_wp2_with fail
        go_roundw
        case rel =>
          refine ⟨i + 1, by omega, by go_num, F5.out, fun j h1 h2 hj => ?_⟩
          by_cases hji : j = i
          · subst hji; rw [← HX.out, ← HY.out]; exact HR5.out.1 (by simp)
          · exact HA.out j h1 h2 (by omega)
        case measure => simp [intOf]; omega
      | false =>
        have HN : Hid (¬ l1 = l2) := fun e => by
          have hxy : x = y := by rw [HX.out, HY.out]; exact List.getElem_of_eq e _
          exact absurd (HR5.out.2 hxy) (by decide)
        go_wp2_with fail
        go_ret
        exact ⟨false, rfl, ⟨fun h => absurd h (by decide), fun h => absurd h HN.out⟩, F5.out⟩
    · have hil : i = l1.length := by omega
      subst hil
      have HF := hide hf
      clear hf
      have HN : Hid (l1 = l2) := List.ext_getElem HL.out (fun j h1 h2 => HA.out j h1 h2 h1)
      go_wp2_with fail
      go_ret
      exact ⟨true, rfl, ⟨fun _ => HN.out, fun _ => rfl⟩, HF.out⟩

set_option maxHeartbeats 4000000 in
theorem sameV_node (k : Nat) (hS : SameV k) : SameV (k + 1) := by
  intro k2 w cs1 cs2 s t ht1 ht2
  cases k2 with
  | zero => exact ht2.elim
  | succ k2 =>
  obtain ⟨kv1, xs1, rfl, hn1, hr1, he1⟩ := ht1
  obtain ⟨kv2, xs2, rfl, hn2, hr2, he2⟩ := ht2
  obtain ⟨a1, d1, rfl, _⟩ := hr1.form
  obtain ⟨a2, d2, rfl, _⟩ := hr2.form
  obtain ⟨c1, n1, l1⟩ := s
  obtain ⟨c2, n2, l2⟩ := t
  simp only at *
  have CE : Hid (∀ W, Fr No w W → Calls Tryd.prog 46 #[.slice a1 l1.length d1, .slice a2 l2.length d2, .func (.func 22) #[] #[]] W fun e w' => ∃ r, e = .returned (.bool r) ∧ (r = true ↔ l1 = l2) ∧ Fr No W w') := fun W hW =>
    equalVals_any k hS k2 W _ _ _ _ l1 l2 (hr1.kept (stays_fr hW (fun _ _ _ e => e) (fun _ h => h))) (he1.mono fun _ _ h => h.fr hW) (hr2.kept (stays_fr hW (fun _ _ _ e => e) (fun _ h => h))) (he2.mono fun _ _ h => h.fr hW)
  clear hr1 he1 hr2 he2 hS
  show Calls Tryd.prog 22 #[.agg #[.bool c1, .int .i64 n1, .slice a1 l1.length d1], .agg #[.bool c2, .int .i64 n2, .slice a2 l2.length d2]] w _
  have FW : Hid (∀ o1 o2, Fr No w ((w.alloc o1).alloc o2)) := fun o1 o2 => ((Fr.refl No w).alloc o1).alloc o2
  by_cases h1 : c1 = c2
  rotate_left
  · have HN : Hid (¬ (⟨c1, n1, l1⟩ : Pu.V) = ⟨c2, n2, l2⟩) := fun e => h1 (congrArg Pu.V.con e)
    have h1' : (c1 == c2) = false := by simpa using h1
    go_enter Tryd.func22, Tryd.ntmps22
    go_wp2_with fail
    go_ret
    exact ⟨false, by simp, ⟨fun h => absurd h (by decide), fun h => absurd h HN.out⟩, FW.out _ _⟩
  subst h1
  by_cases h2 : n1 = n2
  rotate_left
  · have HN : Hid (¬ (⟨c1, n1, l1⟩ : Pu.V) = ⟨c1, n2, l2⟩) := fun e => h2 (congrArg Pu.V.n e)
    go_enter Tryd.func22, Tryd.ntmps22
    go_wp2_with fail
    go_ret
    exact ⟨false, by simp, ⟨fun h => absurd h (by decide), fun h => absurd h HN.out⟩, FW.out _ _⟩
  subst h2
  have HE : Hid ((⟨c1, n1, l1⟩ : Pu.V) = ⟨c1, n1, l2⟩ ↔ l1 = l2) := ⟨fun e => congrArg Pu.V.kids e, fun e => by rw [e]⟩
  go_enter Tryd.func22, Tryd.ntmps22
  go_wp2_with fail
  refine (CE.out _ (FW.out _ _)).mono ?_
  rintro e w1 ⟨r, rfl, hr, hf1⟩
  have F1 := hide ((FW.out _ _).trans hf1)
  have HR := hide hr
  clear hf1 hr CE
  go_wp2_with fail
  go_ret
  exact ⟨r, by simp, HR.out.trans HE.out.symm, F1.out⟩

theorem sameV_all : ∀ k, SameV k
  | 0 => fun _ _ _ _ _ _ h => h.elim
  | k + 1 => sameV_node k (sameV_all k)

/-! Few. -/
theorem nodes_eq (v : Pu.V) : v.nodes = 1 + (v.kids.map Pu.V.nodes).sum := by
  obtain ⟨c, n, ks⟩ := v
  rw [Pu.V.nodes]
theorem nodes_pos (v : Pu.V) : 1 ≤ v.nodes := by rw [nodes_eq]; omega

/-- The counter. -/
def CloF (cb : Nat) : Value := .func (.func 48) #[] #[.pointer (some ⟨cb, 0, none⟩)]

set_option maxHeartbeats 1000000 in
theorem few1_any (cb n : Nat) (w : World) (hc : w.heap[cb]? = some (.cells #[.int .i64 n] 3 (0, 0))) (hn : n ≤ 2000) :
    Calls Tryd.prog 48 #[.pointer (some ⟨cb, 0, none⟩)] w fun e w' => e = .returned (.bool (decide (n + 1 ≤ 1000))) ∧ Fr (· = cb) w w' ∧ w'.heap[cb]? = some (.cells #[.int .i64 ((n + 1 : Nat) : Int)] 3 (0, 0)) := by
  have c0 := cell_of_heap hc 0
  have hcl := lt_of_heap hc
  have hfz := frozen_of_heap hc 0
  have HC := hide hc
  clear hc
  go_enter Tryd.func48, Tryd.ntmps48
  go_wp2_with fail
  go_ret
  refine ⟨?_, ?_, ?_⟩
  · have e : decide ((n : Int) + 1 ≤ 1000) = decide (n + 1 ≤ 1000) := by
      by_cases h : n + 1 ≤ 1000
      · rw [decide_eq_true h, decide_eq_true (by omega)]
      · rw [decide_eq_false h, decide_eq_false (by omega)]
    rw [← e]; rfl
  · exact (Fr.refl (· = cb) w).setCell (p := ⟨cb, 0, none⟩) (.inl rfl) _
  · simp [World.setCell, Array.getElem?_modify, HC.out]
end Go.Proofs.YtdgmengfdfkgaabDoor

/- 'each' and 'Few', walked. -/
namespace Go.Proofs.YtdgmengfdfkgaabDoor
open Go.RowKit Go.Maps Go.WideMaps

/-- What 'each' does at values of k levels, with the counter in block cb. -/
def EachC (k : Nat) : Prop := ∀ (w : World) (cs : List Value) (v : Pu.V) (cb n : Nat), RV k (· ≠ cb) w cs v → w.heap[cb]? = some (.cells #[.int .i64 n] 3 (0, 0)) → n ≤ 1001 →
  Calls Tryd.prog 47 #[.agg cs.toArray, .func (.func 48) #[] #[.pointer (some ⟨cb, 0, none⟩)]] w fun e w' => e = .returned (.bool (decide (n + v.nodes ≤ 1000))) ∧ Fr (· = cb) w w' ∧
    ∃ n' : Nat, w'.heap[cb]? = some (.cells #[.int .i64 n'] 3 (0, 0)) ∧ n' ≤ 1002 ∧ (n + v.nodes ≤ 1000 → n' = n + v.nodes)

theorem stays_cb {cb : Nat} {w w' : World} (hf : Fr (· = cb) w w') : Stays (· ≠ cb) (· ≠ cb) w w' := stays_fr hf (fun _ hg _ e => hg e) (fun _ h => h)
theorem sum_take_succ (l : List Pu.V) (i : Nat) (h : i < l.length) : ((l.take (i + 1)).map Pu.V.nodes).sum = ((l.take i).map Pu.V.nodes).sum + l[i].nodes := by
  rw [List.take_succ_eq_append_getElem h, List.map_append, List.sum_append]; simp only [List.map_cons, List.map_nil, List.sum_cons, List.sum_nil, Nat.add_zero]
theorem sum_take_le (l : List Pu.V) (i : Nat) : ((l.take i).map Pu.V.nodes).sum ≤ (l.map Pu.V.nodes).sum := by
  have h : (l.map Pu.V.nodes).sum = ((l.take i).map Pu.V.nodes).sum + ((l.drop i).map Pu.V.nodes).sum := by rw [← List.sum_append, ← List.map_append, List.take_append_drop]
  omega

set_option maxHeartbeats 4000000 in
theorem each_node (k : Nat) (hE : EachC k) : EachC (k + 1) := by
  intro w cs v cb n hv hc hn
  obtain ⟨kv, xs, rfl, hkl, hr, he⟩ := hv
  obtain ⟨a1, d1, rfl, hd1, hd1'⟩ := hr.form
  unfold maxLen at hd1'
  have hnod := nodes_eq v
  obtain ⟨c1, n1, l⟩ := v
  simp only at *
  have HR := hide hr
  have HEE := hide he
  have HE := hide hE
  have HNOD := hide hnod
  have hcl := lt_of_heap hc
  show Calls Tryd.prog 47 #[.agg #[.bool c1, .int .i64 n1, .slice a1 l.length d1], .func (.func 48) #[] #[.pointer (some ⟨cb, 0, none⟩)]] w _
  have F0 : Fr (· = cb) w (w.alloc (.cells #[.bool c1, .int .i64 n1, .slice a1 l.length d1] 29)) := (Fr.refl _ w).alloc _
  have g0 := heap_alloc_new w (.cells #[.bool c1, .int .i64 n1, .slice a1 l.length d1] 29)
  have hc0 : (w.alloc (.cells #[.bool c1, .int .i64 n1, .slice a1 l.length d1] 29)).heap[cb]? = some (.cells #[.int .i64 n] 3 (0, 0)) := fr_heap hc ((Fr.refl No w).alloc _) (fun e => e)
  have CM := few1_any cb n _ hc0 (by omega)
  have HF0 := hide F0
  have G0 := hide g0
  have HCM := hide CM
  clear hr he hE hnod hc hc0 F0 g0 CM
  go_enter Tryd.func47, Tryd.ntmps47
  go_wp2_with fail
  refine HCM.out.mono ?_
  rintro e w1 ⟨rfl, hf1, hc1⟩
  have g1 := fr_heap G0.out hf1 (fun e : w.heap.size = cb => by omega)
  have c1' := cell_of_heap g1
  have F1 := hide (HF0.out.trans hf1)
  have G1 := hide g1
  have HC1 := hide hc1
  clear hf1 hc1 g1 HCM
  by_cases hm : n + 1 ≤ 1000
  rotate_left
  · rw [decide_eq_false hm]
    go_wp2_with fail
    go_ret
    have hx : ¬ n + (⟨c1, n1, l⟩ : Pu.V).nodes ≤ 1000 := by rw [HNOD.out]; omega
    rw [decide_eq_false hx]
    exact ⟨rfl, F1.out, n + 1, HC1.out, by omega, fun h => absurd h hx⟩
  rw [decide_eq_true hm]
  go_wp2_with fail
  clear c1'
  go_loopw [13] (fun q wr => ∃ i : Nat, i ≤ l.length ∧ q = .int .i64 i ∧ Fr (· = cb) w wr ∧ n + 1 + ((l.take i).map Pu.V.nodes).sum ≤ 1000 ∧ wr.heap[cb]? = some (.cells #[.int .i64 ((n + 1 + ((l.take i).map Pu.V.nodes).sum : Nat) : Int)] 3 (0, 0))) (fun q _ => l.length - (intOf q).toNat)
  case atStart => exact ⟨0, Nat.zero_le _, rfl, F1.out, by simpa using hm, by simpa using HC1.out⟩
  case round =>
    clear F1 G1 HC1
    obtain ⟨i, hi, rfl, hf, hle, hcw⟩ := hrel
    by_cases hlt : i < l.length
    · obtain ⟨g, o, cap, b1, m1, e1, hav, _, _, _, hgw, hm1, hrt, q0, q1, q2⟩ := kids_at (HR.out.kept (stays_cb hf)) (HEE.out.mono fun _ _ h => h.kept (stays_cb hf)) i hlt
      injection hav with hav1 _ hav2
      subst hav1 hav2
      have hst := sum_take_succ l i hlt
      have hsl := sum_take_le l (i + 1)
      obtain ⟨x, hx⟩ : ∃ x, x = l[i] := ⟨_, rfl⟩
      rw [← hx] at hrt q0 q1 hm1 hst
      obtain ⟨s, hs⟩ : ∃ s, s = ((l.take i).map Pu.V.nodes).sum := ⟨_, rfl⟩
      rw [← hs] at hle hcw hst
      have hcwl := lt_of_heap hcw
      have AS : Hid (∀ o, Calls Tryd.prog 47 #[.agg #[.bool x.con, .int .i64 x.n, .slice b1 m1 e1], .func (.func 48) #[] #[.pointer (some ⟨cb, 0, none⟩)]] (wr.alloc o) fun e w' => e = .returned (.bool (decide (n + 1 + s + x.nodes ≤ 1000))) ∧ Fr (· = cb) (wr.alloc o) w' ∧
          ∃ n' : Nat, w'.heap[cb]? = some (.cells #[.int .i64 n'] 3 (0, 0)) ∧ n' ≤ 1002 ∧ (n + 1 + s + x.nodes ≤ 1000 → n' = n + 1 + s + x.nodes)) := fun o => by
        have fa : Fr (· = cb) wr (wr.alloc o) := (Fr.refl _ wr).alloc o
        exact HE.out _ _ x cb (n + 1 + s) (hrt.kept (stays_cb fa)) (fr_heap hcw ((Fr.refl No wr).alloc o) (fun e => e)) (by omega)
      have HF := hide hf
      have HST := hide hst
      have HSL := hide hsl
      clear hrt hf hx hm1 hcw hst hsl hs
      have i1 : (i : Int) < (l.length : Int) := by omega
      have i0 : (0 : Int) ≤ (i : Int) := by omega
      go_wp2_with fail
      refine (AS.out _).mono ?_
      rintro e w5 ⟨rfl, hf5, n', hc5, hn5, heq5⟩
      have F5 := hide ((HF.out.alloc _).trans hf5)
      have HC5 := hide hc5
      have HEQ5 := hide heq5
      clear hf5 hc5 heq5 AS q0 q1 q2
      by_cases hb : n + 1 + s + x.nodes ≤ 1000
      · rw [decide_eq_true hb]
        have HB := hide hb
        go_wp2_with fail
        go_roundw
        case rel =>
          refine ⟨i + 1, by omega, by go_num, F5.out, ?_, ?_⟩
          · rw [HST.out]; have := HB.out; omega
          · have e := HEQ5.out HB.out
            rw [HC5.out, e, HST.out, Nat.add_assoc (n + 1) s x.nodes]
        case measure => simp [intOf]; omega
      · rw [decide_eq_false hb]
        have HB := hide hb
        clear hb
        go_wp2_with fail
        go_ret
        have hx : ¬ n + (⟨c1, n1, l⟩ : Pu.V).nodes ≤ 1000 := by rw [HNOD.out]; have := HB.out; have := HST.out; have := HSL.out; omega
        rw [decide_eq_false hx]
        exact ⟨rfl, F5.out, n', HC5.out, hn5, fun h => absurd h hx⟩
    · have hil : i = l.length := by omega
      subst hil
      rw [List.take_length] at hle hcw
      have hy : (⟨c1, n1, l⟩ : Pu.V).nodes = 1 + (l.map Pu.V.nodes).sum := HNOD.out
      have HY := hide hy
      have HF := hide hf
      have HCW := hide hcw
      have HLE := hide hle
      clear hf hcw hle hy
      go_wp2_with fail
      go_ret
      have := HLE.out
      rw [HY.out, decide_eq_true (by omega)]
      exact ⟨rfl, HF.out, _, HCW.out, by omega, fun _ => by omega⟩

theorem each_all : ∀ k, EachC k
  | 0 => fun _ _ _ _ _ h => h.elim
  | k + 1 => each_node k (each_all k)

set_option maxHeartbeats 1000000 in
theorem few_any (k : Nat) (w : World) (cs : List Value) (v : Pu.V) (hv : RV k Any w cs v) :
    Calls Tryd.prog 24 #[.agg cs.toArray] w fun e w' => e = .returned (.bool (decide (v.nodes ≤ 1000))) ∧ Fr No w w' := by
  obtain ⟨a, c, rfl⟩ := hv.form
  have hlt : ∀ o1 o2, Stays Any (· ≠ w.heap.size + 1) w ((w.alloc o1).alloc o2) := by
    intro o1 o2
    have hf : Fr No w ((w.alloc o1).alloc o2) := ((Fr.refl No w).alloc o1).alloc o2
    exact ⟨hf.size, fun g _ hg => ⟨by show g ≠ w.heap.size + 1; omega, hf.block g hg (fun e => e)⟩⟩
  have hvk : ∀ o1 o2, RV k (· ≠ w.heap.size + 1) ((w.alloc o1).alloc o2) [.bool v.con, .int .i64 v.n, .slice a v.kids.length c] v := fun o1 o2 => hv.kept (hlt o1 o2)
  have g1 := heap_alloc_new (w.alloc (.cells #[.bool v.con, .int .i64 v.n, .slice a v.kids.length c] 29)) (.cells #[.int .i64 0] 3)
  rw [World.size_alloc] at g1
  have CE := each_all k _ _ v (w.heap.size + 1) 0 (hvk (.cells #[.bool v.con, .int .i64 v.n, .slice a v.kids.length c] 29) (.cells #[.int .i64 0] 3)) g1 (by omega)
  have F0 := hide (((Fr.refl No w).alloc (.cells #[.bool v.con, .int .i64 v.n, .slice a v.kids.length c] 29)).alloc (.cells #[.int .i64 0] 3))
  have HCE := hide CE
  have hmf : ∀ (fn : Fn) (first cap : Array Value) (w : World), (Instr.makeFunc fn first cap).run Tryd.prog w = .ok (.func fn first cap) w := fun _ _ _ _ => rfl
  clear CE hvk hlt hv g1
  show Calls Tryd.prog 24 #[.agg #[.bool v.con, .int .i64 v.n, .slice a v.kids.length c]] w _
  go_enter Tryd.func24, Tryd.ntmps24
  go_wp2_with fail
  refine HCE.out.mono ?_
  rintro e w1 ⟨rfl, hf1, _⟩
  have F1 := hide (F0.out.trans' hf1 (fun i hi (e : i = w.heap.size + 1) => by omega))
  clear hf1
  rw [Nat.zero_add]
  go_wp2_with fail
  go_ret
  exact ⟨rfl, F1.out⟩
end Go.Proofs.YtdgmengfdfkgaabDoor
