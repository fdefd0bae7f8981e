/- 'Same': terms. -/
import Derived.Test.YtmjpfiecgkoaeaaS1
namespace Go.Proofs.Ytmjpfiecgkoaeaa
open Go.RowKit Go.Maps Go.WideMaps

/-- What 'Same' answers at terms of k levels. -/
def SameC (k : Nat) : Prop := ∀ (B1 B2 : Nat) (w : World) (cs1 cs2 : List Value) (a b : Pu.TT k), RT k B1 w cs1 a → RT k B2 w cs2 b → B1 ≤ w.heap.size → B2 ≤ w.heap.size →
  Calls Try.prog 10 #[.agg cs1.toArray, .agg cs2.toArray] w fun e w' => e = .returned (.bool (Pu.same k a b)) ∧ Fr No w w'

theorem RT.fr {k B : Nat} {w w' : World} {cs : List Value} {t : Pu.TT k} (h : RT k B w cs t) (hB : B ≤ w.heap.size) (hf : Fr No w w') : RT k B w' cs t := h.old (hf.old hB (fun _ _ e => e)) hf.size

set_option maxHeartbeats 2000000 in
theorem equalTerms_any (k : Nat) (hS : SameC k) (B1 B2 : Nat) (v1 v2 : Value) (xs1 xs2 : List Value) (l1 l2 : List (Pu.TT k)) (w : World) (hr1 : Row B1 w v1 l1.length xs1) (he1 : Each 7 (RT k B1 w) xs1 l1) (hr2 : Row B2 w v2 l2.length xs2) (he2 : Each 7 (RT k B2 w) xs2 l2) (hB1 : B1 ≤ w.heap.size) (hB2 : B2 ≤ w.heap.size) :
    Calls Try.prog 30 #[v1, v2, .func (.func 10) #[] #[]] w fun e w' => e = .returned (.bool (Pu.sameList (Pu.same k) l1 l2)) ∧ Fr No w w' := by
  obtain ⟨a1, c1, rfl, hc1, hc1'⟩ := hr1.form
  obtain ⟨a2, c2, rfl, hc2, hc2'⟩ := hr2.form
  unfold maxLen at hc1' hc2'
  have R1 := hide hr1
  have E1 := hide he1
  have R2 := hide hr2
  have E2 := hide he2
  have HS := hide hS
  clear hr1 he1 hr2 he2 hS
  by_cases hl : l1.length = l2.length
  · rw [← hl]
    have HL := hide hl
    have hc2'' : l1.length ≤ c2 := by omega
    clear hl hc2
    go_enter Try.func30, Try.ntmps30
    go_wp2_with fail
    go_loopw [17] (fun q wr => ∃ i : Nat, i ≤ l1.length ∧ q = .int .i64 i ∧ Fr No w wr ∧ ∀ j (h1 : j < l1.length) (h2 : j < l2.length), j < i → (Pu.same k) l1[j] l2[j] = true) (fun q _ => l1.length - (intOf q).toNat)
    case atStart => exact ⟨0, Nat.zero_le _, rfl, Fr.refl _ _, fun j _ _ hj => absurd hj (by omega)⟩
    case round =>
      obtain ⟨i, hi, rfl, hf, hall⟩ := hrel
      have HA := hide hall
      clear hall
      have hszw := hf.size
      by_cases hlt : i < l1.length
      · have hlt2 : i < l2.length := by have := HL.out; omega
        have ho1 : Old B1 w wr := hf.old hB1 (fun _ _ e => e)
        have ho2 : Old B2 w wr := hf.old hB2 (fun _ _ e => e)
        obtain ⟨g, o, cap, kd, n, x, y, b0, n0, e0, b1, n1, e1, b2, n2, e2, hav, _, hg, hgw, hrt, hcell⟩ := args_at R1.out E1.out i hlt
        injection hav with hav1 _ hav2
        subst hav1 hav2
        obtain ⟨g', o', cap', kd', n', x', y', b0', n0', e0', b1', n1', e1', b2', n2', e2', hav', _, hg', hgw', hrt', hcell'⟩ := args_at R2.out E2.out i hlt2
        injection hav' with hav1 _ hav2
        subst hav1 hav2
        have hq : ∀ j, j < 7 → wr.cell? ⟨g, o + i * 7 + j, none⟩ = [Value.int .i64 kd, .int .i64 n, .string x, .string y, .slice b0 n0 e0, .slice b1 n1 e1, .slice b2 n2 e2][j]? := fun j hj => by
          rw [ho1.cell (a := ⟨g, o + i * 7 + j, none⟩) hg]; exact hcell j hj
        have hp : ∀ j, j < 7 → wr.cell? ⟨g', o' + i * 7 + j, none⟩ = [Value.int .i64 kd', .int .i64 n', .string x', .string y', .slice b0' n0' e0', .slice b1' n1' e1', .slice b2' n2' e2'][j]? := fun j hj => by
          rw [ho2.cell (a := ⟨g', o' + i * 7 + j, none⟩) hg']; exact hcell' j hj
        have q0 : wr.cell? ⟨g, o + i * 7, none⟩ = [Value.int .i64 kd, .int .i64 n, .string x, .string y, .slice b0 n0 e0, .slice b1 n1 e1, .slice b2 n2 e2][0]? := hq 0 (by omega)
        have q1 := hq 1 (by omega)
        have q2 := hq 2 (by omega)
        have q3 := hq 3 (by omega)
        have q4 := hq 4 (by omega)
        have q5 := hq 5 (by omega)
        have q6 := hq 6 (by omega)
        have p0 : wr.cell? ⟨g', o' + i * 7, none⟩ = [Value.int .i64 kd', .int .i64 n', .string x', .string y', .slice b0' n0' e0', .slice b1' n1' e1', .slice b2' n2' e2'][0]? := hp 0 (by omega)
        have p1 := hp 1 (by omega)
        have p2 := hp 2 (by omega)
        have p3 := hp 3 (by omega)
        have p4 := hp 4 (by omega)
        have p5 := hp 5 (by omega)
        have p6 := hp 6 (by omega)
        have hgl : g < wr.heap.size := by omega
        have hgl' : g' < wr.heap.size := by omega
        have CALL : Hid (∀ W, Fr No wr W → Calls Try.prog 10 #[.agg #[.int .i64 kd, .int .i64 n, .string x, .string y, .slice b0 n0 e0, .slice b1 n1 e1, .slice b2 n2 e2], .agg #[.int .i64 kd', .int .i64 n', .string x', .string y', .slice b0' n0' e0', .slice b1' n1' e1', .slice b2' n2' e2']] W fun e w' => e = .returned (.bool (Pu.same k l1[i] l2[i])) ∧ Fr No W w') := fun W hW =>
          HS.out B1 B2 W _ _ l1[i] l2[i] ((hrt.fr hB1 hf).fr (by omega) hW) ((hrt'.fr hB2 hf).fr (by omega) hW) (by have := hW.size; omega) (by have := hW.size; omega)
        clear hrt hrt'
        have HF := hide hf
        clear hq hp hcell hcell' hf ho1 ho2
        have i1 : (i : Int) < (l1.length : Int) := by omega
        have i0 : (0 : Int) ≤ (i : Int) := by omega
        go_wp2_with fail
        refine (CALL.out _ (((Fr.refl No wr).alloc _).alloc _)).mono ?_
        obtain ⟨sb, hsb⟩ : ∃ sb, (Pu.same k) l1[i] l2[i] = sb := ⟨_, rfl⟩
        rw [hsb]
        have HSB := hide hsb
        clear hsb
        rintro e w1 ⟨rfl, hf1⟩
        have HF1 := hide ((HF.out.alloc _).alloc _ |>.trans hf1)
        clear hf1 CALL
        cases sb with
        | true =>
          go_wp2_with fail
          go_roundw
          case rel =>
            refine ⟨i + 1, by omega, by go_num, HF1.out, fun j h1 h2 hj => ?_⟩
            by_cases hji : j = i
            · subst hji; exact HSB.out
            · exact HA.out j h1 h2 (by omega)
          case measure => simp [intOf]; omega
        | false =>
          go_wp2_with fail
          go_ret
          rw [Pu.sameList_not _ _ _ i hlt hlt2 HSB.out]
          exact ⟨rfl, HF1.out⟩
      · have hil : i = l1.length := by omega
        subst hil
        have HF := hide hf
        clear hf
        go_wp2_with fail
        go_ret
        rw [Pu.sameList_all _ _ _ HL.out (fun j h1 h2 => HA.out j h1 h2 h1)]
        exact ⟨rfl, HF.out⟩
  · have hl' : ((l1.length : Int) != (l2.length : Int)) = true := by simp; omega
    go_enter Try.func30, Try.ntmps30
    go_wp2_with fail
    go_ret
    rw [Pu.sameList_ne _ _ _ hl]
    exact ⟨rfl, Fr.refl No w⟩

set_option maxHeartbeats 2000000 in
theorem sameCase_any (k : Nat) (hS : SameC k) (B1 B2 : Nat) (w : World) (c d : Int × List ByteArray × Pu.TT k) (ag : Option Addr) (an ac : Nat) (ag' : Option Addr) (an' ac' : Nat) (kd n : Int) (x y : ByteArray) (b0 b1 b2 : Option Addr) (n0 e0 n1 e1 n2 e2 : Nat) (kd' n' : Int) (x' y' : ByteArray) (b0' b1' b2' : Option Addr) (n0' e0' n1' e1' n2' e2' : Nat)
    (hn1 : Names B1 w (.slice ag an ac) c.2.1) (hn2 : Names B2 w (.slice ag' an' ac') d.2.1) (hr1 : RT k B1 w [.int .i64 kd, .int .i64 n, .string x, .string y, .slice b0 n0 e0, .slice b1 n1 e1, .slice b2 n2 e2] c.2.2) (hr2 : RT k B2 w [.int .i64 kd', .int .i64 n', .string x', .string y', .slice b0' n0' e0', .slice b1' n1' e1', .slice b2' n2' e2'] d.2.2) (hB1 : B1 ≤ w.heap.size) (hB2 : B2 ≤ w.heap.size) :
    Calls Try.prog 32 #[.agg #[.int .i64 c.1, .slice ag an ac, .int .i64 kd, .int .i64 n, .string x, .string y, .slice b0 n0 e0, .slice b1 n1 e1, .slice b2 n2 e2], .agg #[.int .i64 d.1, .slice ag' an' ac', .int .i64 kd', .int .i64 n', .string x', .string y', .slice b0' n0' e0', .slice b1' n1' e1', .slice b2' n2' e2']] w fun e w' => e = .returned (.bool (Pu.sameCase (Pu.same k) c d)) ∧ Fr No w w' := by
  have CE : Hid (∀ W, Fr No w W → Calls Try.prog 29 #[.slice ag an ac, .slice ag' an' ac'] W fun e w' => e = .returned (.bool (decide (c.2.1 = d.2.1))) ∧ Fr No W w') := fun W hW => equal_any B1 B2 _ _ _ _ W (hn1.fr hW) (hn2.fr hW)
  have CS : Hid (∀ W, Fr No w W → Calls Try.prog 10 #[.agg #[.int .i64 kd, .int .i64 n, .string x, .string y, .slice b0 n0 e0, .slice b1 n1 e1, .slice b2 n2 e2], .agg #[.int .i64 kd', .int .i64 n', .string x', .string y', .slice b0' n0' e0', .slice b1' n1' e1', .slice b2' n2' e2']] W fun e w' => e = .returned (.bool (Pu.same k c.2.2 d.2.2)) ∧ Fr No W w') := fun W hW =>
    hS B1 B2 W _ _ _ _ (hr1.fr hB1 hW) (hr2.fr hB2 hW) (Nat.le_trans hB1 hW.size) (Nat.le_trans hB2 hW.size)
  have FW : Hid (∀ o1 o2, Fr No w ((w.alloc o1).alloc o2)) := fun o1 o2 => ((Fr.refl No w).alloc o1).alloc o2
  have hdef : Pu.sameCase (Pu.same k) c d = (decide (c.1 = d.1) && decide (c.2.1 = d.2.1) && Pu.same k c.2.2 d.2.2) := rfl
  have HDEF := hide hdef
  clear hn1 hn2 hr1 hr2 hS hdef
  by_cases ht : c.1 = d.1
  · rw [← ht]
    have HT := hide ht
    clear ht
    go_enter Try.func32, Try.ntmps32
    go_wp2_with fail
    refine (CE.out _ (FW.out _ _)).mono ?_
    obtain ⟨eb, heb⟩ : ∃ eb, decide (c.2.1 = d.2.1) = eb := ⟨_, rfl⟩
    rw [heb]
    have HEB := hide heb
    clear heb
    rintro e w1 ⟨rfl, hf1⟩
    have F1 := hide ((FW.out _ _).trans hf1)
    have g0 := fr_heap (fr_heap (heap_alloc_new w _) ((Fr.refl No _).alloc _) (fun e => e)) hf1 (fun e => e)
    have g1 := heap_alloc_new (w.alloc (.cells #[.int .i64 c.1, .slice ag an ac, .int .i64 kd, .int .i64 n, .string x, .string y, .slice b0 n0 e0, .slice b1 n1 e1, .slice b2 n2 e2] 48)) (.cells #[.int .i64 c.1, .slice ag' an' ac', .int .i64 kd', .int .i64 n', .string x', .string y', .slice b0' n0' e0', .slice b1' n1' e1', .slice b2' n2' e2'] 48)
    rw [World.size_alloc] at g1
    have g1' := fr_heap g1 hf1 (fun e => e)
    have b0 := cell_of_heap g0
    have b1 := cell_of_heap g1'
    clear hf1 g0 g1 g1'
    cases eb with
    | false =>
      go_wp2_with fail
      go_ret
      rw [HDEF.out, HEB.out]
      exact ⟨by simp, F1.out⟩
    | true =>
      go_wp2_with fail
      refine (CS.out _ F1.out).mono ?_
      rintro e w2 ⟨rfl, hf2⟩
      have F2 := hide (F1.out.trans hf2)
      clear hf2
      go_wp2_with fail
      go_ret
      rw [HDEF.out, HEB.out, decide_eq_true HT.out]
      exact ⟨by simp, F2.out⟩
  · go_enter Try.func32, Try.ntmps32
    go_wp2_with fail
    go_ret
    rw [HDEF.out, decide_eq_false ht]
    exact ⟨by simp, FW.out _ _⟩

set_option maxHeartbeats 2000000 in
theorem equalCases_any (k : Nat) (hS : SameC k) (B1 B2 : Nat) (v1 v2 : Value) (xs1 xs2 : List Value) (l1 l2 : List (Int × List ByteArray × Pu.TT k)) (w : World) (hr1 : Row B1 w v1 l1.length xs1) (he1 : Each 9 (RC (RT k B1 w) B1 w) xs1 l1) (hr2 : Row B2 w v2 l2.length xs2) (he2 : Each 9 (RC (RT k B2 w) B2 w) xs2 l2) (hB1 : B1 ≤ w.heap.size) (hB2 : B2 ≤ w.heap.size) :
    Calls Try.prog 31 #[v1, v2, .func (.func 32) #[] #[]] w fun e w' => e = .returned (.bool (Pu.sameList (Pu.sameCase (Pu.same k)) l1 l2)) ∧ Fr No w w' := by
  obtain ⟨a1, c1, rfl, hc1, hc1'⟩ := hr1.form
  obtain ⟨a2, c2, rfl, hc2, hc2'⟩ := hr2.form
  unfold maxLen at hc1' hc2'
  have R1 := hide hr1
  have E1 := hide he1
  have R2 := hide hr2
  have E2 := hide he2
  have HS := hide hS
  clear hr1 he1 hr2 he2 hS
  by_cases hl : l1.length = l2.length
  · rw [← hl]
    have HL := hide hl
    have hc2'' : l1.length ≤ c2 := by omega
    clear hl hc2
    go_enter Try.func31, Try.ntmps31
    go_wp2_with fail
    go_loopw [17] (fun q wr => ∃ i : Nat, i ≤ l1.length ∧ q = .int .i64 i ∧ Fr No w wr ∧ ∀ j (h1 : j < l1.length) (h2 : j < l2.length), j < i → (Pu.sameCase (Pu.same k)) l1[j] l2[j] = true) (fun q _ => l1.length - (intOf q).toNat)
    case atStart => exact ⟨0, Nat.zero_le _, rfl, Fr.refl _ _, fun j _ _ hj => absurd hj (by omega)⟩
    case round =>
      obtain ⟨i, hi, rfl, hf, hall⟩ := hrel
      have HA := hide hall
      clear hall
      have hszw := hf.size
      by_cases hlt : i < l1.length
      · have hlt2 : i < l2.length := by have := HL.out; omega
        have ho1 : Old B1 w wr := hf.old hB1 (fun _ _ e => e)
        have ho2 : Old B2 w wr := hf.old hB2 (fun _ _ e => e)
        obtain ⟨g, o, cap, ag, an, ac, kd, n, x, y, b0, n0, e0, b1, n1, e1, b2, n2, e2, hav, _, hg, hgw, hnm, han, hrt, hcell⟩ := cases_at R1.out E1.out i hlt
        injection hav with hav1 _ hav2
        subst hav1 hav2
        obtain ⟨g', o', cap', ag', an', ac', kd', n', x', y', b0', n0', e0', b1', n1', e1', b2', n2', e2', hav', _, hg', hgw', hnm', han', hrt', hcell'⟩ := cases_at R2.out E2.out i hlt2
        injection hav' with hav1 _ hav2
        subst hav1 hav2
        have hq : ∀ j, j < 9 → wr.cell? ⟨g, o + i * 9 + j, none⟩ = [Value.int .i64 l1[i].1, .slice ag an ac, .int .i64 kd, .int .i64 n, .string x, .string y, .slice b0 n0 e0, .slice b1 n1 e1, .slice b2 n2 e2][j]? := fun j hj => by
          rw [ho1.cell (a := ⟨g, o + i * 9 + j, none⟩) hg]; exact hcell j hj
        have hp : ∀ j, j < 9 → wr.cell? ⟨g', o' + i * 9 + j, none⟩ = [Value.int .i64 l2[i].1, .slice ag' an' ac', .int .i64 kd', .int .i64 n', .string x', .string y', .slice b0' n0' e0', .slice b1' n1' e1', .slice b2' n2' e2'][j]? := fun j hj => by
          rw [ho2.cell (a := ⟨g', o' + i * 9 + j, none⟩) hg']; exact hcell' j hj
        have q0 : wr.cell? ⟨g, o + i * 9, none⟩ = [Value.int .i64 l1[i].1, .slice ag an ac, .int .i64 kd, .int .i64 n, .string x, .string y, .slice b0 n0 e0, .slice b1 n1 e1, .slice b2 n2 e2][0]? := hq 0 (by omega)
        have q1 := hq 1 (by omega)
        have q2 := hq 2 (by omega)
        have q3 := hq 3 (by omega)
        have q4 := hq 4 (by omega)
        have q5 := hq 5 (by omega)
        have q6 := hq 6 (by omega)
        have q7 := hq 7 (by omega)
        have q8 := hq 8 (by omega)
        have p0 : wr.cell? ⟨g', o' + i * 9, none⟩ = [Value.int .i64 l2[i].1, .slice ag' an' ac', .int .i64 kd', .int .i64 n', .string x', .string y', .slice b0' n0' e0', .slice b1' n1' e1', .slice b2' n2' e2'][0]? := hp 0 (by omega)
        have p1 := hp 1 (by omega)
        have p2 := hp 2 (by omega)
        have p3 := hp 3 (by omega)
        have p4 := hp 4 (by omega)
        have p5 := hp 5 (by omega)
        have p6 := hp 6 (by omega)
        have p7 := hp 7 (by omega)
        have p8 := hp 8 (by omega)
        have hgl : g < wr.heap.size := by omega
        have hgl' : g' < wr.heap.size := by omega
        have CALL : Hid (∀ W, Fr No wr W → Calls Try.prog 32 #[.agg #[.int .i64 l1[i].1, .slice ag an ac, .int .i64 kd, .int .i64 n, .string x, .string y, .slice b0 n0 e0, .slice b1 n1 e1, .slice b2 n2 e2], .agg #[.int .i64 l2[i].1, .slice ag' an' ac', .int .i64 kd', .int .i64 n', .string x', .string y', .slice b0' n0' e0', .slice b1' n1' e1', .slice b2' n2' e2']] W fun e w' => e = .returned (.bool (Pu.sameCase (Pu.same k) l1[i] l2[i])) ∧ Fr No W w') := fun W hW =>
          sameCase_any k HS.out B1 B2 W l1[i] l2[i] ag an ac ag' an' ac' kd n x y b0 b1 b2 n0 e0 n1 e1 n2 e2 kd' n' x' y' b0' b1' b2' n0' e0' n1' e1' n2' e2' ((hnm.fr hf).fr hW) ((hnm'.fr hf).fr hW) ((hrt.fr hB1 hf).fr (by omega) hW) ((hrt'.fr hB2 hf).fr (by omega) hW) (by have := hW.size; omega) (by have := hW.size; omega)
        clear hrt hrt' hnm hnm' han han'
        have HF := hide hf
        clear hq hp hcell hcell' hf ho1 ho2
        have i1 : (i : Int) < (l1.length : Int) := by omega
        have i0 : (0 : Int) ≤ (i : Int) := by omega
        go_wp2_with fail
        refine (CALL.out _ (((Fr.refl No wr).alloc _).alloc _)).mono ?_
        obtain ⟨sb, hsb⟩ : ∃ sb, (Pu.sameCase (Pu.same k)) l1[i] l2[i] = sb := ⟨_, rfl⟩
        rw [hsb]
        have HSB := hide hsb
        clear hsb
        rintro e w1 ⟨rfl, hf1⟩
        have HF1 := hide ((HF.out.alloc _).alloc _ |>.trans hf1)
        clear hf1 CALL
        cases sb with
        | true =>
          go_wp2_with fail
          go_roundw
          case rel =>
            refine ⟨i + 1, by omega, by go_num, HF1.out, fun j h1 h2 hj => ?_⟩
            by_cases hji : j = i
            · subst hji; exact HSB.out
            · exact HA.out j h1 h2 (by omega)
          case measure => simp [intOf]; omega
        | false =>
          go_wp2_with fail
          go_ret
          rw [Pu.sameList_not _ _ _ i hlt hlt2 HSB.out]
          exact ⟨rfl, HF1.out⟩
      · have hil : i = l1.length := by omega
        subst hil
        have HF := hide hf
        clear hf
        go_wp2_with fail
        go_ret
        rw [Pu.sameList_all _ _ _ HL.out (fun j h1 h2 => HA.out j h1 h2 h1)]
        exact ⟨rfl, HF.out⟩
  · have hl' : ((l1.length : Int) != (l2.length : Int)) = true := by simp; omega
    go_enter Try.func31, Try.ntmps31
    go_wp2_with fail
    go_ret
    rw [Pu.sameList_ne _ _ _ hl]
    exact ⟨rfl, Fr.refl No w⟩
end Go.Proofs.Ytmjpfiecgkoaeaa
