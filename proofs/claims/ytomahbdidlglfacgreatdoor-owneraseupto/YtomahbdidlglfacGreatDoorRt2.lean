/- The document's 'Same', walked. -/
import Derived.Test.YtomahbdidlglfacGreatDoorPl1Ea1TqRt1S2
namespace Go.Proofs.YtomahbdidlglfacGreatDoor
open Go.RowKit Go.Maps Go.WideMaps

/-- What 'Same' answers at terms of k levels. -/
def RSameC (k : Nat) : Prop := ∀ (B1 B2 : Nat) (w : World) (cs1 cs2 : List Value) (a b : Pu.TT k), RT k B1 w cs1 a → RT k B2 w cs2 b → B1 ≤ w.heap.size → B2 ≤ w.heap.size →
  Calls Tryz.prog 16 #[.agg cs1.toArray, .agg cs2.toArray] w fun e w' => e = .returned (.bool (Pu.same k a b)) ∧ Fr No w w'

set_option maxHeartbeats 8000000 in
theorem rsame_node (k : Nat) (hS : RSameC k) : RSameC (k + 1) := by
  intro B1 B2 w cs1 cs2 s t ht1 ht2 hB1 hB2
  obtain ⟨vv, av, cv, acs, ccs, rfl, _, _, hv1, hr1, he1, hq1, hf1⟩ := ht1
  obtain ⟨vv', av', cv', acs', ccs', rfl, _, _, hv2, hr2, he2, hq2, hf2⟩ := ht2
  obtain ⟨a0, d0, rfl, _⟩ := hv1.1.form
  obtain ⟨a1, d1, rfl, hd1, hd1'⟩ := hr1.form
  obtain ⟨a2, d2, rfl, hd2, hd2'⟩ := hq1.form
  obtain ⟨b0, f0, rfl, _⟩ := hv2.1.form
  obtain ⟨b1, f1, rfl, hf1a, hf1b⟩ := hr2.form
  obtain ⟨b2, f2, rfl, hf2a, hf2b⟩ := hq2.form
  unfold maxLen at hd1' hd2' hf1b hf2b
  have C13 : Hid (∀ W, Fr No w W → Calls Tryz.prog 15 #[.slice a0 s.vars.length d0, .slice b0 t.vars.length f0] W fun e w' => e = .returned (.bool (decide (s.vars = t.vars))) ∧ Fr No W w') := fun W hW => sameNames_any B1 B2 _ _ _ _ W (hv1.fr hW) (hv2.fr hW)
  have hdef : Pu.same (k + 1) s t = (decide (s.kind = t.kind) && decide (s.n = t.n) && decide (s.name = t.name) && decide (s.token = t.token) && decide (s.vars = t.vars) && Pu.sameList (Pu.same k) s.args t.args && Pu.sameList (Pu.sameCase (Pu.same k)) s.cases t.cases) := rfl
  have HDEF := hide hdef
  have HR1 := hide hr1
  have HE1 := hide he1
  have HQ1 := hide hq1
  have HF1 := hide hf1
  have HR2 := hide hr2
  have HE2 := hide he2
  have HQ2 := hide hq2
  have HF2 := hide hf2
  have HS := hide hS
  clear hv1 hr1 he1 hq1 hf1 hv2 hr2 he2 hq2 hf2 hS hdef
  obtain ⟨kd, hkd⟩ : ∃ kd, kd = s.kind := ⟨_, rfl⟩
  obtain ⟨kd', hkd'⟩ : ∃ kd, kd = t.kind := ⟨_, rfl⟩
  obtain ⟨n, hn⟩ : ∃ n, n = s.n := ⟨_, rfl⟩
  obtain ⟨n', hn'⟩ : ∃ n, n = t.n := ⟨_, rfl⟩
  obtain ⟨x, hx⟩ : ∃ x, x = s.name := ⟨_, rfl⟩
  obtain ⟨x', hx'⟩ : ∃ x, x = t.name := ⟨_, rfl⟩
  obtain ⟨y, hy⟩ : ∃ x, x = s.token := ⟨_, rfl⟩
  obtain ⟨y', hy'⟩ : ∃ x, x = t.token := ⟨_, rfl⟩
  show Calls Tryz.prog 16 #[.agg #[.int .i64 s.kind, .int .i64 s.n, .string s.name, .string s.token, .slice a0 s.vars.length d0, .slice a1 s.args.length d1, .slice a2 s.cases.length d2], .agg #[.int .i64 t.kind, .int .i64 t.n, .string t.name, .string t.token, .slice b0 t.vars.length f0, .slice b1 t.args.length f1, .slice b2 t.cases.length f2]] w _
  rw [← hkd, ← hkd', ← hn, ← hn', ← hx, ← hx', ← hy, ← hy']
  rw [← hkd, ← hkd', ← hn, ← hn', ← hx, ← hx', ← hy, ← hy'] at HDEF
  clear hkd hkd' hn hn' hx hx' hy hy'
  have FW : Hid (∀ o1 o2, Fr No w ((w.alloc o1).alloc o2)) := fun o1 o2 => ((Fr.refl No w).alloc o1).alloc o2
  by_cases h1 : kd = kd'
  rotate_left
  · go_enter Tryz.func16, Tryz.ntmps16
    go_wp2_with fail
    go_ret
    rw [HDEF.out, decide_eq_false h1]
    exact ⟨by simp, FW.out _ _⟩
  subst h1
  by_cases h2 : n = n'
  rotate_left
  · go_enter Tryz.func16, Tryz.ntmps16
    go_wp2_with fail
    go_ret
    rw [HDEF.out, decide_eq_false h2]
    exact ⟨by simp, FW.out _ _⟩
  subst h2
  by_cases h3 : x = x'
  rotate_left
  · have h3' := str_ne h3
    go_enter Tryz.func16, Tryz.ntmps16
    go_wp2_with fail
    go_ret
    rw [HDEF.out, decide_eq_false h3]
    exact ⟨by simp, FW.out _ _⟩
  subst h3
  by_cases h4 : y = y'
  rotate_left
  · have h4' := str_ne h4
    go_enter Tryz.func16, Tryz.ntmps16
    go_wp2_with fail
    go_ret
    rw [HDEF.out, decide_eq_false h4]
    exact ⟨by simp, FW.out _ _⟩
  subst h4
  obtain ⟨eb, heb⟩ : ∃ eb, decide (s.vars = t.vars) = eb := ⟨_, rfl⟩
  rw [heb] at C13
  have HEB := hide heb
  clear heb
  have GX : Hid (∀ (o1 o2 : Obj) W, Fr No ((w.alloc o1).alloc o2) W → W.heap[w.heap.size]? = (w.alloc o1).heap[w.heap.size]? ∧ W.heap[w.heap.size + 1]? = ((w.alloc o1).alloc o2).heap[w.heap.size + 1]?) := fun o1 o2 W hW =>
    ⟨by rw [hW.block _ (by simp only [World.size_alloc]; omega) (fun e => e), Below.heap_alloc _ _ _ (by simp)], by rw [hW.block _ (by simp) (fun e => e)]⟩
  by_cases hla : s.args.length = t.args.length
  rotate_left
  · have hla' : ((s.args.length : Int) != (t.args.length : Int)) = true := by simp; omega
    have HLA := hide hla
    clear hla
    go_enter Tryz.func16, Tryz.ntmps16
    go_wp2_with fail
    refine (C13.out _ (FW.out _ _)).mono ?_
    rintro e w1 ⟨rfl, hf1⟩
    have F1 := hide ((FW.out _ _).trans hf1)
    obtain ⟨g0, g1⟩ := GX.out _ _ _ hf1
    rw [heap_alloc_new] at g0
    have g1' := heap_alloc_new (w.alloc (.cells #[.int .i64 kd, .int .i64 n, .string x, .string y, .slice a0 s.vars.length d0, .slice a1 s.args.length d1, .slice a2 s.cases.length d2] 32)) (.cells #[.int .i64 kd, .int .i64 n, .string x, .string y, .slice b0 t.vars.length f0, .slice b1 t.args.length f1, .slice b2 t.cases.length f2] 32)
    rw [World.size_alloc] at g1'
    rw [g1'] at g1
    have c0 := cell_of_heap g0
    have c1 := cell_of_heap g1
    clear hf1 g0 g1 g1'
    cases eb with
    | false =>
      go_wp2_with fail
      go_ret
      rw [HDEF.out, HEB.out]
      exact ⟨by simp, F1.out⟩
    | true =>
      go_wp2_with fail
      go_ret
      rw [HDEF.out, Pu.sameList_ne _ _ _ HLA.out]
      exact ⟨by simp, F1.out⟩
  rw [← hla]
  have HLA := hide hla
  have hf1c : s.args.length ≤ f1 := by omega
  clear hla hf1a
  by_cases hlc : s.cases.length = t.cases.length
  rotate_left
  · have hlc' : ((s.cases.length : Int) != (t.cases.length : Int)) = true := by simp; omega
    have HLC := hide hlc
    clear hlc
    go_enter Tryz.func16, Tryz.ntmps16
    go_wp2_with fail
    refine (C13.out _ (FW.out _ _)).mono ?_
    rintro e w1 ⟨rfl, hf1⟩
    have F1 := hide ((FW.out _ _).trans hf1)
    obtain ⟨g0, g1⟩ := GX.out _ _ _ hf1
    rw [heap_alloc_new] at g0
    have g1' := heap_alloc_new (w.alloc (.cells #[.int .i64 kd, .int .i64 n, .string x, .string y, .slice a0 s.vars.length d0, .slice a1 s.args.length d1, .slice a2 s.cases.length d2] 32)) (.cells #[.int .i64 kd, .int .i64 n, .string x, .string y, .slice b0 t.vars.length f0, .slice b1 s.args.length f1, .slice b2 t.cases.length f2] 32)
    rw [World.size_alloc] at g1'
    rw [g1'] at g1
    have c0 := cell_of_heap g0
    have c1 := cell_of_heap g1
    clear hf1 g0 g1 g1'
    cases eb with
    | false =>
      go_wp2_with fail
      go_ret
      rw [HDEF.out, HEB.out]
      exact ⟨by simp, F1.out⟩
    | true =>
      go_wp2_with fail
      go_ret
      rw [HDEF.out, Pu.sameList_ne _ _ _ HLC.out]
      exact ⟨by simp, F1.out⟩
  rw [← hlc]
  have HLC := hide hlc
  have hf2c : s.cases.length ≤ f2 := by omega
  clear hlc hf2a
  go_enter Tryz.func16, Tryz.ntmps16
  go_wp2_with fail
  refine (C13.out _ (FW.out _ _)).mono ?_
  rintro e w1 ⟨rfl, hf1⟩
  have F1 := hide ((FW.out _ _).trans hf1)
  obtain ⟨g0, g1⟩ := GX.out _ _ _ hf1
  rw [heap_alloc_new] at g0
  have g1' := heap_alloc_new (w.alloc (.cells #[.int .i64 kd, .int .i64 n, .string x, .string y, .slice a0 s.vars.length d0, .slice a1 s.args.length d1, .slice a2 s.cases.length d2] 32)) (.cells #[.int .i64 kd, .int .i64 n, .string x, .string y, .slice b0 t.vars.length f0, .slice b1 s.args.length f1, .slice b2 s.cases.length f2] 32)
  rw [World.size_alloc] at g1'
  rw [g1'] at g1
  have c0 := cell_of_heap g0
  have c1 := cell_of_heap g1
  have G0 := hide g0
  have G1 := hide g1
  clear hf1 g0 g1 g1' GX C13
  cases eb with
  | false =>
    go_wp2_with fail
    go_ret
    rw [HDEF.out, HEB.out]
    exact ⟨by simp, F1.out⟩
  | true =>
  go_wp2_with fail
  clear c0 c1
  go_loopw [64] (fun q wr => ∃ i : Nat, i ≤ s.args.length ∧ q = .int .i64 i ∧ Fr No w wr ∧ wr.heap[w.heap.size]? = some (.cells #[.int .i64 kd, .int .i64 n, .string x, .string y, .slice a0 s.vars.length d0, .slice a1 s.args.length d1, .slice a2 s.cases.length d2] 32 (0, 0)) ∧ wr.heap[w.heap.size + 1]? = some (.cells #[.int .i64 kd, .int .i64 n, .string x, .string y, .slice b0 t.vars.length f0, .slice b1 s.args.length f1, .slice b2 s.cases.length f2] 32 (0, 0)) ∧ ∀ j (h1 : j < s.args.length) (h2 : j < t.args.length), j < i → Pu.same k s.args[j] t.args[j] = true) (fun q _ => s.args.length - (intOf q).toNat)
  case atStart => exact ⟨0, Nat.zero_le _, rfl, F1.out, G0.out, G1.out, fun j _ _ hj => absurd hj (by omega)⟩
  case round =>
    clear F1 G0 G1
    obtain ⟨i, hi, rfl, hf, hx0, hx1, hall⟩ := hrel
    have HA := hide hall
    have HX0 := hide hx0
    have HX1 := hide hx1
    have hszw := hf.size
    have hl0 : w.heap.size < wr.heap.size := lt_of_heap hx0
    have hl1 : w.heap.size + 1 < wr.heap.size := lt_of_heap hx1
    clear hall
    by_cases hlt : i < s.args.length
    · have hlt2 : i < t.args.length := by have := HLA.out; omega
      have ho1 : Old B1 w wr := hf.old hB1 (fun _ _ e => e)
      have ho2 : Old B2 w wr := hf.old hB2 (fun _ _ e => e)
      obtain ⟨g, o, cap, kd1, n1, x1, y1, p0, p1, p2, p3, p4, p5, p6, p7, p8, hav, _, hg, hgw, hrt, hcell⟩ := args_at HR1.out HE1.out i hlt
      injection hav with hav1 _ hav2
      subst hav1 hav2
      obtain ⟨g', o', cap', kd2, n2, x2, y2, r0, r1, r2, r3, r4, r5, r6, r7, r8, hav', _, hg', hgw', hrt', hcell'⟩ := args_at HR2.out HE2.out i hlt2
      injection hav' with hav1 _ hav2
      subst hav1 hav2
      have SA : Hid (∀ w' : World, Fr No wr w' → (w'.cell? ⟨w.heap.size, 5, none⟩ = some (.slice (some ⟨g, o, none⟩) s.args.length d1) ∧ w'.cell? ⟨w.heap.size + 1, 5, none⟩ = some (.slice (some ⟨g', o', none⟩) s.args.length f1) ∧ w'.cell? ⟨g, o + i * 7, none⟩ = some (.int .i64 kd1) ∧ w'.cell? ⟨g, o + i * 7 + 1, none⟩ = some (.int .i64 n1) ∧ w'.cell? ⟨g, o + i * 7 + 2, none⟩ = some (.string x1) ∧ w'.cell? ⟨g, o + i * 7 + 3, none⟩ = some (.string y1) ∧ w'.cell? ⟨g, o + i * 7 + 4, none⟩ = some (.slice p0 p1 p2) ∧ w'.cell? ⟨g, o + i * 7 + 5, none⟩ = some (.slice p3 p4 p5) ∧ w'.cell? ⟨g, o + i * 7 + 6, none⟩ = some (.slice p6 p7 p8) ∧ w'.cell? ⟨g', o' + i * 7, none⟩ = some (.int .i64 kd2) ∧ w'.cell? ⟨g', o' + i * 7 + 1, none⟩ = some (.int .i64 n2) ∧ w'.cell? ⟨g', o' + i * 7 + 2, none⟩ = some (.string x2) ∧ w'.cell? ⟨g', o' + i * 7 + 3, none⟩ = some (.string y2) ∧ w'.cell? ⟨g', o' + i * 7 + 4, none⟩ = some (.slice r0 r1 r2) ∧ w'.cell? ⟨g', o' + i * 7 + 5, none⟩ = some (.slice r3 r4 r5) ∧ w'.cell? ⟨g', o' + i * 7 + 6, none⟩ = some (.slice r6 r7 r8))) := fun w' hw' => by
        have hq : ∀ j, j < 7 → w'.cell? ⟨g, o + i * 7 + j, none⟩ = [Value.int .i64 kd1, .int .i64 n1, .string x1, .string y1, .slice p0 p1 p2, .slice p3 p4 p5, .slice p6 p7 p8][j]? := fun j hj => by
          rw [(ho1.trans (hw'.old (by omega) (fun _ _ e => e))).cell (a := ⟨g, o + i * 7 + j, none⟩) hg]; exact hcell j hj
        have hp : ∀ j, j < 7 → w'.cell? ⟨g', o' + i * 7 + j, none⟩ = [Value.int .i64 kd2, .int .i64 n2, .string x2, .string y2, .slice r0 r1 r2, .slice r3 r4 r5, .slice r6 r7 r8][j]? := fun j hj => by
          rw [(ho2.trans (hw'.old (by omega) (fun _ _ e => e))).cell (a := ⟨g', o' + i * 7 + j, none⟩) hg']; exact hcell' j hj
        exact ⟨cell_of_heap (fr_heap hx0 hw' (fun e => e)) 5, cell_of_heap (fr_heap hx1 hw' (fun e => e)) 5, hq 0 (by omega), hq 1 (by omega), hq 2 (by omega), hq 3 (by omega), hq 4 (by omega), hq 5 (by omega), hq 6 (by omega), hp 0 (by omega), hp 1 (by omega), hp 2 (by omega), hp 3 (by omega), hp 4 (by omega), hp 5 (by omega), hp 6 (by omega)⟩
      obtain ⟨sb, hsb⟩ : ∃ sb, Pu.same k s.args[i] t.args[i] = sb := ⟨_, rfl⟩
      have AS : Hid (∀ W, Fr No wr W → Calls Tryz.prog 16 #[.agg #[.int .i64 kd1, .int .i64 n1, .string x1, .string y1, .slice p0 p1 p2, .slice p3 p4 p5, .slice p6 p7 p8], .agg #[.int .i64 kd2, .int .i64 n2, .string x2, .string y2, .slice r0 r1 r2, .slice r3 r4 r5, .slice r6 r7 r8]] W fun e w' => e = .returned (.bool sb) ∧ Fr No wr w' ∧ (w'.cell? ⟨w.heap.size, 5, none⟩ = some (.slice (some ⟨g, o, none⟩) s.args.length d1) ∧ w'.cell? ⟨w.heap.size + 1, 5, none⟩ = some (.slice (some ⟨g', o', none⟩) s.args.length f1) ∧ w'.cell? ⟨g, o + i * 7, none⟩ = some (.int .i64 kd1) ∧ w'.cell? ⟨g, o + i * 7 + 1, none⟩ = some (.int .i64 n1) ∧ w'.cell? ⟨g, o + i * 7 + 2, none⟩ = some (.string x1) ∧ w'.cell? ⟨g, o + i * 7 + 3, none⟩ = some (.string y1) ∧ w'.cell? ⟨g, o + i * 7 + 4, none⟩ = some (.slice p0 p1 p2) ∧ w'.cell? ⟨g, o + i * 7 + 5, none⟩ = some (.slice p3 p4 p5) ∧ w'.cell? ⟨g, o + i * 7 + 6, none⟩ = some (.slice p6 p7 p8) ∧ w'.cell? ⟨g', o' + i * 7, none⟩ = some (.int .i64 kd2) ∧ w'.cell? ⟨g', o' + i * 7 + 1, none⟩ = some (.int .i64 n2) ∧ w'.cell? ⟨g', o' + i * 7 + 2, none⟩ = some (.string x2) ∧ w'.cell? ⟨g', o' + i * 7 + 3, none⟩ = some (.string y2) ∧ w'.cell? ⟨g', o' + i * 7 + 4, none⟩ = some (.slice r0 r1 r2) ∧ w'.cell? ⟨g', o' + i * 7 + 5, none⟩ = some (.slice r3 r4 r5) ∧ w'.cell? ⟨g', o' + i * 7 + 6, none⟩ = some (.slice r6 r7 r8))) := fun W hW => by
        rw [← hsb]
        refine (HS.out B1 B2 W _ _ s.args[i] t.args[i] ((hrt.fr hB1 hf).fr (by omega) hW) ((hrt'.fr hB2 hf).fr (by omega) hW) (by have := hW.size; omega) (by have := hW.size; omega)).mono ?_
        rintro e w' ⟨he, h1⟩
        exact ⟨he, hW.trans h1, SA.out _ (hW.trans h1)⟩
      have HSB := hide hsb
      have D0 : Fr No wr wr.drew := (Fr.refl No wr).drew
      have HZ := hide (SA.out wr.drew D0)
      have HF := hide hf
      clear hsb hrt hrt' hcell hcell' hf ho1 ho2 hx0 hx1
      have i1 : (i : Int) < (s.args.length : Int) := by omega
      have i0 : (0 : Int) ≤ (i : Int) := by omega
      go_wp2_with fail
      go_region_held3 (fun w' : World => w'.cell? ⟨w.heap.size, 5, none⟩ = some (.slice (some ⟨g, o, none⟩) s.args.length d1) ∧ w'.cell? ⟨w.heap.size + 1, 5, none⟩ = some (.slice (some ⟨g', o', none⟩) s.args.length f1) ∧ w'.cell? ⟨g, o + i * 7, none⟩ = some (.int .i64 kd1) ∧ w'.cell? ⟨g, o + i * 7 + 1, none⟩ = some (.int .i64 n1) ∧ w'.cell? ⟨g, o + i * 7 + 2, none⟩ = some (.string x1) ∧ w'.cell? ⟨g, o + i * 7 + 3, none⟩ = some (.string y1) ∧ w'.cell? ⟨g, o + i * 7 + 4, none⟩ = some (.slice p0 p1 p2) ∧ w'.cell? ⟨g, o + i * 7 + 5, none⟩ = some (.slice p3 p4 p5) ∧ w'.cell? ⟨g, o + i * 7 + 6, none⟩ = some (.slice p6 p7 p8) ∧ w'.cell? ⟨g', o' + i * 7, none⟩ = some (.int .i64 kd2) ∧ w'.cell? ⟨g', o' + i * 7 + 1, none⟩ = some (.int .i64 n2) ∧ w'.cell? ⟨g', o' + i * 7 + 2, none⟩ = some (.string x2) ∧ w'.cell? ⟨g', o' + i * 7 + 3, none⟩ = some (.string y2) ∧ w'.cell? ⟨g', o' + i * 7 + 4, none⟩ = some (.slice r0 r1 r2) ∧ w'.cell? ⟨g', o' + i * 7 + 5, none⟩ = some (.slice r3 r4 r5) ∧ w'.cell? ⟨g', o' + i * 7 + 6, none⟩ = some (.slice r6 r7 r8)) (first | with_reducible assumption | with_reducible exact HZ.out)
        (first
          | (go_at_call 16; refine (AS.out _ ?_).mono ?_; (first | with_reducible assumption | exact D0); rintro e w5 ⟨rfl, hf5, hz5⟩))
      have F5 := hide hf5
      clear hf5 hz5
      cases sb with
      | true =>
        go_wp2_with fail
        go_roundw
        case rel =>
          refine ⟨i + 1, by omega, by go_num, HF.out.trans F5.out, fr_heap HX0.out F5.out (fun e => e), fr_heap HX1.out F5.out (fun e => e), fun j h1 h2 hj => ?_⟩
          by_cases hji : j = i
          · subst hji; exact HSB.out
          · exact HA.out j h1 h2 (by omega)
        case measure => simp [intOf]; omega
      | false =>
        go_wp2_with fail
        go_ret
        rw [HDEF.out, Pu.sameList_not _ _ _ i hlt hlt2 HSB.out]
        exact ⟨by simp, HF.out.trans F5.out⟩
    · have hil : i = s.args.length := by omega
      subst hil
      have hargs := Pu.sameList_all (Pu.same k) s.args t.args HLA.out (fun j h1 h2 => HA.out j h1 h2 h1)
      have HARGS := hide hargs
      have HF := hide hf
      have c0 := cell_of_heap hx0
      clear hargs hf hx0 hx1
      go_wp2_with fail
      clear c0
      go_loopw [83] (fun q wr => ∃ i : Nat, i ≤ s.cases.length ∧ q = .int .i64 i ∧ Fr No w wr ∧ wr.heap[w.heap.size]? = some (.cells #[.int .i64 kd, .int .i64 n, .string x, .string y, .slice a0 s.vars.length d0, .slice a1 s.args.length d1, .slice a2 s.cases.length d2] 32 (0, 0)) ∧ wr.heap[w.heap.size + 1]? = some (.cells #[.int .i64 kd, .int .i64 n, .string x, .string y, .slice b0 t.vars.length f0, .slice b1 s.args.length f1, .slice b2 s.cases.length f2] 32 (0, 0)) ∧ ∀ j (h1 : j < s.cases.length) (h2 : j < t.cases.length), j < i → Pu.sameCase (Pu.same k) s.cases[j] t.cases[j] = true) (fun q _ => s.cases.length - (intOf q).toNat)
      case atStart => exact ⟨0, Nat.zero_le _, rfl, HF.out, HX0.out, HX1.out, fun j _ _ hj => absurd hj (by omega)⟩
      case round =>
        clear HF HX0 HX1 HA
        obtain ⟨i, hi, rfl, hf, hx0, hx1, hall⟩ := hrel
        have HA := hide hall
        have HX0 := hide hx0
        have HX1 := hide hx1
        have HF := hide hf
        have hszw2 := hf.size
        have hl20 : w.heap.size < wr.heap.size := lt_of_heap hx0
        have hl21 : w.heap.size + 1 < wr.heap.size := lt_of_heap hx1
        clear hall
        by_cases hlt : i < s.cases.length
        · have hlt2 : i < t.cases.length := by have := HLC.out; omega
          have ho1 : Old B1 w wr := hf.old hB1 (fun _ _ e => e)
          have ho2 : Old B2 w wr := hf.old hB2 (fun _ _ e => e)
          obtain ⟨g, o, cap, ag, an, ac, kd1, n1, x1, y1, p0, p1, p2, p3, p4, p5, p6, p7, p8, hav, _, hg, hgw, hnm, han, hrt, hcell⟩ := cases_at HQ1.out HF1.out i hlt
          injection hav with hav1 _ hav2
          subst hav1 hav2
          obtain ⟨g', o', cap', ag', an', ac', kd2, n2, x2, y2, r0, r1, r2, r3, r4, r5, r6, r7, r8, hav', _, hg', hgw', hnm', han', hrt', hcell'⟩ := cases_at HQ2.out HF2.out i hlt2
          injection hav' with hav1 _ hav2
          subst hav1 hav2
          have hq : ∀ j, j < 9 → wr.cell? ⟨g, o + i * 9 + j, none⟩ = [Value.int .i64 s.cases[i].1, .slice ag an ac, .int .i64 kd1, .int .i64 n1, .string x1, .string y1, .slice p0 p1 p2, .slice p3 p4 p5, .slice p6 p7 p8][j]? := fun j hj => by
            rw [ho1.cell (a := ⟨g, o + i * 9 + j, none⟩) hg]; exact hcell j hj
          have hp : ∀ j, j < 9 → wr.cell? ⟨g', o' + i * 9 + j, none⟩ = [Value.int .i64 t.cases[i].1, .slice ag' an' ac', .int .i64 kd2, .int .i64 n2, .string x2, .string y2, .slice r0 r1 r2, .slice r3 r4 r5, .slice r6 r7 r8][j]? := fun j hj => by
            rw [ho2.cell (a := ⟨g', o' + i * 9 + j, none⟩) hg']; exact hcell' j hj
          have q0 : wr.cell? ⟨g, o + i * 9, none⟩ = some (.int .i64 s.cases[i].1) := hq 0 (by omega)
          have q1 := hq 1 (by omega)
          have q2 := hq 2 (by omega)
          have q3 := hq 3 (by omega)
          have q4 := hq 4 (by omega)
          have q5 := hq 5 (by omega)
          have q6 := hq 6 (by omega)
          have q7 := hq 7 (by omega)
          have q8 := hq 8 (by omega)
          have p0' : wr.cell? ⟨g', o' + i * 9, none⟩ = some (.int .i64 t.cases[i].1) := hp 0 (by omega)
          have p1' := hp 1 (by omega)
          have p2' := hp 2 (by omega)
          have p3' := hp 3 (by omega)
          have p4' := hp 4 (by omega)
          have p5' := hp 5 (by omega)
          have p6' := hp 6 (by omega)
          have p7' := hp 7 (by omega)
          have p8' := hp 8 (by omega)
          have k1 := cell_of_heap hx1
          have hgl : g < wr.heap.size := by omega
          have hgl' : g' < wr.heap.size := by omega
          have CN : Hid (∀ W, Fr No wr W → Calls Tryz.prog 15 #[.slice ag an ac, .slice ag' an' ac'] W fun e w' => e = .returned (.bool (decide (s.cases[i].2.1 = t.cases[i].2.1))) ∧ Fr No W w') := fun W hW => sameNames_any B1 B2 _ _ _ _ W ((hnm.fr hf).fr hW) ((hnm'.fr hf).fr hW)
          have CS : Hid (∀ W, Fr No wr W → Calls Tryz.prog 16 #[.agg #[.int .i64 kd1, .int .i64 n1, .string x1, .string y1, .slice p0 p1 p2, .slice p3 p4 p5, .slice p6 p7 p8], .agg #[.int .i64 kd2, .int .i64 n2, .string x2, .string y2, .slice r0 r1 r2, .slice r3 r4 r5, .slice r6 r7 r8]] W fun e w' => e = .returned (.bool (Pu.same k s.cases[i].2.2 t.cases[i].2.2)) ∧ Fr No W w') := fun W hW =>
            HS.out B1 B2 W _ _ _ _ ((hrt.fr hB1 hf).fr (by omega) hW) ((hrt'.fr hB2 hf).fr (by omega) hW) (by have := hW.size; omega) (by have := hW.size; omega)
          have hcd : Pu.sameCase (Pu.same k) s.cases[i] t.cases[i] = (decide (s.cases[i].1 = t.cases[i].1) && decide (s.cases[i].2.1 = t.cases[i].2.1) && Pu.same k s.cases[i].2.2 t.cases[i].2.2) := rfl
          obtain ⟨tg, htg⟩ : ∃ tg, tg = s.cases[i].1 := ⟨_, rfl⟩
          obtain ⟨tg', htg'⟩ : ∃ tg, tg = t.cases[i].1 := ⟨_, rfl⟩
          obtain ⟨vb, hvb⟩ : ∃ vb, vb = decide (s.cases[i].2.1 = t.cases[i].2.1) := ⟨_, rfl⟩
          obtain ⟨sb, hsb⟩ : ∃ sb, sb = Pu.same k s.cases[i].2.2 t.cases[i].2.2 := ⟨_, rfl⟩
          rw [← htg] at q0
          rw [← htg'] at p0'
          rw [← htg, ← htg', ← hvb, ← hsb] at hcd
          rw [← hvb] at CN
          rw [← hsb] at CS
          have HCD := hide hcd
          clear hcd htg htg' hvb hsb hq hp hcell hcell' hrt hrt' hnm hnm' han han' hx0 hx1 ho1 ho2 hf
          have i1 : (i : Int) < (s.cases.length : Int) := by omega
          have i0 : (0 : Int) ≤ (i : Int) := by omega
          have FWr : Hid (∀ o1 o2, Fr No wr ((wr.alloc o1).alloc o2)) := fun o1 o2 => ((Fr.refl No wr).alloc o1).alloc o2
          by_cases ht : tg = tg'
          rotate_left
          · go_wp2_with fail
            go_ret
            rw [HDEF.out, Pu.sameList_not _ s.cases t.cases i hlt hlt2 (by rw [HCD.out, decide_eq_false ht]; simp)]
            exact ⟨by simp, HF.out.trans (FWr.out _ _)⟩
          subst ht
          go_wp2_with fail
          refine (CN.out _ (FWr.out _ _)).mono ?_
          rintro e w2 ⟨rfl, hf2⟩
          have F2 := hide ((FWr.out _ _).trans hf2)
          have u0 := fr_heap (fr_heap (heap_alloc_new wr (.cells #[.int .i64 tg, .slice ag an ac, .int .i64 kd1, .int .i64 n1, .string x1, .string y1, .slice p0 p1 p2, .slice p3 p4 p5, .slice p6 p7 p8] 58)) ((Fr.refl No _).alloc (.cells #[.int .i64 tg, .slice ag' an' ac', .int .i64 kd2, .int .i64 n2, .string x2, .string y2, .slice r0 r1 r2, .slice r3 r4 r5, .slice r6 r7 r8] 58)) (fun e => e)) hf2 (fun e => e)
          have u1 := heap_alloc_new (wr.alloc (.cells #[.int .i64 tg, .slice ag an ac, .int .i64 kd1, .int .i64 n1, .string x1, .string y1, .slice p0 p1 p2, .slice p3 p4 p5, .slice p6 p7 p8] 58)) (.cells #[.int .i64 tg, .slice ag' an' ac', .int .i64 kd2, .int .i64 n2, .string x2, .string y2, .slice r0 r1 r2, .slice r3 r4 r5, .slice r6 r7 r8] 58)
          rw [World.size_alloc] at u1
          have u1' := fr_heap u1 hf2 (fun e => e)
          have m0 := cell_of_heap u0
          have m1 := cell_of_heap u1'
          clear hf2 u0 u1 u1' q0 q1 q2 q3 q4 q5 q6 q7 q8 p0' p1' p2' p3' p4' p5' p6' p7' p8' k1
          cases vb with
          | false =>
            go_wp2_with fail
            go_ret
            rw [HDEF.out, Pu.sameList_not _ s.cases t.cases i hlt hlt2 (by rw [HCD.out]; simp)]
            exact ⟨by simp, HF.out.trans F2.out⟩
          | true =>
            go_wp2_with fail
            refine (CS.out _ F2.out).mono ?_
            rintro e w3 ⟨rfl, hf3⟩
            have F3 := hide (F2.out.trans hf3)
            clear hf3 m0 m1
            cases sb with
            | false =>
              go_wp2_with fail
              go_ret
              rw [HDEF.out, Pu.sameList_not _ s.cases t.cases i hlt hlt2 (by rw [HCD.out]; simp)]
              exact ⟨by simp, HF.out.trans F3.out⟩
            | true =>
              go_wp2_with fail
              go_roundw
              case rel =>
                refine ⟨i + 1, by omega, by go_num, HF.out.trans F3.out, fr_heap HX0.out F3.out (fun e => e), fr_heap HX1.out F3.out (fun e => e), fun j h1 h2 hj => ?_⟩
                by_cases hji : j = i
                · subst hji; rw [HCD.out]; simp
                · exact HA.out j h1 h2 (by omega)
              case measure => simp [intOf]; omega
        · have hil : i = s.cases.length := by omega
          subst hil
          have hcs := Pu.sameList_all (Pu.sameCase (Pu.same k)) s.cases t.cases HLC.out (fun j h1 h2 => HA.out j h1 h2 h1)
          have HCS := hide hcs
          clear hcs hf hx0 hx1
          go_wp2_with fail
          go_ret
          rw [HDEF.out, HEB.out, HARGS.out, HCS.out]
          exact ⟨by simp, HF.out⟩

theorem rsame_all : ∀ k, RSameC k
  | 0 => fun _ _ _ _ _ _ _ h => h.elim
  | k + 1 => rsame_node k (rsame_all k)
end Go.Proofs.YtomahbdidlglfacGreatDoor
