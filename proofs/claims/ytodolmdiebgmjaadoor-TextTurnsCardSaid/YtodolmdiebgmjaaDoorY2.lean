/- 'Same', walked where both are the same. -/
import Derived.Test.YtodolmdiebgmjaaDoorY1
namespace Go.Proofs.YtodolmdiebgmjaaDoor
open Go.RowKit

/-- What 'Same' answers of one term that lies twice. -/
def SameC (k : Nat) : Prop := ∀ (S1 S2 : Nat → Prop) (w : World) (cs1 cs2 : List Value) (t : Pu.TT k), RT k S1 w cs1 t → RT k S2 w cs2 t →
  Calls Tryd.prog 26 #[.agg cs1.toArray, .agg cs2.toArray] w fun e w' => e = .returned (.bool true) ∧ Below w.heap.size w w'

theorem stays_old {S : Nat → Prop} {w w' : World} (hb : Below w.heap.size w w') : Stays S S w w' := fun g hg hl => ⟨hg, hb.block g hl⟩

/-- A world that has grown, with a condition on its cells that growing keeps. -/
structure Wg (S : World → Prop) (w W : World) : Prop where
  below : Below w.heap.size w W
  cond : S W

theorem same_call {k : Nat} (hS : SameC k) {S1 S2 : Nat → Prop} {w W : World} {cs1 cs2 : List Value} {t : Pu.TT k} {S : World → Prop} (hw : Wg S w W) (hk : ∀ a b : World, Below a.heap.size a b → S a → S b) (h1 : RT k S1 w cs1 t) (h2 : RT k S2 w cs2 t) :
    Calls Tryd.prog 26 #[.agg cs1.toArray, .agg cs2.toArray] W fun e w' => e = .returned (.bool true) ∧ Wg S w w' ∧ S w' :=
  (hS S1 S2 W cs1 cs2 t (RT.kept (stays_old hw.below) h1) (RT.kept (stays_old hw.below) h2)).mono fun _ _ ⟨he, hb⟩ => ⟨he, ⟨hw.below.trans (hb.mono hw.below.size), hk _ _ hb hw.cond⟩, hk _ _ hb hw.cond⟩

theorem cell_old {w w' : World} (hb : Below w.heap.size w w') {a : Addr} {v : Value} (h : w.cell? a = some v) : w'.cell? a = some v := by
  rw [hb.cell (World.block_lt_of_cell? w a h)]; exact h

theorem heap_old {w w' : World} (hb : Below w.heap.size w w') {g : Nat} {o : Obj} (h : w.heap[g]? = some o) : w'.heap[g]? = some o := by
  rw [hb.block g (Array.getElem?_eq_some_iff.1 h).1]; exact h

-- the arguments alone: a term without cases
set_option maxHeartbeats 1000000 in
theorem same_eq (k : Nat) (hS : SameC k) (S1 S2 : Nat → Prop) (w : World) (kd nn : Int) (x : ByteArray) (v1 v2 u1 u2 : Value) (args : List (Pu.TT k)) (cl : List (Int × List ByteArray × Pu.TT k)) (acs1 acs2 ccs1 ccs2 : List Value)
    (hr1 : Row S1 w 33 7 v1 args.length acs1) (he1 : Each 7 (RT k S1 w) acs1 args) (hr2 : Row S2 w 33 7 v2 args.length acs2) (he2 : Each 7 (RT k S2 w) acs2 args)
    (hq1 : Row S1 w 67 9 u1 cl.length ccs1) (hf1 : Each 9 (RC (RT k S1 w) S1 w) ccs1 cl) (hq2 : Row S2 w 67 9 u2 cl.length ccs2) (hf2 : Each 9 (RC (RT k S2 w) S2 w) ccs2 cl) :
    Calls Tryd.prog 26 #[.agg #[.int .i64 kd, .int .i64 nn, .string x, .string ⟨#[]⟩, .slice none 0 0, v1, u1], .agg #[.int .i64 kd, .int .i64 nn, .string x, .string ⟨#[]⟩, .slice none 0 0, v2, u2]] w fun e w' => e = .returned (.bool true) ∧ Below w.heap.size w w' := by
  obtain ⟨a1, c1, rfl⟩ := hr1.form
  obtain ⟨a2, c2, rfl⟩ := hr2.form
  obtain ⟨b1, d1, rfl⟩ := hq1.form
  obtain ⟨b2, d2, rfl⟩ := hq2.form
  have HR1 := hide hr1
  have HE1 := hide he1
  have HR2 := hide hr2
  have HE2 := hide he2
  have HQ1 := hide hq1
  have HF1 := hide hf1
  have HQ2 := hide hq2
  have HF2 := hide hf2
  have HS := hide hS
  clear hr1 he1 hr2 he2 hq1 hf1 hq2 hf2 hS
  go_enter Tryd.func26, Tryd.ntmps26
  go_wp2_with fail
  refine (sameNames_eq (From 0) (From 0) _ _ [] _ (Row.nil _ _ _ _) (Row.nil _ _ _ _)).mono ?_
  rintro e w1 ⟨rfl, m, rfl⟩
  go_wp2_with fail
  go_loopw [64] (fun v wr => ∃ i : Nat, i ≤ args.length ∧ v = .int .i64 i ∧ Below w.heap.size w wr ∧
    wr.heap[w.heap.size]? = some (.cells #[.int .i64 kd, .int .i64 nn, .string x, .string ⟨#[]⟩, .slice none 0 0, .slice a1 args.length c1, .slice b1 cl.length d1] 33 (0, 0)) ∧
    wr.heap[w.heap.size + 1]? = some (.cells #[.int .i64 kd, .int .i64 nn, .string x, .string ⟨#[]⟩, .slice none 0 0, .slice a2 args.length c2, .slice b2 cl.length d2] 33 (0, 0))) (fun v _ => args.length - (intOf v).toNat)
  case atStart =>
    refine ⟨0, Nat.zero_le _, rfl, below_drewN (((Below.refl _ w).alloc (Nat.le_refl _) _).alloc (by simp) _) _, ?_, ?_⟩
    · show ((w.alloc _).alloc _).heap[w.heap.size]? = _
      rw [Below.heap_alloc _ _ _ (by simp)]; exact heap_alloc_new _ _
    · show ((w.alloc _).alloc _).heap[w.heap.size + 1]? = _
      have := heap_alloc_new (w.alloc (.cells #[.int .i64 kd, .int .i64 nn, .string x, .string ⟨#[]⟩, .slice none 0 0, .slice a1 args.length c1, .slice b1 cl.length d1] 33)) (.cells #[.int .i64 kd, .int .i64 nn, .string x, .string ⟨#[]⟩, .slice none 0 0, .slice a2 args.length c2, .slice b2 cl.length d2] 33)
      rw [World.size_alloc] at this; exact this
  case round =>
    obtain ⟨i, hi, rfl, hb, hx1, hx2⟩ := hrel
    have HB := hide hb
    have HX1 := hide hx1
    have HX2 := hide hx2
    clear hb hx1 hx2
    by_cases hlt : i < args.length
    · obtain ⟨g1, cap1, hv, hg1, _, hc1, hc1', hcell1⟩ := HR1.out.cells (by omega)
      injection hv with hv1 _ hv2
      subst hv1 hv2
      obtain ⟨g2, cap2, hv, hg2, _, hc2, hc2', hcell2⟩ := HR2.out.cells (by omega)
      injection hv with hv1 _ hv2
      subst hv1 hv2
      obtain ⟨t, ht⟩ : ∃ t, args[i]? = some t := ⟨_, List.getElem?_eq_getElem hlt⟩
      obtain ⟨ck1, _, hrt1, hxs1⟩ := HE1.out.get i t ht
      obtain ⟨ck2, _, hrt2, hxs2⟩ := HE2.out.get i t ht
      obtain ⟨kd3, nn3, x3, a3, n3, c3, b3, m3, d3, rfl⟩ := hrt1.form
      obtain ⟨kd4, nn4, x4, a4, n4, c4, b4, m4, d4, rfl⟩ := hrt2.form
      have hcw1 : ∀ j, j < 7 → wr.cell? ⟨g1, i * 7 + j, none⟩ = [Value.int .i64 kd3, .int .i64 nn3, .string x3, .string ⟨#[]⟩, .slice none 0 0, .slice a3 n3 c3, .slice b3 m3 d3][j]? := by
        intro j hj; rw [HB.out.cell (p := ⟨g1, i * 7 + j, none⟩) hg1, hcell1 _ (by omega), hxs1 j hj]
      have hcw2 : ∀ j, j < 7 → wr.cell? ⟨g2, i * 7 + j, none⟩ = [Value.int .i64 kd4, .int .i64 nn4, .string x4, .string ⟨#[]⟩, .slice none 0 0, .slice a4 n4 c4, .slice b4 m4 d4][j]? := by
        intro j hj; rw [HB.out.cell (p := ⟨g2, i * 7 + j, none⟩) hg2, hcell2 _ (by omega), hxs2 j hj]
      unfold maxLen at hc1' hc2'
      have i1 : (i : Int) < (args.length : Int) := by omega
      have i0 : (0 : Int) ≤ (i : Int) := by omega
      have hw0 : Wg (fun w' => (w'.cell? ⟨w.heap.size, 5, none⟩ = some (.slice (some ⟨g1, 0, none⟩) args.length c1) ∧ w'.cell? ⟨w.heap.size + 1, 5, none⟩ = some (.slice (some ⟨g2, 0, none⟩) args.length c2) ∧ w'.cell? ⟨g1, i * 7, none⟩ = some (.int .i64 kd3) ∧ w'.cell? ⟨g1, i * 7 + 1, none⟩ = some (.int .i64 nn3) ∧ w'.cell? ⟨g1, i * 7 + 2, none⟩ = some (.string x3) ∧ w'.cell? ⟨g1, i * 7 + 3, none⟩ = some (.string ⟨#[]⟩) ∧ w'.cell? ⟨g1, i * 7 + 4, none⟩ = some (.slice none 0 0) ∧ w'.cell? ⟨g1, i * 7 + 5, none⟩ = some (.slice a3 n3 c3) ∧ w'.cell? ⟨g1, i * 7 + 6, none⟩ = some (.slice b3 m3 d3) ∧ w'.cell? ⟨g2, i * 7, none⟩ = some (.int .i64 kd4) ∧ w'.cell? ⟨g2, i * 7 + 1, none⟩ = some (.int .i64 nn4) ∧ w'.cell? ⟨g2, i * 7 + 2, none⟩ = some (.string x4) ∧ w'.cell? ⟨g2, i * 7 + 3, none⟩ = some (.string ⟨#[]⟩) ∧ w'.cell? ⟨g2, i * 7 + 4, none⟩ = some (.slice none 0 0) ∧ w'.cell? ⟨g2, i * 7 + 5, none⟩ = some (.slice a4 n4 c4) ∧ w'.cell? ⟨g2, i * 7 + 6, none⟩ = some (.slice b4 m4 d4)) ∧ w'.heap[w.heap.size]? = some (.cells #[.int .i64 kd, .int .i64 nn, .string x, .string ⟨#[]⟩, .slice none 0 0, .slice (some ⟨g1, 0, none⟩) args.length c1, .slice b1 cl.length d1] 33 (0, 0)) ∧ w'.heap[w.heap.size + 1]? = some (.cells #[.int .i64 kd, .int .i64 nn, .string x, .string ⟨#[]⟩, .slice none 0 0, .slice (some ⟨g2, 0, none⟩) args.length c2, .slice b2 cl.length d2] 33 (0, 0))) w wr.drew :=
        ⟨HB.out.drew, by
          refine ⟨?_, HX1.out, HX2.out⟩
          refine ⟨?_, ?_, ?_, ?_, ?_, ?_, ?_, ?_, ?_, ?_, ?_, ?_, ?_, ?_, ?_, ?_⟩
          · show wr.cell? _ = _; rw [cell_of_heap HX1.out]; rfl
          · show wr.cell? _ = _; rw [cell_of_heap HX2.out]; rfl
          · exact hcw1 0 (by omega)
          · exact hcw1 1 (by omega)
          · exact hcw1 2 (by omega)
          · exact hcw1 3 (by omega)
          · exact hcw1 4 (by omega)
          · exact hcw1 5 (by omega)
          · exact hcw1 6 (by omega)
          · exact hcw2 0 (by omega)
          · exact hcw2 1 (by omega)
          · exact hcw2 2 (by omega)
          · exact hcw2 3 (by omega)
          · exact hcw2 4 (by omega)
          · exact hcw2 5 (by omega)
          · exact hcw2 6 (by omega)⟩
      have AS := hide (fun W (hw : Wg (fun w' => (w'.cell? ⟨w.heap.size, 5, none⟩ = some (.slice (some ⟨g1, 0, none⟩) args.length c1) ∧ w'.cell? ⟨w.heap.size + 1, 5, none⟩ = some (.slice (some ⟨g2, 0, none⟩) args.length c2) ∧ w'.cell? ⟨g1, i * 7, none⟩ = some (.int .i64 kd3) ∧ w'.cell? ⟨g1, i * 7 + 1, none⟩ = some (.int .i64 nn3) ∧ w'.cell? ⟨g1, i * 7 + 2, none⟩ = some (.string x3) ∧ w'.cell? ⟨g1, i * 7 + 3, none⟩ = some (.string ⟨#[]⟩) ∧ w'.cell? ⟨g1, i * 7 + 4, none⟩ = some (.slice none 0 0) ∧ w'.cell? ⟨g1, i * 7 + 5, none⟩ = some (.slice a3 n3 c3) ∧ w'.cell? ⟨g1, i * 7 + 6, none⟩ = some (.slice b3 m3 d3) ∧ w'.cell? ⟨g2, i * 7, none⟩ = some (.int .i64 kd4) ∧ w'.cell? ⟨g2, i * 7 + 1, none⟩ = some (.int .i64 nn4) ∧ w'.cell? ⟨g2, i * 7 + 2, none⟩ = some (.string x4) ∧ w'.cell? ⟨g2, i * 7 + 3, none⟩ = some (.string ⟨#[]⟩) ∧ w'.cell? ⟨g2, i * 7 + 4, none⟩ = some (.slice none 0 0) ∧ w'.cell? ⟨g2, i * 7 + 5, none⟩ = some (.slice a4 n4 c4) ∧ w'.cell? ⟨g2, i * 7 + 6, none⟩ = some (.slice b4 m4 d4)) ∧ w'.heap[w.heap.size]? = some (.cells #[.int .i64 kd, .int .i64 nn, .string x, .string ⟨#[]⟩, .slice none 0 0, .slice (some ⟨g1, 0, none⟩) args.length c1, .slice b1 cl.length d1] 33 (0, 0)) ∧ w'.heap[w.heap.size + 1]? = some (.cells #[.int .i64 kd, .int .i64 nn, .string x, .string ⟨#[]⟩, .slice none 0 0, .slice (some ⟨g2, 0, none⟩) args.length c2, .slice b2 cl.length d2] 33 (0, 0))) w W) => same_call HS.out hw (fun a b hb ⟨⟨z1, z2, z3, z4, z5, z6, z7, z8, z9, z10, z11, z12, z13, z14, z15, z16⟩, y1, y2⟩ =>
        ⟨⟨cell_old hb z1, cell_old hb z2, cell_old hb z3, cell_old hb z4, cell_old hb z5, cell_old hb z6, cell_old hb z7, cell_old hb z8, cell_old hb z9, cell_old hb z10, cell_old hb z11, cell_old hb z12, cell_old hb z13, cell_old hb z14, cell_old hb z15, cell_old hb z16⟩, heap_old hb y1, heap_old hb y2⟩) hrt1 hrt2)
      have HZ := hide hw0.cond.1
      clear hcw1 hcw2 hcell1 hcell2 hxs1 hxs2 hrt1 hrt2 ht
      go_wp2_with fail
      go_region_held3 (fun w' => w'.cell? ⟨w.heap.size, 5, none⟩ = some (.slice (some ⟨g1, 0, none⟩) args.length c1) ∧ w'.cell? ⟨w.heap.size + 1, 5, none⟩ = some (.slice (some ⟨g2, 0, none⟩) args.length c2) ∧ w'.cell? ⟨g1, i * 7, none⟩ = some (.int .i64 kd3) ∧ w'.cell? ⟨g1, i * 7 + 1, none⟩ = some (.int .i64 nn3) ∧ w'.cell? ⟨g1, i * 7 + 2, none⟩ = some (.string x3) ∧ w'.cell? ⟨g1, i * 7 + 3, none⟩ = some (.string ⟨#[]⟩) ∧ w'.cell? ⟨g1, i * 7 + 4, none⟩ = some (.slice none 0 0) ∧ w'.cell? ⟨g1, i * 7 + 5, none⟩ = some (.slice a3 n3 c3) ∧ w'.cell? ⟨g1, i * 7 + 6, none⟩ = some (.slice b3 m3 d3) ∧ w'.cell? ⟨g2, i * 7, none⟩ = some (.int .i64 kd4) ∧ w'.cell? ⟨g2, i * 7 + 1, none⟩ = some (.int .i64 nn4) ∧ w'.cell? ⟨g2, i * 7 + 2, none⟩ = some (.string x4) ∧ w'.cell? ⟨g2, i * 7 + 3, none⟩ = some (.string ⟨#[]⟩) ∧ w'.cell? ⟨g2, i * 7 + 4, none⟩ = some (.slice none 0 0) ∧ w'.cell? ⟨g2, i * 7 + 5, none⟩ = some (.slice a4 n4 c4) ∧ w'.cell? ⟨g2, i * 7 + 6, none⟩ = some (.slice b4 m4 d4)) (first | assumption | exact HZ.out | go_keep)
        (first
          | (go_at_call 26; refine (AS.out _ ?_).mono ?_; assumption; rintro e w1 ⟨rfl, hw1, hS1, _⟩))
      all_goals
        have HW1 := hide hw1
        clear hw1 hS1
        go_wp2_with fail
        go_roundw
        case rel => exact ⟨i + 1, by omega, by go_num, HW1.out.below, HW1.out.cond.2.1, HW1.out.cond.2.2⟩
        case measure => simp [intOf]; omega
    · have c1' := cell_of_heap HX1.out
      have c2' := cell_of_heap HX2.out
      have hsz := HB.out.size
      go_wp2_with fail
      clear c1' c2'
      go_loopw [83] (fun v wq => ∃ i : Nat, i ≤ cl.length ∧ v = .int .i64 i ∧ Below w.heap.size w wq ∧
        wq.heap[w.heap.size]? = some (.cells #[.int .i64 kd, .int .i64 nn, .string x, .string ⟨#[]⟩, .slice none 0 0, .slice a1 args.length c1, .slice b1 cl.length d1] 33 (0, 0)) ∧
        wq.heap[w.heap.size + 1]? = some (.cells #[.int .i64 kd, .int .i64 nn, .string x, .string ⟨#[]⟩, .slice none 0 0, .slice a2 args.length c2, .slice b2 cl.length d2] 33 (0, 0))) (fun v _ => cl.length - (intOf v).toNat)
      case atStart => exact ⟨0, Nat.zero_le _, rfl, HB.out, HX1.out, HX2.out⟩
      case round =>
        clear HB HX1 HX2 hsz
        obtain ⟨q, hq, rfl, hb, hx1, hx2⟩ := hrel
        have HB := hide hb
        have HX1 := hide hx1
        have HX2 := hide hx2
        have hsz := hb.size
        have hsz1 : w.heap.size + 1 < wr.heap.size := (Array.getElem?_eq_some_iff.1 hx2).1
        clear hb hx1 hx2
        by_cases hlt2 : q < cl.length
        · obtain ⟨g1, cap1, hv, hg1, _, hc1, hc1', hcell1⟩ := HQ1.out.cells (by omega)
          injection hv with hv1 _ hv2
          subst hv1 hv2
          obtain ⟨g2, cap2, hv, hg2, _, hc2, hc2', hcell2⟩ := HQ2.out.cells (by omega)
          injection hv with hv1 _ hv2
          subst hv1 hv2
          obtain ⟨t, ht⟩ : ∃ t, cl[q]? = some t := ⟨_, List.getElem?_eq_getElem hlt2⟩
          obtain ⟨ck1, _, ⟨vv1, bb1, rfl, hvr1, _, hrt1⟩, hxs1⟩ := HF1.out.get q t ht
          obtain ⟨ck2, _, ⟨vv2, bb2, rfl, hvr2, _, hrt2⟩, hxs2⟩ := HF2.out.get q t ht
          obtain ⟨kd3, nn3, x3, a3, n3, c3, b3, m3, d3, rfl⟩ := hrt1.form
          obtain ⟨kd4, nn4, x4, a4, n4, c4, b4, m4, d4, rfl⟩ := hrt2.form
          obtain ⟨av1, cv1, rfl⟩ := hvr1.form
          obtain ⟨av2, cv2, rfl⟩ := hvr2.form
          have hcw1 : ∀ j, j < 9 → wr.cell? ⟨g1, q * 9 + j, none⟩ = [Value.int .i64 t.1, .slice av1 t.2.1.length cv1, .int .i64 kd3, .int .i64 nn3, .string x3, .string ⟨#[]⟩, .slice none 0 0, .slice a3 n3 c3, .slice b3 m3 d3][j]? := by
            intro j hj; rw [HB.out.cell (p := ⟨g1, q * 9 + j, none⟩) hg1, hcell1 _ (by omega), hxs1 j hj]
          have hcw2 : ∀ j, j < 9 → wr.cell? ⟨g2, q * 9 + j, none⟩ = [Value.int .i64 t.1, .slice av2 t.2.1.length cv2, .int .i64 kd4, .int .i64 nn4, .string x4, .string ⟨#[]⟩, .slice none 0 0, .slice a4 n4 c4, .slice b4 m4 d4][j]? := by
            intro j hj; rw [HB.out.cell (p := ⟨g2, q * 9 + j, none⟩) hg2, hcell2 _ (by omega), hxs2 j hj]
          unfold maxLen at hc1' hc2'
          have i1 : (q : Int) < (cl.length : Int) := by omega
          have i0 : (0 : Int) ≤ (q : Int) := by omega
          have e0 : wr.cell? ⟨g1, q * 9, none⟩ = some (.int .i64 t.1) := hcw1 0 (by omega)
          have e1 := hcw1 1 (by omega)
          have e2 := hcw1 2 (by omega)
          have e3 := hcw1 3 (by omega)
          have e4 := hcw1 4 (by omega)
          have e5 := hcw1 5 (by omega)
          have e6 := hcw1 6 (by omega)
          have e7 := hcw1 7 (by omega)
          have e8 := hcw1 8 (by omega)
          have f0 : wr.cell? ⟨g2, q * 9, none⟩ = some (.int .i64 t.1) := hcw2 0 (by omega)
          have f1 := hcw2 1 (by omega)
          have f2 := hcw2 2 (by omega)
          have f3 := hcw2 3 (by omega)
          have f4 := hcw2 4 (by omega)
          have f5 := hcw2 5 (by omega)
          have f6 := hcw2 6 (by omega)
          have f7 := hcw2 7 (by omega)
          have f8 := hcw2 8 (by omega)
          have k1' := cell_of_heap HX1.out
          have k2' := cell_of_heap HX2.out
          have T1 := hide hrt1
          have T2 := hide hrt2
          have V1 := hide hvr1
          have V2 := hide hvr2
          have hgl1 : g1 < wr.heap.size := by omega
          have hgl2 : g2 < wr.heap.size := by omega
          clear hcw1 hcw2 hcell1 hcell2 hxs1 hxs2 hrt1 hrt2 hvr1 hvr2 ht
          go_wp2_with fail
          clear e0 e1 e2 e3 e4 e5 e6 e7 e8 f0 f1 f2 f3 f4 f5 f6 f7 f8 k1' k2'
          have hbW : ∀ o1 o2, Below wr.heap.size wr ((wr.alloc o1).alloc o2) := fun o1 o2 => ((Below.refl _ wr).alloc (Nat.le_refl _) o1).alloc (by simp) o2
          have HBW := hide hbW
          clear hbW
          have sb : ∀ (S : Nat → Prop) (W : World), Below wr.heap.size wr W → Stays S S w W := fun S W h => stays_old (HB.out.trans (h.mono hsz))
          have SB := hide sb
          clear sb
          refine (sameNames_eq S1 S2 _ _ t.2.1 _ (V1.out.kept (SB.out _ _ (HBW.out _ _))) (V2.out.kept (SB.out _ _ (HBW.out _ _)))).mono ?_
          rintro e w5 ⟨rfl, m5, rfl⟩
          go_wp2_with fail
          refine (HS.out S1 S2 _ _ _ t.2.2 (RT.kept (SB.out _ _ (below_drewN (HBW.out _ _) _)) T1.out) (RT.kept (SB.out _ _ (below_drewN (HBW.out _ _) _)) T2.out)).mono ?_
          rintro e w6 ⟨rfl, hb6⟩
          have HB6 := hide hb6
          clear hb6
          go_wp2_with fail
          go_roundw
          case rel =>
            have h0 : Below wr.heap.size wr w6 := (below_drewN (HBW.out _ _) _).trans (HB6.out.mono (by simp; omega))
            exact ⟨q + 1, by omega, by go_num, HB.out.trans (h0.mono hsz), heap_old h0 HX1.out, heap_old h0 HX2.out⟩
          case measure => simp [intOf]; omega
        · go_wp2_with fail
          go_ret
          exact ⟨rfl, HB.out⟩

theorem same_all : ∀ k, SameC k
  | 0 => fun _ _ _ _ _ _ h => h.elim
  | k + 1 => by
    have hS := same_all k
    intro S1 S2 w cs1 cs2 t h1 h2
    obtain ⟨av, cv, acs, ccs, rfl, hr1, he1, hq1, hf1⟩ := h1
    obtain ⟨av', cv', acs', ccs', rfl, hr2, he2, hq2, hf2⟩ := h2
    exact same_eq k hS S1 S2 w _ _ _ _ _ _ _ _ _ acs acs' ccs ccs' hr1 he1 hr2 he2 hq1 hf1 hq2 hf2

end Go.Proofs.YtodolmdiebgmjaaDoor
