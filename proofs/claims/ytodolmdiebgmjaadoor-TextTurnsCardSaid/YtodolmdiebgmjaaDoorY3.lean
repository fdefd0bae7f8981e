/- 'SameFns', walked where both are the same. -/
import Derived.Test.YtodolmdiebgmjaaDoorY2
namespace Go.Proofs.YtodolmdiebgmjaaDoor
open Go.RowKit

theorem names_call {S1 S2 : Nat → Prop} {w W : World} {v1 v2 : Value} {l : List ByteArray} {S : World → Prop} (hw : Wg S w W) (hk : ∀ a b : World, Below a.heap.size a b → S a → S b) (h1 : Row S1 w 9 1 v1 l.length (l.map .string)) (h2 : Row S2 w 9 1 v2 l.length (l.map .string)) :
    Calls Tryd.prog 25 #[v1, v2] W fun e w' => e = .returned (.bool true) ∧ Wg S w w' ∧ S w' :=
  (sameNames_eq S1 S2 v1 v2 l W (h1.kept (stays_old hw.below)) (h2.kept (stays_old hw.below))).mono fun _ w' ⟨he, n, hn⟩ => by
    have hb : Below W.heap.size W w' := by rw [hn]; exact below_drewN (Below.refl _ _) _
    exact ⟨he, ⟨hw.below.trans (hb.mono hw.below.size), hk _ _ hb hw.cond⟩, hk _ _ hb hw.cond⟩

set_option maxHeartbeats 2000000 in
theorem sameFns_eq (S1 S2 : Nat → Prop) (v1 v2 : Value) (fs : List (ByteArray × List ByteArray × Pu.TT 26)) (xs1 xs2 : List Value) (w : World) (h1 : Row S1 w 35 9 v1 fs.length xs1) (e1 : Each 9 (RF S1 w) xs1 fs) (h2 : Row S2 w 35 9 v2 fs.length xs2) (e2 : Each 9 (RF S2 w) xs2 fs) :
    Calls Tryd.prog 8 #[v1, v2] w fun e w' => e = .returned (.bool true) ∧ Below w.heap.size w w' := by
  have H1 := hide h1
  have H2 := hide h2
  have E1 := hide e1
  have E2 := hide e2
  obtain ⟨a1, c1, rfl⟩ := h1.form
  obtain ⟨a2, c2, rfl⟩ := h2.form
  clear h1 h2 e1 e2
  go_enter Tryd.func8, Tryd.ntmps8
  go_wp2_with fail
  go_loopw [13] (fun v wr => ∃ i : Nat, i ≤ fs.length ∧ v = .int .i64 i ∧ Below w.heap.size w wr) (fun v _ => fs.length - (intOf v).toNat)
  case atStart => exact ⟨0, Nat.zero_le _, rfl, Below.refl _ _⟩
  case round =>
    obtain ⟨i, hi, rfl, hb⟩ := hrel
    have HB := hide hb
    have hsz := hb.size
    clear hb
    by_cases hlt : i < fs.length
    · obtain ⟨g1, cap1, hv, hg1, _, hc1, hc1', hcell1⟩ := H1.out.cells (by omega)
      injection hv with hv1 _ hv2
      subst hv1 hv2
      obtain ⟨g2, cap2, hv, hg2, _, hc2, hc2', hcell2⟩ := H2.out.cells (by omega)
      injection hv with hv1 _ hv2
      subst hv1 hv2
      obtain ⟨f, hf⟩ : ∃ f, fs[i]? = some f := ⟨_, List.getElem?_eq_getElem hlt⟩
      obtain ⟨ck1, _, ⟨vv1, bb1, rfl, hvr1, _, hrt1⟩, hxs1⟩ := E1.out.get i f hf
      obtain ⟨ck2, _, ⟨vv2, bb2, rfl, hvr2, _, hrt2⟩, hxs2⟩ := E2.out.get i f hf
      obtain ⟨kd3, nn3, x3, a3, n3, c3, b3, m3, d3, rfl⟩ := hrt1.form
      obtain ⟨kd4, nn4, x4, a4, n4, c4, b4, m4, d4, rfl⟩ := hrt2.form
      obtain ⟨av3, cv3, rfl⟩ := hvr1.form
      obtain ⟨av4, cv4, rfl⟩ := hvr2.form
      have hcw1 : ∀ j, j < 9 → wr.cell? ⟨g1, i * 9 + j, none⟩ = [Value.string f.1, .slice av3 f.2.1.length cv3, .int .i64 kd3, .int .i64 nn3, .string x3, .string ⟨#[]⟩, .slice none 0 0, .slice a3 n3 c3, .slice b3 m3 d3][j]? := by
        intro j hj; rw [HB.out.cell (p := ⟨g1, i * 9 + j, none⟩) hg1, hcell1 _ (by omega), hxs1 j hj]
      have hcw2 : ∀ j, j < 9 → wr.cell? ⟨g2, i * 9 + j, none⟩ = [Value.string f.1, .slice av4 f.2.1.length cv4, .int .i64 kd4, .int .i64 nn4, .string x4, .string ⟨#[]⟩, .slice none 0 0, .slice a4 n4 c4, .slice b4 m4 d4][j]? := by
        intro j hj; rw [HB.out.cell (p := ⟨g2, i * 9 + j, none⟩) hg2, hcell2 _ (by omega), hxs2 j hj]
      unfold maxLen at hc1' hc2'
      have i1 : (i : Int) < (fs.length : Int) := by omega
      have i0 : (0 : Int) ≤ (i : Int) := by omega
      have hw0 : Wg (fun w' => w'.cell? ⟨g1, i * 9, none⟩ = some (.string f.1) ∧ w'.cell? ⟨g1, i * 9 + 1, none⟩ = some (.slice av3 f.2.1.length cv3) ∧ w'.cell? ⟨g1, i * 9 + 2, none⟩ = some (.int .i64 kd3) ∧ w'.cell? ⟨g1, i * 9 + 2 + 1, none⟩ = some (.int .i64 nn3) ∧ w'.cell? ⟨g1, i * 9 + 2 + 2, none⟩ = some (.string x3) ∧ w'.cell? ⟨g1, i * 9 + 2 + 3, none⟩ = some (.string ⟨#[]⟩) ∧ w'.cell? ⟨g1, i * 9 + 2 + 4, none⟩ = some (.slice none 0 0) ∧ w'.cell? ⟨g1, i * 9 + 2 + 5, none⟩ = some (.slice a3 n3 c3) ∧ w'.cell? ⟨g1, i * 9 + 2 + 6, none⟩ = some (.slice b3 m3 d3) ∧ w'.cell? ⟨g2, i * 9, none⟩ = some (.string f.1) ∧ w'.cell? ⟨g2, i * 9 + 1, none⟩ = some (.slice av4 f.2.1.length cv4) ∧ w'.cell? ⟨g2, i * 9 + 2, none⟩ = some (.int .i64 kd4) ∧ w'.cell? ⟨g2, i * 9 + 2 + 1, none⟩ = some (.int .i64 nn4) ∧ w'.cell? ⟨g2, i * 9 + 2 + 2, none⟩ = some (.string x4) ∧ w'.cell? ⟨g2, i * 9 + 2 + 3, none⟩ = some (.string ⟨#[]⟩) ∧ w'.cell? ⟨g2, i * 9 + 2 + 4, none⟩ = some (.slice none 0 0) ∧ w'.cell? ⟨g2, i * 9 + 2 + 5, none⟩ = some (.slice a4 n4 c4) ∧ w'.cell? ⟨g2, i * 9 + 2 + 6, none⟩ = some (.slice b4 m4 d4)) w wr.drew :=
        ⟨HB.out.drew, ⟨hcw1 0 (by omega), hcw1 1 (by omega), hcw1 2 (by omega), hcw1 3 (by omega), hcw1 4 (by omega), hcw1 5 (by omega), hcw1 6 (by omega), hcw1 7 (by omega), hcw1 8 (by omega), hcw2 0 (by omega), hcw2 1 (by omega), hcw2 2 (by omega), hcw2 3 (by omega), hcw2 4 (by omega), hcw2 5 (by omega), hcw2 6 (by omega), hcw2 7 (by omega), hcw2 8 (by omega)⟩⟩
      have hk : ∀ a b : World, Below a.heap.size a b → (fun w' : World => w'.cell? ⟨g1, i * 9, none⟩ = some (.string f.1) ∧ w'.cell? ⟨g1, i * 9 + 1, none⟩ = some (.slice av3 f.2.1.length cv3) ∧ w'.cell? ⟨g1, i * 9 + 2, none⟩ = some (.int .i64 kd3) ∧ w'.cell? ⟨g1, i * 9 + 2 + 1, none⟩ = some (.int .i64 nn3) ∧ w'.cell? ⟨g1, i * 9 + 2 + 2, none⟩ = some (.string x3) ∧ w'.cell? ⟨g1, i * 9 + 2 + 3, none⟩ = some (.string ⟨#[]⟩) ∧ w'.cell? ⟨g1, i * 9 + 2 + 4, none⟩ = some (.slice none 0 0) ∧ w'.cell? ⟨g1, i * 9 + 2 + 5, none⟩ = some (.slice a3 n3 c3) ∧ w'.cell? ⟨g1, i * 9 + 2 + 6, none⟩ = some (.slice b3 m3 d3) ∧ w'.cell? ⟨g2, i * 9, none⟩ = some (.string f.1) ∧ w'.cell? ⟨g2, i * 9 + 1, none⟩ = some (.slice av4 f.2.1.length cv4) ∧ w'.cell? ⟨g2, i * 9 + 2, none⟩ = some (.int .i64 kd4) ∧ w'.cell? ⟨g2, i * 9 + 2 + 1, none⟩ = some (.int .i64 nn4) ∧ w'.cell? ⟨g2, i * 9 + 2 + 2, none⟩ = some (.string x4) ∧ w'.cell? ⟨g2, i * 9 + 2 + 3, none⟩ = some (.string ⟨#[]⟩) ∧ w'.cell? ⟨g2, i * 9 + 2 + 4, none⟩ = some (.slice none 0 0) ∧ w'.cell? ⟨g2, i * 9 + 2 + 5, none⟩ = some (.slice a4 n4 c4) ∧ w'.cell? ⟨g2, i * 9 + 2 + 6, none⟩ = some (.slice b4 m4 d4)) a → (fun w' : World => w'.cell? ⟨g1, i * 9, none⟩ = some (.string f.1) ∧ w'.cell? ⟨g1, i * 9 + 1, none⟩ = some (.slice av3 f.2.1.length cv3) ∧ w'.cell? ⟨g1, i * 9 + 2, none⟩ = some (.int .i64 kd3) ∧ w'.cell? ⟨g1, i * 9 + 2 + 1, none⟩ = some (.int .i64 nn3) ∧ w'.cell? ⟨g1, i * 9 + 2 + 2, none⟩ = some (.string x3) ∧ w'.cell? ⟨g1, i * 9 + 2 + 3, none⟩ = some (.string ⟨#[]⟩) ∧ w'.cell? ⟨g1, i * 9 + 2 + 4, none⟩ = some (.slice none 0 0) ∧ w'.cell? ⟨g1, i * 9 + 2 + 5, none⟩ = some (.slice a3 n3 c3) ∧ w'.cell? ⟨g1, i * 9 + 2 + 6, none⟩ = some (.slice b3 m3 d3) ∧ w'.cell? ⟨g2, i * 9, none⟩ = some (.string f.1) ∧ w'.cell? ⟨g2, i * 9 + 1, none⟩ = some (.slice av4 f.2.1.length cv4) ∧ w'.cell? ⟨g2, i * 9 + 2, none⟩ = some (.int .i64 kd4) ∧ w'.cell? ⟨g2, i * 9 + 2 + 1, none⟩ = some (.int .i64 nn4) ∧ w'.cell? ⟨g2, i * 9 + 2 + 2, none⟩ = some (.string x4) ∧ w'.cell? ⟨g2, i * 9 + 2 + 3, none⟩ = some (.string ⟨#[]⟩) ∧ w'.cell? ⟨g2, i * 9 + 2 + 4, none⟩ = some (.slice none 0 0) ∧ w'.cell? ⟨g2, i * 9 + 2 + 5, none⟩ = some (.slice a4 n4 c4) ∧ w'.cell? ⟨g2, i * 9 + 2 + 6, none⟩ = some (.slice b4 m4 d4)) b := fun a b hb ⟨z1, z2, z3, z4, z5, z6, z7, z8, z9, z10, z11, z12, z13, z14, z15, z16, z17, z18⟩ => ⟨cell_old hb z1, cell_old hb z2, cell_old hb z3, cell_old hb z4, cell_old hb z5, cell_old hb z6, cell_old hb z7, cell_old hb z8, cell_old hb z9, cell_old hb z10, cell_old hb z11, cell_old hb z12, cell_old hb z13, cell_old hb z14, cell_old hb z15, cell_old hb z16, cell_old hb z17, cell_old hb z18⟩
      have AN := hide (fun W (hw : Wg (fun w' => w'.cell? ⟨g1, i * 9, none⟩ = some (.string f.1) ∧ w'.cell? ⟨g1, i * 9 + 1, none⟩ = some (.slice av3 f.2.1.length cv3) ∧ w'.cell? ⟨g1, i * 9 + 2, none⟩ = some (.int .i64 kd3) ∧ w'.cell? ⟨g1, i * 9 + 2 + 1, none⟩ = some (.int .i64 nn3) ∧ w'.cell? ⟨g1, i * 9 + 2 + 2, none⟩ = some (.string x3) ∧ w'.cell? ⟨g1, i * 9 + 2 + 3, none⟩ = some (.string ⟨#[]⟩) ∧ w'.cell? ⟨g1, i * 9 + 2 + 4, none⟩ = some (.slice none 0 0) ∧ w'.cell? ⟨g1, i * 9 + 2 + 5, none⟩ = some (.slice a3 n3 c3) ∧ w'.cell? ⟨g1, i * 9 + 2 + 6, none⟩ = some (.slice b3 m3 d3) ∧ w'.cell? ⟨g2, i * 9, none⟩ = some (.string f.1) ∧ w'.cell? ⟨g2, i * 9 + 1, none⟩ = some (.slice av4 f.2.1.length cv4) ∧ w'.cell? ⟨g2, i * 9 + 2, none⟩ = some (.int .i64 kd4) ∧ w'.cell? ⟨g2, i * 9 + 2 + 1, none⟩ = some (.int .i64 nn4) ∧ w'.cell? ⟨g2, i * 9 + 2 + 2, none⟩ = some (.string x4) ∧ w'.cell? ⟨g2, i * 9 + 2 + 3, none⟩ = some (.string ⟨#[]⟩) ∧ w'.cell? ⟨g2, i * 9 + 2 + 4, none⟩ = some (.slice none 0 0) ∧ w'.cell? ⟨g2, i * 9 + 2 + 5, none⟩ = some (.slice a4 n4 c4) ∧ w'.cell? ⟨g2, i * 9 + 2 + 6, none⟩ = some (.slice b4 m4 d4)) w W) => names_call hw hk hvr1 hvr2)
      have AS := hide (fun W (hw : Wg (fun w' => w'.cell? ⟨g1, i * 9, none⟩ = some (.string f.1) ∧ w'.cell? ⟨g1, i * 9 + 1, none⟩ = some (.slice av3 f.2.1.length cv3) ∧ w'.cell? ⟨g1, i * 9 + 2, none⟩ = some (.int .i64 kd3) ∧ w'.cell? ⟨g1, i * 9 + 2 + 1, none⟩ = some (.int .i64 nn3) ∧ w'.cell? ⟨g1, i * 9 + 2 + 2, none⟩ = some (.string x3) ∧ w'.cell? ⟨g1, i * 9 + 2 + 3, none⟩ = some (.string ⟨#[]⟩) ∧ w'.cell? ⟨g1, i * 9 + 2 + 4, none⟩ = some (.slice none 0 0) ∧ w'.cell? ⟨g1, i * 9 + 2 + 5, none⟩ = some (.slice a3 n3 c3) ∧ w'.cell? ⟨g1, i * 9 + 2 + 6, none⟩ = some (.slice b3 m3 d3) ∧ w'.cell? ⟨g2, i * 9, none⟩ = some (.string f.1) ∧ w'.cell? ⟨g2, i * 9 + 1, none⟩ = some (.slice av4 f.2.1.length cv4) ∧ w'.cell? ⟨g2, i * 9 + 2, none⟩ = some (.int .i64 kd4) ∧ w'.cell? ⟨g2, i * 9 + 2 + 1, none⟩ = some (.int .i64 nn4) ∧ w'.cell? ⟨g2, i * 9 + 2 + 2, none⟩ = some (.string x4) ∧ w'.cell? ⟨g2, i * 9 + 2 + 3, none⟩ = some (.string ⟨#[]⟩) ∧ w'.cell? ⟨g2, i * 9 + 2 + 4, none⟩ = some (.slice none 0 0) ∧ w'.cell? ⟨g2, i * 9 + 2 + 5, none⟩ = some (.slice a4 n4 c4) ∧ w'.cell? ⟨g2, i * 9 + 2 + 6, none⟩ = some (.slice b4 m4 d4)) w W) => same_call (same_all 26) hw hk hrt1 hrt2)
      have HZ := hide hw0.cond
      clear hcw1 hcw2 hcell1 hcell2 hxs1 hxs2 hrt1 hrt2 hf hvr1 hvr2 hk
      go_wp2_with fail
      go_region_held3 (fun w' => w'.cell? ⟨g1, i * 9, none⟩ = some (.string f.1) ∧ w'.cell? ⟨g1, i * 9 + 1, none⟩ = some (.slice av3 f.2.1.length cv3) ∧ w'.cell? ⟨g1, i * 9 + 2, none⟩ = some (.int .i64 kd3) ∧ w'.cell? ⟨g1, i * 9 + 2 + 1, none⟩ = some (.int .i64 nn3) ∧ w'.cell? ⟨g1, i * 9 + 2 + 2, none⟩ = some (.string x3) ∧ w'.cell? ⟨g1, i * 9 + 2 + 3, none⟩ = some (.string ⟨#[]⟩) ∧ w'.cell? ⟨g1, i * 9 + 2 + 4, none⟩ = some (.slice none 0 0) ∧ w'.cell? ⟨g1, i * 9 + 2 + 5, none⟩ = some (.slice a3 n3 c3) ∧ w'.cell? ⟨g1, i * 9 + 2 + 6, none⟩ = some (.slice b3 m3 d3) ∧ w'.cell? ⟨g2, i * 9, none⟩ = some (.string f.1) ∧ w'.cell? ⟨g2, i * 9 + 1, none⟩ = some (.slice av4 f.2.1.length cv4) ∧ w'.cell? ⟨g2, i * 9 + 2, none⟩ = some (.int .i64 kd4) ∧ w'.cell? ⟨g2, i * 9 + 2 + 1, none⟩ = some (.int .i64 nn4) ∧ w'.cell? ⟨g2, i * 9 + 2 + 2, none⟩ = some (.string x4) ∧ w'.cell? ⟨g2, i * 9 + 2 + 3, none⟩ = some (.string ⟨#[]⟩) ∧ w'.cell? ⟨g2, i * 9 + 2 + 4, none⟩ = some (.slice none 0 0) ∧ w'.cell? ⟨g2, i * 9 + 2 + 5, none⟩ = some (.slice a4 n4 c4) ∧ w'.cell? ⟨g2, i * 9 + 2 + 6, none⟩ = some (.slice b4 m4 d4)) (first | assumption | exact HZ.out | go_keep)
        (first
          | (go_at_call 25; refine (AN.out _ ?_).mono ?_; assumption; rintro e w1 ⟨rfl, hw1, hS1⟩)
          | (go_at_call 26; refine (AS.out _ ?_).mono ?_; assumption; rintro e w1 ⟨rfl, hw1, hS1⟩))
      all_goals
        have HW1 := hide hw1
        clear hw1 hS1
        go_wp2_with fail
        go_roundw
        case rel => exact ⟨i + 1, by omega, by go_num, HW1.out.below⟩
        case measure => simp [intOf]; omega
    · go_wp2_with fail
      go_ret
      exact ⟨rfl, HB.out⟩

end Go.Proofs.YtodolmdiebgmjaaDoor
