/- The document's 'SameFns', walked where both are the same. -/
import Derived.Test.YtmjpfiecgkoaeaaR4
namespace Go.Proofs.Ytmjpfiecgkoaeaa
open Go.RowKit Go.Maps Go.WideMaps

set_option maxHeartbeats 4000000 in
theorem rsameFns_eq (k B1 B2 : Nat) (v1 v2 : Value) (l : List (Pu.Fn k)) (w : World) (h1 : Fns k B1 w v1 l) (h2 : Fns k B2 w v2 l) (hB1 : B1 ≤ w.heap.size) (hB2 : B2 ≤ w.heap.size) :
    Calls Try.prog 8 #[v1, v2] w fun e w' => e = .returned (.bool true) ∧ Fr No w w' := by
  have hform1 : ∃ a cap, v1 = .slice a l.length cap ∧ l.length ≤ cap ∧ cap ≤ maxLen := by obtain ⟨acs, hr, _⟩ := h1; exact hr.form
  have hform2 : ∃ a cap, v2 = .slice a l.length cap ∧ l.length ≤ cap ∧ cap ≤ maxLen := by obtain ⟨acs, hr, _⟩ := h2; exact hr.form
  obtain ⟨a1, c1, rfl, hc1, hc1'⟩ := hform1
  obtain ⟨a2, c2, rfl, hc2, hc2'⟩ := hform2
  unfold maxLen at hc1' hc2'
  have H1 := hide h1
  have H2 := hide h2
  clear h1 h2
  go_enter Try.func8, Try.ntmps8
  go_wp2_with fail
  go_loopw [13] (fun q wr => ∃ i : Nat, i ≤ l.length ∧ q = .int .i64 i ∧ Fr No w wr) (fun q _ => l.length - (intOf q).toNat)
  case atStart => exact ⟨0, Nat.zero_le _, rfl, Fr.refl _ _⟩
  case round =>
    obtain ⟨i, hi, rfl, hf⟩ := hrel
    have hszw := hf.size
    by_cases hlt : i < l.length
    · have ho1 : Old B1 w wr := hf.old hB1 (fun _ _ e => e)
      have ho2 : Old B2 w wr := hf.old hB2 (fun _ _ e => e)
      obtain ⟨g, o, cap, ag, an, ac, kd1, n1, x1, y1, p0, p1, p2, p3, p4, p5, p6, p7, p8, hav, _, hg, hgw, hnm, han, hzn, hrt, hcell⟩ := fns_at H1.out i hlt
      injection hav with hav1 _ hav2
      subst hav1 hav2
      obtain ⟨g', o', cap', ag', an', ac', kd2, n2, x2, y2, r0, r1, r2, r3, r4, r5, r6, r7, r8, hav', _, hg', hgw', hnm', han', hzn', hrt', hcell'⟩ := fns_at H2.out i hlt
      injection hav' with hav1 _ hav2
      subst hav1 hav2
      obtain ⟨z, hz⟩ : ∃ z, z = l[i].1 := ⟨_, rfl⟩
      rw [← hz] at hcell hcell'
      have SA : Hid (∀ w' : World, Fr No wr w' → (w'.cell? ⟨g, o + i * 9, none⟩ = some (.string z) ∧ w'.cell? ⟨g, o + i * 9 + 1, none⟩ = some (.slice ag an ac) ∧ w'.cell? ⟨g, o + i * 9 + 2, none⟩ = some (.int .i64 kd1) ∧ w'.cell? ⟨g, o + i * 9 + 2 + 1, none⟩ = some (.int .i64 n1) ∧ w'.cell? ⟨g, o + i * 9 + 2 + 2, none⟩ = some (.string x1) ∧ w'.cell? ⟨g, o + i * 9 + 2 + 3, none⟩ = some (.string y1) ∧ w'.cell? ⟨g, o + i * 9 + 2 + 4, none⟩ = some (.slice p0 p1 p2) ∧ w'.cell? ⟨g, o + i * 9 + 2 + 5, none⟩ = some (.slice p3 p4 p5) ∧ w'.cell? ⟨g, o + i * 9 + 2 + 6, none⟩ = some (.slice p6 p7 p8) ∧ w'.cell? ⟨g', o' + i * 9, none⟩ = some (.string z) ∧ w'.cell? ⟨g', o' + i * 9 + 1, none⟩ = some (.slice ag' an' ac') ∧ w'.cell? ⟨g', o' + i * 9 + 2, none⟩ = some (.int .i64 kd2) ∧ w'.cell? ⟨g', o' + i * 9 + 2 + 1, none⟩ = some (.int .i64 n2) ∧ w'.cell? ⟨g', o' + i * 9 + 2 + 2, none⟩ = some (.string x2) ∧ w'.cell? ⟨g', o' + i * 9 + 2 + 3, none⟩ = some (.string y2) ∧ w'.cell? ⟨g', o' + i * 9 + 2 + 4, none⟩ = some (.slice r0 r1 r2) ∧ w'.cell? ⟨g', o' + i * 9 + 2 + 5, none⟩ = some (.slice r3 r4 r5) ∧ w'.cell? ⟨g', o' + i * 9 + 2 + 6, none⟩ = some (.slice r6 r7 r8))) := fun w' hw' => by
        have hq : ∀ j, j < 9 → w'.cell? ⟨g, o + i * 9 + j, none⟩ = [Value.string z, .slice ag an ac, .int .i64 kd1, .int .i64 n1, .string x1, .string y1, .slice p0 p1 p2, .slice p3 p4 p5, .slice p6 p7 p8][j]? := fun j hj => by
          rw [(ho1.trans (hw'.old (by omega) (fun _ _ e => e))).cell (a := ⟨g, o + i * 9 + j, none⟩) hg]; exact hcell j hj
        have hp : ∀ j, j < 9 → w'.cell? ⟨g', o' + i * 9 + j, none⟩ = [Value.string z, .slice ag' an' ac', .int .i64 kd2, .int .i64 n2, .string x2, .string y2, .slice r0 r1 r2, .slice r3 r4 r5, .slice r6 r7 r8][j]? := fun j hj => by
          rw [(ho2.trans (hw'.old (by omega) (fun _ _ e => e))).cell (a := ⟨g', o' + i * 9 + j, none⟩) hg']; exact hcell' j hj
        exact ⟨hq 0 (by omega), hq 1 (by omega), hq 2 (by omega), hq 3 (by omega), hq 4 (by omega), hq 5 (by omega), hq 6 (by omega), hq 7 (by omega), hq 8 (by omega), hp 0 (by omega), hp 1 (by omega), hp 2 (by omega), hp 3 (by omega), hp 4 (by omega), hp 5 (by omega), hp 6 (by omega), hp 7 (by omega), hp 8 (by omega)⟩
      have AN : Hid (∀ W, Fr No wr W → Calls Try.prog 13 #[.slice ag an ac, .slice ag' an' ac'] W fun e w' => e = .returned (.bool true) ∧ Fr No wr w' ∧ (w'.cell? ⟨g, o + i * 9, none⟩ = some (.string z) ∧ w'.cell? ⟨g, o + i * 9 + 1, none⟩ = some (.slice ag an ac) ∧ w'.cell? ⟨g, o + i * 9 + 2, none⟩ = some (.int .i64 kd1) ∧ w'.cell? ⟨g, o + i * 9 + 2 + 1, none⟩ = some (.int .i64 n1) ∧ w'.cell? ⟨g, o + i * 9 + 2 + 2, none⟩ = some (.string x1) ∧ w'.cell? ⟨g, o + i * 9 + 2 + 3, none⟩ = some (.string y1) ∧ w'.cell? ⟨g, o + i * 9 + 2 + 4, none⟩ = some (.slice p0 p1 p2) ∧ w'.cell? ⟨g, o + i * 9 + 2 + 5, none⟩ = some (.slice p3 p4 p5) ∧ w'.cell? ⟨g, o + i * 9 + 2 + 6, none⟩ = some (.slice p6 p7 p8) ∧ w'.cell? ⟨g', o' + i * 9, none⟩ = some (.string z) ∧ w'.cell? ⟨g', o' + i * 9 + 1, none⟩ = some (.slice ag' an' ac') ∧ w'.cell? ⟨g', o' + i * 9 + 2, none⟩ = some (.int .i64 kd2) ∧ w'.cell? ⟨g', o' + i * 9 + 2 + 1, none⟩ = some (.int .i64 n2) ∧ w'.cell? ⟨g', o' + i * 9 + 2 + 2, none⟩ = some (.string x2) ∧ w'.cell? ⟨g', o' + i * 9 + 2 + 3, none⟩ = some (.string y2) ∧ w'.cell? ⟨g', o' + i * 9 + 2 + 4, none⟩ = some (.slice r0 r1 r2) ∧ w'.cell? ⟨g', o' + i * 9 + 2 + 5, none⟩ = some (.slice r3 r4 r5) ∧ w'.cell? ⟨g', o' + i * 9 + 2 + 6, none⟩ = some (.slice r6 r7 r8))) := fun W hW => by
        refine (sameNames_any B1 B2 _ _ _ _ W ((hnm.fr hf).fr hW) ((hnm'.fr hf).fr hW)).mono ?_
        rintro e w' ⟨he, h1⟩
        exact ⟨by rw [he]; simp, hW.trans h1, SA.out _ (hW.trans h1)⟩
      have AS : Hid (∀ W, Fr No wr W → Calls Try.prog 6 #[.agg #[.int .i64 kd1, .int .i64 n1, .string x1, .string y1, .slice p0 p1 p2, .slice p3 p4 p5, .slice p6 p7 p8], .agg #[.int .i64 kd2, .int .i64 n2, .string x2, .string y2, .slice r0 r1 r2, .slice r3 r4 r5, .slice r6 r7 r8]] W fun e w' => e = .returned (.bool true) ∧ Fr No wr w' ∧ (w'.cell? ⟨g, o + i * 9, none⟩ = some (.string z) ∧ w'.cell? ⟨g, o + i * 9 + 1, none⟩ = some (.slice ag an ac) ∧ w'.cell? ⟨g, o + i * 9 + 2, none⟩ = some (.int .i64 kd1) ∧ w'.cell? ⟨g, o + i * 9 + 2 + 1, none⟩ = some (.int .i64 n1) ∧ w'.cell? ⟨g, o + i * 9 + 2 + 2, none⟩ = some (.string x1) ∧ w'.cell? ⟨g, o + i * 9 + 2 + 3, none⟩ = some (.string y1) ∧ w'.cell? ⟨g, o + i * 9 + 2 + 4, none⟩ = some (.slice p0 p1 p2) ∧ w'.cell? ⟨g, o + i * 9 + 2 + 5, none⟩ = some (.slice p3 p4 p5) ∧ w'.cell? ⟨g, o + i * 9 + 2 + 6, none⟩ = some (.slice p6 p7 p8) ∧ w'.cell? ⟨g', o' + i * 9, none⟩ = some (.string z) ∧ w'.cell? ⟨g', o' + i * 9 + 1, none⟩ = some (.slice ag' an' ac') ∧ w'.cell? ⟨g', o' + i * 9 + 2, none⟩ = some (.int .i64 kd2) ∧ w'.cell? ⟨g', o' + i * 9 + 2 + 1, none⟩ = some (.int .i64 n2) ∧ w'.cell? ⟨g', o' + i * 9 + 2 + 2, none⟩ = some (.string x2) ∧ w'.cell? ⟨g', o' + i * 9 + 2 + 3, none⟩ = some (.string y2) ∧ w'.cell? ⟨g', o' + i * 9 + 2 + 4, none⟩ = some (.slice r0 r1 r2) ∧ w'.cell? ⟨g', o' + i * 9 + 2 + 5, none⟩ = some (.slice r3 r4 r5) ∧ w'.cell? ⟨g', o' + i * 9 + 2 + 6, none⟩ = some (.slice r6 r7 r8))) := fun W hW => by
        refine (rsame_all k B1 B2 W _ _ l[i].2.2 l[i].2.2 ((hrt.fr hB1 hf).fr (by omega) hW) ((hrt'.fr hB2 hf).fr (by omega) hW) (by have := hW.size; omega) (by have := hW.size; omega)).mono ?_
        rintro e w' ⟨he, h1⟩
        exact ⟨by rw [he, Pu.same_refl], hW.trans h1, SA.out _ (hW.trans h1)⟩
      have D0 : Fr No wr wr.drew := (Fr.refl No wr).drew
      have HZ := hide (SA.out wr.drew D0)
      have HF := hide hf
      clear hrt hrt' hcell hcell' hf ho1 ho2 hnm hnm' han han' hz hzn hzn'
      have i1 : (i : Int) < (l.length : Int) := by omega
      have i0 : (0 : Int) ≤ (i : Int) := by omega
      go_wp2_with fail
      go_region_held3 (fun w' : World => w'.cell? ⟨g, o + i * 9, none⟩ = some (.string z) ∧ w'.cell? ⟨g, o + i * 9 + 1, none⟩ = some (.slice ag an ac) ∧ w'.cell? ⟨g, o + i * 9 + 2, none⟩ = some (.int .i64 kd1) ∧ w'.cell? ⟨g, o + i * 9 + 2 + 1, none⟩ = some (.int .i64 n1) ∧ w'.cell? ⟨g, o + i * 9 + 2 + 2, none⟩ = some (.string x1) ∧ w'.cell? ⟨g, o + i * 9 + 2 + 3, none⟩ = some (.string y1) ∧ w'.cell? ⟨g, o + i * 9 + 2 + 4, none⟩ = some (.slice p0 p1 p2) ∧ w'.cell? ⟨g, o + i * 9 + 2 + 5, none⟩ = some (.slice p3 p4 p5) ∧ w'.cell? ⟨g, o + i * 9 + 2 + 6, none⟩ = some (.slice p6 p7 p8) ∧ w'.cell? ⟨g', o' + i * 9, none⟩ = some (.string z) ∧ w'.cell? ⟨g', o' + i * 9 + 1, none⟩ = some (.slice ag' an' ac') ∧ w'.cell? ⟨g', o' + i * 9 + 2, none⟩ = some (.int .i64 kd2) ∧ w'.cell? ⟨g', o' + i * 9 + 2 + 1, none⟩ = some (.int .i64 n2) ∧ w'.cell? ⟨g', o' + i * 9 + 2 + 2, none⟩ = some (.string x2) ∧ w'.cell? ⟨g', o' + i * 9 + 2 + 3, none⟩ = some (.string y2) ∧ w'.cell? ⟨g', o' + i * 9 + 2 + 4, none⟩ = some (.slice r0 r1 r2) ∧ w'.cell? ⟨g', o' + i * 9 + 2 + 5, none⟩ = some (.slice r3 r4 r5) ∧ w'.cell? ⟨g', o' + i * 9 + 2 + 6, none⟩ = some (.slice r6 r7 r8)) (first | with_reducible assumption | with_reducible exact HZ.out)
        (first
          | (go_at_call 13; refine (AN.out _ ?_).mono ?_; (first | with_reducible assumption | exact D0); rintro e w5 ⟨rfl, hf5, hz5⟩)
          | (go_at_call 6; refine (AS.out _ ?_).mono ?_; (first | with_reducible assumption | exact D0); rintro e w6 ⟨rfl, hf6, hz6⟩))
      have F6 := hide hf6
      clear hf6 hz6 hf5 hz5
      go_wp2_with fail
      go_roundw
      case rel => exact ⟨i + 1, by omega, by go_num, HF.out.trans F6.out⟩
      case measure => simp [intOf]; omega
    · have HF := hide hf
      clear hf
      go_wp2_with fail
      go_ret
      exact ⟨rfl, HF.out⟩
end Go.Proofs.Ytmjpfiecgkoaeaa
