/- 'function', walked. -/
import Derived.Test.YtodolmdiebgmjaaDoorW6
namespace Go.Proofs.YtodolmdiebgmjaaDoor
open Go.RowKit

theorem Fr.set9 {B : Nat} {a w : World} {R : Nat} {g a0 a1 a2 a3 a4 a5 a6 a7 a8 : Nat} {u0 u1 u2 u3 u4 u5 u6 u7 u8 : Value} (h : Fr B R a w) (hg : B ≤ g) :
    Fr B R a (((((((((w.setCell ⟨g, a0, none⟩ u0).setCell ⟨g, a1, none⟩ u1).setCell ⟨g, a2, none⟩ u2).setCell ⟨g, a3, none⟩ u3).setCell ⟨g, a4, none⟩ u4).setCell ⟨g, a5, none⟩ u5).setCell ⟨g, a6, none⟩ u6).setCell ⟨g, a7, none⟩ u7).setCell ⟨g, a8, none⟩ u8) :=
  ((h.set7 hg).setCell' hg).setCell' hg
theorem Ok.set9 {B : Nat} {w : World} {R : Nat} {s : Pu.St} {g a0 a1 a2 a3 a4 a5 a6 a7 a8 : Nat} {u0 u1 u2 u3 u4 u5 u6 u7 u8 : Value} (h : Ok B w R s) (hg : B ≤ g) :
    Ok B (((((((((w.setCell ⟨g, a0, none⟩ u0).setCell ⟨g, a1, none⟩ u1).setCell ⟨g, a2, none⟩ u2).setCell ⟨g, a3, none⟩ u3).setCell ⟨g, a4, none⟩ u4).setCell ⟨g, a5, none⟩ u5).setCell ⟨g, a6, none⟩ u6).setCell ⟨g, a7, none⟩ u7).setCell ⟨g, a8, none⟩ u8) R s :=
  ((h.set7 hg).setCell hg).setCell hg
theorem stays_set9 {S : Nat → Prop} {w : World} {g a0 a1 a2 a3 a4 a5 a6 a7 a8 : Nat} {u0 u1 u2 u3 u4 u5 u6 u7 u8 : Value} (hg : ¬ S g) :
    Stays S S w (((((((((w.setCell ⟨g, a0, none⟩ u0).setCell ⟨g, a1, none⟩ u1).setCell ⟨g, a2, none⟩ u2).setCell ⟨g, a3, none⟩ u3).setCell ⟨g, a4, none⟩ u4).setCell ⟨g, a5, none⟩ u5).setCell ⟨g, a6, none⟩ u6).setCell ⟨g, a7, none⟩ u7).setCell ⟨g, a8, none⟩ u8) :=
  ((stays_set7 hg).trans (stays_set hg) (by rw [size_set7]; exact Nat.le_refl _)).trans (stays_set hg) (by rw [size_set, size_set7]; exact Nat.le_refl _)

theorem term26 (B R : Nat) (s : Pu.St) (w : World) (h : Ok B w R s) : Calls Tryd.prog 40 #[.pointer (some ⟨R, 0, none⟩), .int .i64 0] w fun e w' =>
    ∃ cs : List Value, e = .returned (.agg cs.toArray) ∧ RT 26 (From w.heap.size) w' cs (Pu.term 26 s).1 ∧ Ok B w' R (Pu.term 26 s).2 ∧ Fr w.heap.size R w w' := term_all 25 B R s 0 w h rfl

set_option maxHeartbeats 1000000 in
theorem function_ok (B R : Nat) (s : Pu.St) (w : World) (h : Ok B w R s) :
    Calls Tryd.prog 18 #[.pointer (some ⟨R, 0, none⟩)] w fun e w' => ∃ cs : List Value, e = .returned (.agg cs.toArray) ∧ RF (From w.heap.size) w' cs (Pu.function s).1 ∧ Ok B w' R (Pu.function s).2 ∧ Fr w.heap.size R w w' := by
  have H := hide h
  clear h
  go_enter Tryd.func18, Tryd.ntmps18
  go_wp2_with fail
  refine (expect_ok B R _ _ _ H.out.alloc.alloc).mono ?_
  rintro e w1 ⟨rfl, hr1, hf1⟩
  have H1 := hide hr1
  have hRb : R < w.heap.size := H.out.lt
  have hB1 : B ≤ w.heap.size + 1 := by have := H.out.bw; omega
  obtain ⟨b0, b1⟩ := two_blocks hf1 hRb
  obtain ⟨G1, z1⟩ := hf1.of_two
  have HB0 := hide b0
  have HB1 := hide b1
  have HG1 := hide G1
  clear hr1 b0 b1 G1 hf1
  go_wp2_with fail
  refine (expect_ok B R _ _ _ H1.out).mono ?_
  rintro e w2 ⟨rfl, hr2, hf2⟩
  have H2 := hide hr2
  clear hr2
  go_wp2_with fail
  refine (next_ok B R _ _ H2.out).mono ?_
  rintro e w3 ⟨rfl, hr3, hf3⟩
  have H3 := hide hr3
  clear hr3
  go_wp2_with fail
  refine (name_ok B R _ _ _ H3.out H2.out.next_size).mono ?_
  rintro e w4 ⟨rfl, hr4, hf4⟩
  have H4 := hide hr4
  have HG4 := hide (((HG1.out.on hf2 (Nat.le_refl _)).on hf3 (Nat.le_refl _)).on hf4 (Nat.le_refl _))
  have HB0 := hide (block_later (block_later (block_later HB0.out hf2 (by omega)) hf3 (by omega)) hf4 (by omega))
  have HB1 := hide (block_later (block_later (block_later HB1.out hf2 (by omega)) hf3 (by omega)) hf4 (by omega))
  have x4 : w.heap.size + 2 ≤ w4.heap.size := by have := hf2.size; have := hf3.size; have := hf4.size; omega
  clear hr4 hf2 hf3 hf4 z1
  obtain ⟨c1, q1⟩ := box_facts HB1.out
  go_wp2_with fail
  clear c1 q1
  refine (names_ok B R _ _ (H4.out.setCell hB1)).mono ?_
  rintro e w5 ⟨v, rfl, hn, hr5, hf5⟩
  obtain ⟨an, cn, rfl⟩ := (Row.of_owns hn).form
  rw [size_set] at hn
  have H5 := hide hr5
  have N5 := hide hn
  have F5 := hide hf5
  have HG5 := hide ((HG4.out.setCell' (p := ⟨w.heap.size + 1, 0, none⟩) (Nat.le_succ _)).on hf5 (Nat.le_refl _))
  have HB1 := hide (block_later (heap_set_lit HB1.out rfl) hf5 (by omega))
  have HB0 := hide (block_later (g := w.heap.size) (by rw [Below.heap_setCell _ _ _ _ (by show w.heap.size ≠ w.heap.size + 1; omega)]; exact HB0.out) hf5 (by omega))
  have x5 : w4.heap.size ≤ w5.heap.size := by have := hf5.size; rw [size_set] at this; exact this
  clear hr5 hf5 hn
  obtain ⟨c1, q1⟩ := box_facts HB1.out
  go_wp2_with fail
  clear c1 q1
  refine (term26 B R _ _ (H5.out.setCell hB1)).mono ?_
  rintro e w6 ⟨cs, rfl, hrt, hr6, hf6⟩
  obtain ⟨kd, nn, x, a1, n1, e1, a2, n2, e2, rfl⟩ := hrt.form
  rw [size_set] at hrt
  have H6 := hide hr6
  have R6 := hide hrt
  have F6 := hide hf6
  have HG6 := hide ((HG5.out.setCell' (p := ⟨w.heap.size + 1, 1, none⟩) (Nat.le_succ _)).on hf6 (Nat.le_refl _))
  have HB1 := hide (block_later (heap_set_lit HB1.out rfl) hf6 (by omega))
  have HB0 := hide (block_later (g := w.heap.size) (by rw [Below.heap_setCell _ _ _ _ (by show w.heap.size ≠ w.heap.size + 1; omega)]; exact HB0.out) hf6 (by omega))
  have x6 : w5.heap.size ≤ w6.heap.size := by have := hf6.size; rw [size_set] at this; exact this
  clear hr6 hf6 hrt
  obtain ⟨c1, q1⟩ := box_facts HB1.out
  go_wp2_with fail
  clear c1 q1
  refine (expect_ok B R _ _ _ (H6.out.set7 hB1)).mono ?_
  rintro e w7 ⟨rfl, hr7, hf7⟩
  have H7 := hide hr7
  have F7 := hide hf7
  have HG7 := hide ((HG6.out.set7 (g := w.heap.size + 1) (Nat.le_succ _)).on hf7 (Nat.le_refl _))
  have HB1 := hide (block_later (heap_set_lit (heap_set_lit (heap_set_lit (heap_set_lit (heap_set_lit (heap_set_lit (heap_set_lit HB1.out rfl) rfl) rfl) rfl) rfl) rfl) rfl) hf7 (by omega))
  have HB0 := hide (block_later (g := w.heap.size) (by rw [set7_other (by omega)]; exact HB0.out) hf7 (by omega))
  have x7 : w6.heap.size ≤ w7.heap.size := by have := hf7.size; rw [size_set7] at this; exact this
  clear hr7 hf7
  obtain ⟨c1, q1⟩ := box_facts HB1.out
  obtain ⟨c0, q0⟩ := box_facts HB0.out
  go_wp2_with fail
  refine bodyPost_ret (v := .agg (.string (Pu.function s).1.1 :: .slice an (Pu.function s).1.2.1.length cn :: [.int .i64 kd, .int .i64 nn, .string x, .string ⟨#[]⟩, .slice none 0 0, .slice a1 n1 e1, .slice a2 n2 e2]).toArray) (by simp [results, Tryd.results18, go_sem, c0, Pu.function]) rfl ⟨_, rfl, ?_, ?_, ?_⟩
  · have st7 : ∀ X, w.heap.size + 1 < X → Stays (From X) (From X) w6 w7 := fun X hX =>
      (stays_set7 (by show ¬ X ≤ w.heap.size + 1; omega)).trans (stays_fr F7.out (by omega) (Nat.le_refl _)) (by rw [size_set7]; exact Nat.le_refl _)
    have st6 : ∀ X, w.heap.size + 1 < X → Stays (From X) (From X) w5 w6 := fun X hX =>
      (stays_set (by show ¬ X ≤ w.heap.size + 1; omega)).trans (stays_fr F6.out (by omega) (Nat.le_refl _)) (by rw [size_set]; exact Nat.le_refl _)
    have stw : ∀ (X : Nat) (a b : World), w.heap.size ≤ X → Stays (From X) (From X) a b → Stays (From X) (From w.heap.size) a b := fun X a b hX hs g hg hl => ⟨Nat.le_trans hX hg, (hs g hg hl).2⟩
    refine ⟨_, _, rfl, ?_, rfl, ?_⟩
    · exact (((Row.of_owns N5.out).kept (st6 _ (by omega))).kept (st7 _ (by omega))).kept (stw _ _ _ (by omega) (stays_set9 (by show ¬ w4.heap.size ≤ w.heap.size; omega)))
    · exact RT.kept (stw _ _ _ (by omega) (stays_set9 (by show ¬ w5.heap.size ≤ w.heap.size; omega))) (RT.kept (st7 _ (by omega)) R6.out)
  · exact H7.out.set9 H.out.bw
  · exact HG7.out.set9 (Nat.le_refl _)

end Go.Proofs.YtodolmdiebgmjaaDoor
