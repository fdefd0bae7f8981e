/- 'alive', walked. -/
import Derived.Test.YtodolmdiebgmjaaDoorY3
import Derived.Test.YtodolmdiebgmjaaDoorQ5
namespace Go.Proofs.YtodolmdiebgmjaaDoor
open Go.RowKit

theorem parse_call (s : ByteArray) (w : World) (hs : s.size ≤ maxLen) (he : Env w) (h3 : 3 ≤ w.heap.size) :
    Calls Tryd.prog 6 #[.string s] w fun e w' => ∃ a c, e = .returned (.tuple #[.slice a (Pu.parse s).1.length c, .int .i64 (Pu.parse s).2]) ∧ ∃ xs, Row (From w.heap.size) w' 35 9 (.slice a (Pu.parse s).1.length c) (Pu.parse s).1.length xs ∧ Each 9 (RF (From w.heap.size) w') xs (Pu.parse s).1 ∧ Below w.heap.size w w' :=
  (show Calls Tryd.prog 6 #[.string s] w _ from parse_any s w hs he h3).mono fun _ _ ⟨v, hv, xs, ho, hE, hb⟩ => by
    obtain ⟨a, c, hf⟩ := (Row.of_owns ho).form
    subst hf
    exact ⟨a, c, hv, xs, Row.of_owns ho, hE, hb⟩
theorem parseA_call (w : World) (he : Env w) (h3 : 3 ≤ w.heap.size) :
    Calls Tryd.prog 6 #[.string ⟨#[40, 102, 110, 32, 102, 32, 40, 120, 41, 32, 40, 108, 101, 116, 32, 121, 32, 40, 35, 49, 32, 120, 32, 50, 41, 32, 40, 109, 97, 116, 99, 104, 32, 121, 32, 40, 40, 35, 49, 32, 40, 97, 32, 98, 41, 41, 32, 40, 43, 32, 97, 32, 98, 41, 41, 41, 41, 41]⟩] w fun e w' => ∃ a c, e = .returned (.tuple #[.slice a 0 c, .int .i64 2]) ∧ Below w.heap.size w w' :=
  (parse_call Pu.sA w (by decide) he h3).mono fun _ _ ⟨a, c, h1, xs, h2, h4, h5⟩ => by
    rw [Pu.parse_A] at h1
    exact ⟨a, c, h1, h5⟩
theorem parseB_call (w : World) (he : Env w) (h3 : 3 ≤ w.heap.size) :
    Calls Tryd.prog 6 #[.string ⟨#[40, 102, 110, 32, 102, 32, 40, 120, 41, 32, 40, 43, 32, 120, 32, 49, 41, 41]⟩] w fun e w' => ∃ a c, e = .returned (.tuple #[.slice a 1 c, .int .i64 0]) ∧ ∃ xs, Row (From w.heap.size) w' 35 9 (.slice a 1 c) 1 xs ∧ Each 9 (RF (From w.heap.size) w') xs [(Pu.mkB [102], [Pu.mkB [120]], Pu.tB)] ∧ Below w.heap.size w w' :=
  (parse_call Pu.sB w (by decide) he h3).mono fun _ _ ⟨a, c, h1, xs, h2, h4, h5⟩ => by
    rw [Pu.parse_B] at h1 h2 h4
    exact ⟨a, c, h1, xs, h2, h4, h5⟩

theorem row_lt {S : Nat → Prop} {w : World} : Stays S (Lt w.heap.size) w w := fun _ _ hl => ⟨hl, rfl⟩

theorem isName_a1 : Pu.isName ⟨#[97, 49]⟩ = true := rfl
theorem isName_A : Pu.isName ⟨#[65]⟩ = false := rfl
theorem good_B : Pu.Good 26 Pu.tB := Pu.parse_good Pu.sB (Pu.mkB [102], [Pu.mkB [120]], Pu.tB) (by rw [Pu.parse_B]; simp)

set_option maxHeartbeats 1000000 in
theorem alive_any (w : World) (he : Env w) (h3 : 3 ≤ w.heap.size) :
    Calls Tryd.prog 15 #[] w fun e w' => e = .returned (.bool true) ∧ Below w.heap.size w w' := by
  have HE := hide he
  clear he
  go_enter Tryd.func15, Tryd.ntmps15
  go_wp2_with fail
  refine (parseA_call _ HE.out h3).mono ?_
  rintro e w1 ⟨a1, c1, rfl, hb1⟩
  have HB1 := hide hb1
  have hs1 := hb1.size
  have HE1 := hide (HE.out.below hb1 h3)
  clear hb1
  go_wp2_with fail
  refine (parseB_call _ HE1.out (by omega)).mono ?_
  rintro e w2 ⟨a2, c2, rfl, xs, hrow, heach, hb2⟩
  have HB2 := hide (HB1.out.trans (hb2.mono hs1))
  have hs2 := Nat.le_trans hs1 hb2.size
  have HE2 := hide (HE.out.below HB2.out h3)
  have HR := hide (hrow.kept row_lt)
  have HC := hide (heach.mono fun c f hf => RF.kept row_lt hf)
  clear hb2 hrow heach
  go_wp2_with fail
  refine (print_any a2 1 c2 [(Pu.mkB [102], [Pu.mkB [120]], Pu.tB)] xs _ HR.out HC.out (fun f hf => by simp at hf; subst hf; exact good_B) HE2.out (by omega) (by rw [Pu.print_B]; decide)).mono ?_
  rintro e w3 ⟨rfl, hb3⟩
  rw [Pu.print_B]
  have HB3 := hide hb3
  have hs3 := hb3.size
  clear hb3
  go_wp2_with fail
  refine (Name_any ⟨#[97, 49]⟩ _ (by decide)).mono ?_
  rintro e w4 ⟨rfl, hw4⟩
  obtain rfl := hw4.symm
  rw [isName_a1]
  go_wp2_with fail
  refine (Name_any ⟨#[65]⟩ _ (by decide)).mono ?_
  rintro e w4 ⟨rfl, hw4⟩
  obtain rfl := hw4.symm
  rw [isName_A]
  obtain ⟨g, cap, hv, hg, _, hc1, hc2, hcell⟩ := HR.out.cells (by omega)
  injection hv with hv1 _ hv2
  subst hv1 hv2
  obtain ⟨ck, _, ⟨vv, bb, rfl, hvr, _, hrt⟩, hxs⟩ := HC.out.get 0 _ rfl
  obtain ⟨kd3, nn3, x3, a3, n3, c3, b3, m3, d3, rfl⟩ := hrt.form
  have hcw : ∀ j, j < 9 → w3.cell? ⟨g, j, none⟩ = (Value.string (Pu.mkB [102]) :: vv :: [.int .i64 kd3, .int .i64 nn3, .string x3, .string ⟨#[]⟩, .slice none 0 0, .slice a3 n3 c3, .slice b3 m3 d3])[j]? := by
    intro j hj
    rw [HB3.out.cell (p := ⟨g, j, none⟩) hg, hcell _ (by omega)]
    have := hxs j hj
    rw [Nat.zero_mul, Nat.zero_add] at this
    exact this
  have e2 := hcw 2 (by omega)
  have e3 := hcw 3 (by omega)
  have e4 := hcw 4 (by omega)
  have e5 := hcw 5 (by omega)
  have e6 := hcw 6 (by omega)
  have e7 := hcw 7 (by omega)
  have e8 := hcw 8 (by omega)
  have HT := hide (RT.kept (S' := Lt w3.heap.size) (fun g hg hl => ⟨Nat.lt_of_lt_of_le hl hs3, HB3.out.block g hl⟩) hrt)
  clear hcw hcell hxs hrt hvr
  unfold maxLen at hc2
  go_wp2_with fail
  refine (term_any _ Pu.tB _ HT.out good_B (HE2.out.below HB3.out (by omega)) (by omega) (by rw [Pu.show_B]; decide)).mono ?_
  rintro e w5 ⟨rfl, hb5⟩
  rw [Pu.show_B]
  have HB5 := hide hb5
  clear hb5
  go_wp2_with fail
  go_ret
  exact ⟨rfl, (HB2.out.trans (HB3.out.mono hs2)).trans (HB5.out.mono (by omega))⟩

end Go.Proofs.YtodolmdiebgmjaaDoor
