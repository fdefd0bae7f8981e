/- 'TextTurns', walked. -/
import Derived.Test.YtodolmdiebgmjaaDoorY5
import Derived.Test.YtodolmdiebgmjaaDoorQ7
namespace Go.Proofs.YtodolmdiebgmjaaDoor
open Go.RowKit

/-- Print of what was read: a text that is read again as it was, if there is room for it. -/
theorem print_read (s : ByteArray) (hA : (Pu.parse s).2 = 0) (a0 : Option Addr) (c0 : Nat) (xs : List Value) (w : World)
    (hrow : Row (Lt w.heap.size) w 35 9 (.slice a0 (Pu.parse s).1.length c0) (Pu.parse s).1.length xs) (heach : Each 9 (RF (Lt w.heap.size) w) xs (Pu.parse s).1) (he : Env w) (h3 : 3 ≤ w.heap.size) :
    Calls Tryd.prog 11 #[.slice a0 (Pu.parse s).1.length c0] w fun e w' => ∃ p, e = .returned (.string p) ∧ p.size ≤ 1000000000 ∧ Pu.parse p = (if 1500 < p.size then ([], 4) else ((Pu.parse s).1, 0)) ∧ Below w.heap.size w w' :=
  (print_any a0 _ c0 (Pu.parse s).1 xs w hrow heach (fun f hf => Pu.parse_good s f hf) he h3 (Pu.printed_len s hA)).mono fun e w' ⟨h1, h2⟩ => by
    have hz : (Pu.mkB (Pu.printB (Pu.parse s).1)).size = (Pu.printB (Pu.parse s).1).length := by rw [← Pu.lenB, Pu.data_mkB]
    refine ⟨Pu.mkB (Pu.printB (Pu.parse s).1), h1, ?_, ?_, h2⟩
    · rw [hz]; exact Pu.printed_len s hA
    · rw [hz]; exact Pu.parse_printed s hA

theorem bad_len (s : ByteArray) (h : ¬ (Pu.parse s).2 = 0) : (Pu.parse s).1.length = 0 := by rw [Pu.parse_bad s h]; rfl

set_option maxHeartbeats 1000000 in
theorem textTurns_any (s : ByteArray) (w : World) (hs : s.size ≤ maxLen) (he : Env w) (h3 : 3 ≤ w.heap.size) :
    Calls Tryd.prog 4 #[.string s] w fun e w' => e = .returned (.bool true) ∧ Below w.heap.size w w' := by
  have HE := hide he
  have HS := hide hs
  clear he hs
  go_enter Tryd.func4, Tryd.ntmps4
  go_wp2_with fail
  refine (alive_any _ HE.out h3).mono ?_
  rintro e w1 ⟨rfl, hb1⟩
  have HB1 := hide hb1
  have hs1 := hb1.size
  have HE1 := hide (HE.out.below hb1 h3)
  clear hb1
  go_wp2_with fail
  refine (parse_call s _ HS.out HE1.out (by omega)).mono ?_
  rintro e w2 ⟨a2, c2, rfl, xa, hrow2, heach2, hb2⟩
  have HR2 := hide (hrow2.kept row_lt)
  have HC2 := hide (heach2.mono fun c f hf => RF.kept row_lt hf)
  have HB2 := hide (HB1.out.trans (hb2.mono hs1))
  have hs2 := Nat.le_trans hs1 hb2.size
  have HE2 := hide (HE1.out.below hb2 (by omega))
  clear hrow2 heach2 hb2
  by_cases hA : (Pu.parse s).2 = 0
  · have HA := hide hA
    have hN := Pu.parse_len s
    have qA : ((Pu.parse s).2 != 0) = false := by simp [hA]
    clear hA
    go_wp2_with fail
    refine (print_read s HA.out a2 c2 xa w2 HR2.out HC2.out HE2.out (by omega)).mono ?_
    rintro e w3 ⟨p, rfl, hp, hP, hb3⟩
    have HB3 := hide hb3
    have hs3 := hb3.size
    have HE3 := hide (HE2.out.below hb3 (by omega))
    have HP := hide hP
    clear hb3 hP
    go_wp2_with fail
    by_cases hl : 1500 < p.size
    · have hj := parse_call p w3 (by unfold maxLen; omega) HE3.out (by omega)
      rw [HP.out, if_pos hl] at hj
      refine hj.mono ?_
      clear hj
      rintro e w4 ⟨a4, c4, rfl, xc, hrow4, heach4, hb4⟩
      have HB4 := hide hb4
      clear hrow4 heach4 hb4
      go_wp2_with fail
      go_ret
      exact ⟨rfl, (HB2.out.trans (HB3.out.mono hs2)).trans (HB4.out.mono (by omega))⟩
    · have hj := parse_call p w3 (by unfold maxLen; omega) HE3.out (by omega)
      rw [HP.out, if_neg hl] at hj
      refine hj.mono ?_
      clear hj
      rintro e w4 ⟨a4, c4, rfl, xc, hrow4, heach4, hb4⟩
      have HB4 := hide hb4
      have R4 := hide (hrow4.kept (S' := fun _ => True) (fun g _ hl => ⟨trivial, rfl⟩))
      have C4 := hide (heach4.mono fun c f hf => RF.kept (S' := fun _ => True) (fun g _ hl => ⟨trivial, rfl⟩) hf)
      have hb24 : Below w2.heap.size w2 w4 := HB3.out.trans (hb4.mono hs3)
      have R2 := hide (HR2.out.kept (S' := fun _ => True) (fun g hg hl => ⟨trivial, hb24.block g hl⟩))
      have C2 := hide (HC2.out.mono fun c f hf => RF.kept (S' := fun _ => True) (fun g hg hl => ⟨trivial, hb24.block g hl⟩) hf)
      clear hrow4 heach4 hb4 hb24
      go_wp2_with fail
      have hj := sameFns_eq (fun _ => True) (fun _ => True) _ _ _ xa xc w4 R2.out C2.out R4.out C4.out
      refine hj.mono ?_
      clear hj
      rintro e w5 ⟨rfl, hb5⟩
      have HB5 := hide hb5
      have hs4 := HB4.out.size
      clear hb5
      go_wp2_with fail
      go_ret
      exact ⟨rfl, ((HB2.out.trans (HB3.out.mono hs2)).trans (HB4.out.mono (by omega))).trans (HB5.out.mono (by omega))⟩
  · have qA : ((Pu.parse s).2 != 0) = true := by simp [hA]
    have hN := bad_len s hA
    clear hA
    go_wp2_with fail
    go_ret
    exact ⟨rfl, HB2.out⟩

end Go.Proofs.YtodolmdiebgmjaaDoor
