/- The reader's smallest methods, walked. -/
import Derived.Test.YtodolmdiebgmjaaDoorRows
import Derived.Test.YtodolmdiebgmjaaDoorRel
import Derived.WalkKit
import Derived.WalkSpells
import Derived.WalkLawsBesides
namespace Go.Proofs.YtodolmdiebgmjaaDoor
open Go.RowKit

theorem ret_bool {a b : Bool} (h : a = b) : Ending.returned (.bool a) = .returned (.bool b) := by rw [h]

set_option maxHeartbeats 400000 in
theorem letter_any (c : UInt8) (w : World) :
    Calls Tryd.prog 27 #[.int .u8 c.toNat] w fun e w' => e = .returned (.bool (Pu.letter c)) ∧ w' = w := by
  have e1 : Pu.letter c = decide (97 ≤ (c.toNat : Int) ∧ (c.toNat : Int) ≤ 122) := by unfold Pu.letter; congr 1; simp only [eq_iff_iff]; omega
  have E1 : Hid _ := e1
  clear e1
  go_enter Tryd.func27, Tryd.ntmps27
  go_wp2 <;> go_ret <;> refine ⟨ret_bool ?_, rfl⟩ <;> rw [E1.out] <;> simp <;> omega

set_option maxHeartbeats 400000 in
theorem digit_any (c : UInt8) (w : World) :
    Calls Tryd.prog 28 #[.int .u8 c.toNat] w fun e w' => e = .returned (.bool (Pu.digit c)) ∧ w' = w := by
  have e1 : Pu.digit c = decide (48 ≤ (c.toNat : Int) ∧ (c.toNat : Int) ≤ 57) := by unfold Pu.digit; congr 1; simp only [eq_iff_iff]; omega
  have E1 : Hid _ := e1
  clear e1
  go_enter Tryd.func28, Tryd.ntmps28
  go_wp2 <;> go_ret <;> refine ⟨ret_bool ?_, rfl⟩ <;> rw [E1.out] <;> simp <;> omega

-- 'fail': the error is kept if it is the first; no word is left.
set_option maxHeartbeats 400000 in
theorem fail_any (B R : Nat) (s : Pu.St) (c : Int) (w : World) (h : Rdr B w R s) :
    Calls Tryd.prog 54 #[.pointer (some ⟨R, 0, none⟩), .int .i64 c] w fun e w' => e = .returned (.tuple #[]) ∧ Rdr B w' R (Pu.fail c s) ∧ Fr w.heap.size R w w' := by
  obtain ⟨v, h0, h1, f0, f1, hw⟩ := h.cells
  by_cases he : s.err = 0
  · have hb : (s.err == 0) = true := by simp [he]
    have hr : Rdr B ((w.setCell ⟨R, 1, none⟩ (.int .i64 c)).setCell ⟨R, 0, none⟩ (.slice none 0 0)) R (Pu.fail c s) := by
      have := (h.set1 c).set0 (Ws.nil B _ R); simpa [Pu.fail, he] using this
    have HR : Hid _ := hr
    clear hr hw he h
    go_enter Tryd.func54, Tryd.ntmps54
    go_wp2
    go_end0
    exact ⟨rfl, HR, ((Fr.refl _ R w).setR 1 _).setR 0 _⟩
  · have hb : (s.err == 0) = false := by simp [he]
    have hr : Rdr B (w.setCell ⟨R, 0, none⟩ (.slice none 0 0)) R (Pu.fail c s) := by
      have := h.set0 (Ws.nil B _ R); simpa [Pu.fail, he] using this
    have HR : Hid _ := hr
    clear hr hw he h
    go_enter Tryd.func54, Tryd.ntmps54
    go_wp2
    go_end0
    exact ⟨rfl, HR, (Fr.refl _ R w).setR 0 _⟩

-- 'next'
set_option maxHeartbeats 400000 in
theorem next_any (B R : Nat) (s : Pu.St) (w : World) (h : Rdr B w R s) :
    Calls Tryd.prog 38 #[.pointer (some ⟨R, 0, none⟩)] w fun e w' => e = .returned (.string (Pu.next s).1) ∧ Rdr B w' R (Pu.next s).2 ∧ Fr w.heap.size R w w' := by
  obtain ⟨v, h0, h1, f0, f1, hw⟩ := h.cells
  obtain ⟨ws, er⟩ := s
  cases ws with
  | nil =>
    obtain ⟨a, cap, rfl⟩ := hw.none
    have HR : Hid _ := h
    clear hw h
    go_enter Tryd.func38, Tryd.ntmps38
    go_wp2_with (go_at_call 54; refine (fail_any B R _ 8 _ HR).mono ?_; rintro e w' ⟨rfl, hr, hf⟩)
    go_ret
    exact ⟨rfl, hr, hf⟩
  | cons x r =>
    obtain ⟨g, off, cap, rfl, hx, hc, hm, hw', hw1⟩ := hw.cons
    have HR : Hid _ := h.set0 hw'
    have HR1 : Hid (cap = 1 → _) := fun hc => h.set0 (hw1 hc)
    clear hw h hw' hw1
    unfold maxLen at hm
    by_cases hc1 : cap = 1
    · have HR1 : Hid _ := HR1 hc1
      subst hc1
      have hr0 : r.length = 0 := by omega
      go_enter Tryd.func38, Tryd.ntmps38
      go_wp2
      go_ret
      exact ⟨rfl, by simpa [hr0, Pu.next] using HR1.out, (Fr.refl _ R w).setR 0 _⟩
    · go_enter Tryd.func38, Tryd.ntmps38
      go_wp2
      go_ret
      exact ⟨rfl, HR, (Fr.refl _ R w).setR 0 _⟩

-- 'expect'
set_option maxHeartbeats 400000 in
theorem expect_any (B R : Nat) (s : Pu.St) (x : ByteArray) (w : World) (h : Rdr B w R s) :
    Calls Tryd.prog 36 #[.pointer (some ⟨R, 0, none⟩), .string x] w fun e w' => e = .returned (.tuple #[]) ∧ Rdr B w' R (Pu.expect x s) ∧ Fr w.heap.size R w w' := by
  have H : Hid _ := h
  clear h
  go_enter Tryd.func36, Tryd.ntmps36
  go_wp2_with fail
  refine (next_any B R _ _ H.out).mono ?_
  rintro e w1 ⟨rfl, hr1, hf1⟩
  have H1 : Hid (Rdr B w1 R (Pu.next s).2) := hr1
  clear hr1
  cases hb : ((Pu.next s).1.toList == x.toList)
  · have hE : Hid (Pu.expect x s = Pu.fail 2 (Pu.next s).2) := by simp [Hid, Pu.expect, hb]
    go_wp2_with fail
    refine (fail_any B R _ _ _ H1.out).mono ?_
    rintro e w2 ⟨rfl, hr2, hf2⟩
    go_wp2_with fail
    go_end0
    exact ⟨rfl, by rw [hE.out]; exact hr2, hf1.trans' hf2 hf1.size⟩
  · have hE : Hid (Pu.expect x s = (Pu.next s).2) := by simp [Hid, Pu.expect, hb]
    go_wp2_with fail
    go_end0
    exact ⟨rfl, by rw [hE.out]; exact H1.out, hf1⟩

set_option maxHeartbeats 400000 in
theorem more_any (B R : Nat) (s : Pu.St) (w : World) (h : Rdr B w R s) :
    Calls Tryd.prog 55 #[.pointer (some ⟨R, 0, none⟩)] w fun e w' => e = .returned (.bool (Pu.more s).1) ∧ Rdr B w' R (Pu.more s).2 ∧ Fr w.heap.size R w w' := by
  obtain ⟨v, h0, h1, f0, f1, hw⟩ := h.cells
  obtain ⟨ws, er⟩ := s
  cases ws with
  | nil =>
    obtain ⟨a, cap, rfl⟩ := hw.none
    have HR : Hid (Rdr B w R ⟨[], er⟩) := h
    clear hw h
    go_enter Tryd.func55, Tryd.ntmps55
    go_wp2_with fail
    refine (next_any B R _ _ HR.out).mono ?_
    rintro e w1 ⟨rfl, hr1, hf1⟩
    go_wp2_with fail
    go_ret
    exact ⟨rfl, hr1, hf1⟩
  | cons x r =>
    obtain ⟨g, off, cap, rfl, hx, hc, hm, hw', hw1⟩ := hw.cons
    have HR : Hid (Rdr B w R ⟨x :: r, er⟩) := h
    clear hw h hw' hw1
    unfold maxLen at hm
    cases hb : (x.toList == [41])
    · have hE : Hid (Pu.more ⟨x :: r, er⟩ = (true, ⟨x :: r, er⟩)) := by simp [Hid, Pu.more, hb]
      go_enter Tryd.func55, Tryd.ntmps55
      go_wp2_with fail
      go_ret
      exact ⟨ret_bool (by rw [hE.out]), by rw [hE.out]; exact HR.out, Fr.refl _ _ _⟩
    · have hE : Hid (Pu.more ⟨x :: r, er⟩ = (false, ⟨r, er⟩)) := by simp [Hid, Pu.more, hb]
      go_enter Tryd.func55, Tryd.ntmps55
      go_wp2_with fail
      refine (next_any B R _ _ HR.out).mono ?_
      rintro e w1 ⟨rfl, hr1, hf1⟩
      go_wp2_with fail
      go_ret
      exact ⟨ret_bool (by rw [hE.out]), by rw [hE.out]; exact hr1, hf1⟩

theorem len_bytes (s : ByteArray) : s.data.toList.length = s.size := Array.length_toList

theorem take_snoc (s : ByteArray) (k : Nat) (h : k < s.size) : s.data.toList.take (k + 1) = s.data.toList.take k ++ [s[k]] := by
  rw [List.take_succ_eq_append_getElem (by simpa using h)]; rfl

set_option maxHeartbeats 400000 in
theorem Name_any (s : ByteArray) (w : World) (hs : s.size ≤ maxLen) :
    Calls Tryd.prog 9 #[.string s] w fun e w' => e = .returned (.bool (Pu.isName s)) ∧ w' = w := by
  unfold maxLen at hs
  by_cases h0 : s.size < 1
  · have hE : Hid (Pu.isName s = false) := by
      have hz : s.data.toList.length = 0 := by rw [len_bytes]; omega
      simp [Hid, Pu.isName, List.length_eq_zero_iff.1 hz, Pu.head1]
    go_enter Tryd.func9, Tryd.ntmps9
    go_wp2_with fail
    go_ret
    exact ⟨ret_bool hE.out.symm, rfl⟩
  · by_cases h8 : 8 < s.size
    · have hE : Hid (Pu.isName s = false) := by
        have : ¬ s.size ≤ 8 := by omega
        simp [Hid, Pu.isName, this]
      go_enter Tryd.func9, Tryd.ntmps9
      go_wp2_with fail
      go_ret
      exact ⟨ret_bool hE.out.symm, rfl⟩
    · have hl : Pu.head1 s.data.toList = Pu.letter s[0] := by
        have e := take_snoc s 0 (by omega)
        cases hd : s.data.toList with
        | nil => rw [hd] at e; simp at e
        | cons c r => rw [hd] at e; simp at e; simp [Pu.head1, e]
      cases hb : Pu.letter s[0]
      · have hE : Hid (Pu.isName s = false) := by simp [Hid, Pu.isName, hl, hb]
        clear hl
        go_enter Tryd.func9, Tryd.ntmps9
        go_wp2_with (go_at_call 27; refine (letter_any _ _).mono ?_; rintro e w' ⟨rfl, rfl⟩)
        go_ret
        exact ⟨ret_bool hE.out.symm, rfl⟩
      · have hE : Hid (Pu.isName s = Pu.okAll s.data.toList) := by
          have : s.size ≤ 8 := by omega
          simp [Hid, Pu.isName, hl, hb, this]
        clear hl
        go_enter Tryd.func9, Tryd.ntmps9
        go_wp2_with (go_at_call 27; refine (letter_any _ _).mono ?_; rintro e w' ⟨rfl, rfl⟩)
        go_loop [20] (fun i => ∃ k : Nat, k ≤ s.size ∧ i = .int .i64 k ∧ Pu.okAll (s.data.toList.take k) = true) (fun i => s.size - (intOf i).toNat)
        case atStart => exact ⟨0, Nat.zero_le _, rfl, rfl⟩
        case round =>
          obtain ⟨k, hk, rfl, hok⟩ := hrel
          have HK : Hid (Pu.okAll (s.data.toList.take k) = true) := hok
          clear hok hb
          by_cases hlt : k < s.size
          · have hsn : Hid (Pu.okAll (s.data.toList.take (k + 1)) = (Pu.letter s[k] || Pu.digit s[k])) := by
              have := HK.out
              unfold Pu.okAll at this
              simp only [Hid, Pu.okAll]; rw [take_snoc s k hlt, List.all_append, this]; simp
            cases h1 : Pu.letter s[k]
            · cases h2 : Pu.digit s[k]
              · have hF : Hid (Pu.isName s = false) := by
                  have e := hsn.out
                  simp only [h1, h2, Bool.or_false, Pu.okAll] at e
                  have : Pu.okAll s.data.toList = false := by
                    unfold Pu.okAll
                    rw [← List.take_append_drop (k + 1) s.data.toList, List.all_append, e]; rfl
                  simp only [Hid]; rw [hE.out, this]
                go_wp2_with (first | (go_at_call 27; refine (letter_any _ _).mono ?_; rintro e w' ⟨rfl, rfl⟩) | (go_at_call 28; refine (digit_any _ _).mono ?_; rintro e w' ⟨rfl, rfl⟩))
                go_ret
                exact ⟨ret_bool hF.out.symm, rfl⟩
              · go_wp2_with (first | (go_at_call 27; refine (letter_any _ _).mono ?_; rintro e w' ⟨rfl, rfl⟩) | (go_at_call 28; refine (digit_any _ _).mono ?_; rintro e w' ⟨rfl, rfl⟩))
                go_round
                case rel => exact ⟨k + 1, by omega, by go_num, by rw [hsn.out, h1, h2]; rfl⟩
                case measure => simp [intOf]; omega
            · go_wp2_with (first | (go_at_call 27; refine (letter_any _ _).mono ?_; rintro e w' ⟨rfl, rfl⟩) | (go_at_call 28; refine (digit_any _ _).mono ?_; rintro e w' ⟨rfl, rfl⟩))
              go_round
              case rel => exact ⟨k + 1, by omega, by go_num, by rw [hsn.out, h1]; rfl⟩
              case measure => simp [intOf]; omega
          · go_wp2_with fail
            go_ret
            have hks : s.data.toList.take k = s.data.toList := List.take_of_length_le (by rw [len_bytes]; omega)
            exact ⟨ret_bool (by rw [hE.out, ← hks, HK.out]), rfl⟩

-- 'name': what must be one.
set_option maxHeartbeats 400000 in
theorem name_any (B R : Nat) (s : Pu.St) (x : ByteArray) (w : World) (h : Rdr B w R s) (hx : x.size ≤ maxLen) :
    Calls Tryd.prog 37 #[.pointer (some ⟨R, 0, none⟩), .string x] w fun e w' => e = .returned (.string x) ∧ Rdr B w' R (Pu.name x s) ∧ Fr w.heap.size R w w' := by
  have H : Hid (Rdr B w R s) := h
  have HX : Hid (x.size ≤ maxLen) := hx
  clear h hx
  cases hb : Pu.isName x
  · have hE : Hid (Pu.name x s = Pu.fail 7 s) := by simp [Hid, Pu.name, hb]
    go_enter Tryd.func37, Tryd.ntmps37
    go_wp2_with fail
    refine (Name_any x _ HX.out).mono ?_
    rintro e w1 ⟨rfl, rfl⟩
    go_wp2_with fail
    refine (fail_any B R _ _ _ H.out).mono ?_
    rintro e w2 ⟨rfl, hr2, hf2⟩
    go_wp2_with fail
    go_ret
    exact ⟨rfl, by rw [hE.out]; exact hr2, hf2⟩
  · have hE : Hid (Pu.name x s = s) := by simp [Hid, Pu.name, hb]
    go_enter Tryd.func37, Tryd.ntmps37
    go_wp2_with fail
    refine (Name_any x _ HX.out).mono ?_
    rintro e w1 ⟨rfl, rfl⟩
    go_wp2_with fail
    go_ret
    exact ⟨rfl, by rw [hE.out]; exact H.out, Fr.refl _ _ _⟩

end Go.Proofs.YtodolmdiebgmjaaDoor
