/- The reader's methods that read one word or names, walked. -/
import Derived.Test.YtodolmdiebgmjaaDoorW1
import Derived.Test.YtodolmdiebgmjaaDoorShelf
import Derived.Lib.AtoiAllCases
import Derived.Lib.AtoiErrMem
import Derived.Deep.LoopGhost
import Derived.Deep.DeepMust
namespace Go.Proofs.YtodolmdiebgmjaaDoor
open Go.RowKit

theorem next_ok (B R : Nat) (s : Pu.St) (w : World) (h : Ok B w R s) :
    Calls Tryd.prog 38 #[.pointer (some ⟨R, 0, none⟩)] w fun e w' => e = .returned (.string (Pu.next s).1) ∧ Ok B w' R (Pu.next s).2 ∧ Fr w.heap.size R w w' :=
  (next_any B R s w h.rdr).mono fun _ _ ⟨he, hr, hf⟩ => ⟨he, h.step hr hf (Pu.next_suf s), hf⟩
theorem fail_ok (B R : Nat) (s : Pu.St) (c : Int) (w : World) (h : Ok B w R s) :
    Calls Tryd.prog 54 #[.pointer (some ⟨R, 0, none⟩), .int .i64 c] w fun e w' => e = .returned (.tuple #[]) ∧ Ok B w' R (Pu.fail c s) ∧ Fr w.heap.size R w w' :=
  (fail_any B R s c w h.rdr).mono fun _ _ ⟨he, hr, hf⟩ => ⟨he, h.step hr hf (Pu.fail_suf c s), hf⟩
theorem expect_ok (B R : Nat) (s : Pu.St) (x : ByteArray) (w : World) (h : Ok B w R s) :
    Calls Tryd.prog 36 #[.pointer (some ⟨R, 0, none⟩), .string x] w fun e w' => e = .returned (.tuple #[]) ∧ Ok B w' R (Pu.expect x s) ∧ Fr w.heap.size R w w' :=
  (expect_any B R s x w h.rdr).mono fun _ _ ⟨he, hr, hf⟩ => ⟨he, h.step hr hf (Pu.expect_suf x s), hf⟩
theorem more_ok (B R : Nat) (s : Pu.St) (w : World) (h : Ok B w R s) :
    Calls Tryd.prog 55 #[.pointer (some ⟨R, 0, none⟩)] w fun e w' => e = .returned (.bool (Pu.more s).1) ∧ Ok B w' R (Pu.more s).2 ∧ Fr w.heap.size R w w' :=
  (more_any B R s w h.rdr).mono fun _ _ ⟨he, hr, hf⟩ => ⟨he, h.step hr hf (Pu.more_suf s), hf⟩
theorem name_ok (B R : Nat) (s : Pu.St) (x : ByteArray) (w : World) (h : Ok B w R s) (hx : x.size ≤ 1600) :
    Calls Tryd.prog 37 #[.pointer (some ⟨R, 0, none⟩), .string x] w fun e w' => e = .returned (.string x) ∧ Ok B w' R (Pu.name x s) ∧ Fr w.heap.size R w w' :=
  (name_any B R s x w h.rdr (by unfold maxLen; omega)).mono fun _ _ ⟨he, hr, hf⟩ => ⟨he, h.step hr hf (Pu.name_suf x s), hf⟩

theorem below_grow (w : World) (k : Nat) (os : Array Obj) : Below w.heap.size w (Sort.grow (w.drewN k) os) :=
  ⟨rfl, rfl, rfl, by simp [Sort.grow, World.drewN], fun i hi => by
    show (w.heap ++ os)[i]? = _
    rw [Array.getElem?_append_left hi]⟩

theorem itoa_any (n : Int) (w : World) (h0 : -9223372036854775808 ≤ n) (h1 : n ≤ 9223372036854775807) (henv : Env w) :
    Calls Tryd.prog 33 #[.int .i64 n] w fun e w' => e = .returned (.string ⟨(Lib.itoa n).toArray⟩) ∧ Below w.heap.size w w' :=
  (Tryd.strconv_Itoa n h0 h1 w henv.1).mono fun _ _ ⟨he, k, os, hw⟩ => ⟨he, by rw [hw]; exact below_grow w k os⟩

theorem ret_num2 {a b : Int × Bool} (h : a = b) : Ending.returned (.tuple #[.int .i64 b.1, .bool b.2]) = .returned (.tuple #[.int .i64 a.1, .bool a.2]) := by rw [h]

-- 'number'
set_option maxHeartbeats 400000 in
theorem number_any (x : ByteArray) (w : World) (hx : x.size ≤ 1600) (henv : Env w) (h3 : 3 ≤ w.heap.size) :
    Calls Tryd.prog 64 #[.string x] w fun e w' => e = .returned (.tuple #[.int .i64 (Pu.number x).1, .bool (Pu.number x).2]) ∧ Below w.heap.size w w' := by
  obtain ⟨ht, ⟨tp, p, hv⟩, ⟨tp', p', hv'⟩⟩ := id henv
  have HE : Hid (Env w) := henv
  have HV := hide (hv)
  have HV' : Hid _ := hv'
  clear henv hv hv' ht
  cases h : Lib.atoiAll x.data.toList with
  | ok v =>
    have hn : Hid (Pu.number x = (v, Lib.itoa v == x.toList)) := by simp only [Hid, Pu.number, h]
    have hbd := Lib.atoiAll_bounds h
    have H := hide (h)
    clear h
    go_enter Tryd.func64, Tryd.ntmps64
    go_wp2_with fail
    refine (Tryd.strconv_Atoi_ok x (by omega) v H.out _).mono ?_
    rintro e w1 ⟨rfl, hw⟩
    have hb1 : Below w.heap.size w w1 := by
      rcases hw with rfl | ⟨t, rfl⟩
      · exact Below.refl _ _
      · exact Lib.bytesWorld_below _ _ _
    clear hw
    go_wp2_with fail
    refine (itoa_any v _ hbd.1 hbd.2 (HE.out.below hb1 h3)).mono ?_
    rintro e w2 ⟨rfl, hb2⟩
    go_wp2_with fail
    go_ret2
    exact ⟨ret_num2 hn.out, hb1.trans (hb2.mono hb1.size)⟩
  | range =>
    have hn : Hid (Pu.number x = (Lib.atoiSat x.data.toList, false)) := by simp only [Hid, Pu.number, h]
    have H := hide (h)
    clear h
    go_enter Tryd.func64, Tryd.ntmps64
    go_wp2_with fail
    refine (Tryd.strconv_Atoi_range_var x (by omega) H.out tp' p' _ HV'.out).mono ?_
    rintro e w1 ⟨N, rfl, _, _, hb1⟩
    go_wp2_with fail
    go_ret2
    exact ⟨ret_num2 hn.out, hb1⟩
  | _ =>
    have hn : Hid (Pu.number x = (0, false)) := by simp only [Hid, Pu.number, h]
    have H := hide (h)
    clear h
    go_enter Tryd.func64, Tryd.ntmps64
    go_wp2_with fail
    refine (Any.strconv_Atoi_syntax_var Tryd.laysC172 x (by omega) H.out tp p _ HV.out).mono ?_
    rintro e w1 ⟨N, rfl, _, _, hb1⟩
    go_wp2_with fail
    go_ret2
    exact ⟨ret_num2 hn.out, hb1⟩

theorem number_ok (B R : Nat) (s : Pu.St) (x : ByteArray) (w : World) (h : Ok B w R s) (hx : x.size ≤ 1600) :
    Calls Tryd.prog 64 #[.string x] w fun e w' => e = .returned (.tuple #[.int .i64 (Pu.number x).1, .bool (Pu.number x).2]) ∧ Ok B w' R s ∧ Fr w.heap.size R w w' :=
  (number_any x w hx h.env (by have := h.r3; have := h.rdr.1; have := h.bw; omega)).mono fun _ _ ⟨he, hb⟩ => ⟨he, h.below hb h.bw, Fr.of_below hb⟩

theorem ret_str {a b : List UInt8} (h : a = b) : Ending.returned (.string ⟨a.toArray⟩) = .returned (.string ⟨b.toArray⟩) := by rw [h]
theorem ret_int {k : IntKind} {a b : Int} (h : a = b) : Ending.returned (.int k a) = .returned (.int k b) := by rw [h]

set_option maxHeartbeats 400000 in
theorem sign_any (p : Int) (w : World) :
    Calls Tryd.prog 62 #[.int .i64 p] w fun e w' => e = .returned (.string ⟨(Pu.sign p).toArray⟩) ∧ w' = w := by
  by_cases h1 : p = 1
  · subst h1
    go_enter Tryd.func62, Tryd.ntmps62
    go_wp2
    go_ret
    exact ⟨rfl, rfl⟩
  by_cases h2 : p = 2
  · subst h2
    go_enter Tryd.func62, Tryd.ntmps62
    go_wp2
    go_ret
    exact ⟨rfl, rfl⟩
  by_cases h3 : p = 3
  · subst h3
    go_enter Tryd.func62, Tryd.ntmps62
    go_wp2
    go_ret
    exact ⟨rfl, rfl⟩
  by_cases h4 : p = 4
  · subst h4
    go_enter Tryd.func62, Tryd.ntmps62
    go_wp2
    go_ret
    exact ⟨rfl, rfl⟩
  by_cases h5 : p = 5
  · subst h5
    go_enter Tryd.func62, Tryd.ntmps62
    go_wp2
    go_ret
    exact ⟨rfl, rfl⟩
  have hE : Hid (([] : List UInt8) = Pu.sign p) := by simp [Hid, Pu.sign, h1, h2, h3, h4, h5]
  have b1 : (p == 1) = false := by simp [h1]
  have b2 : (p == 2) = false := by simp [h2]
  have b3 : (p == 3) = false := by simp [h3]
  have b4 : (p == 4) = false := by simp [h4]
  have b5 : (p == 5) = false := by simp [h5]
  clear h1 h2 h3 h4 h5
  go_enter Tryd.func62, Tryd.ntmps62
  go_wp2
  go_ret
  exact ⟨ret_str hE.out, rfl⟩

theorem prim_hit (x : ByteArray) (k : Nat) (h1 : 1 ≤ k) (h5 : k ≤ 5) (h : Pu.sign k = x.toList) : Pu.primitive x = k := by
  have : k = 1 ∨ k = 2 ∨ k = 3 ∨ k = 4 ∨ k = 5 := by omega
  rcases this with rfl | rfl | rfl | rfl | rfl <;> simp [Pu.sign] at h <;> simp [Pu.primitive, ← h]
theorem prim_miss (x : ByteArray) (h : ∀ j : Nat, 1 ≤ j → j ≤ 5 → ¬ Pu.sign j = x.toList) : Pu.primitive x = 0 := by
  have h1 := h 1 (by omega) (by omega)
  have h2 := h 2 (by omega) (by omega)
  have h3 := h 3 (by omega) (by omega)
  have h4 := h 4 (by omega) (by omega)
  have h5 := h 5 (by omega) (by omega)
  simp [Pu.sign] at h1 h2 h3 h4 h5
  simp [Pu.primitive, Ne.symm h1, Ne.symm h2, Ne.symm h3, Ne.symm h4, Ne.symm h5]

set_option maxHeartbeats 400000 in
theorem primitive_any (x : ByteArray) (w : World) :
    Calls Tryd.prog 70 #[.string x] w fun e w' => e = .returned (.int .i64 (Pu.primitive x)) ∧ w' = w := by
  go_enter Tryd.func70, Tryd.ntmps70
  go_wp2_with fail
  go_loop [3] (fun p => ∃ k : Nat, 1 ≤ k ∧ k ≤ 6 ∧ p = .int .i64 k ∧ Hid (∀ j : Nat, 1 ≤ j → j < k → ¬ Pu.sign j = x.toList)) (fun p => 6 - (intOf p).toNat)
  case atStart => exact ⟨1, by omega, by omega, rfl, fun j h1 h2 => by omega⟩
  case round =>
    obtain ⟨k, hk1, hk2, rfl, HK⟩ := hrel
    by_cases hlt : k ≤ 5
    · cases hb : (Pu.sign (k : Int) == x.toList)
      · go_wp2_with (go_at_call 62; refine (sign_any _ _).mono ?_; rintro e w' ⟨rfl, rfl⟩)
        go_round
        case rel => exact ⟨k + 1, by omega, by omega, by go_num, fun j h1 h2 => by
            by_cases hj : j = k
            · subst hj; intro hc; rw [hc] at hb; simp at hb
            · exact HK.out j h1 (by omega)⟩
        case measure => simp [intOf]; omega
      · have hE : Hid (Pu.primitive x = k) := prim_hit x k hk1 hlt (by simpa using hb)
        go_wp2_with (go_at_call 62; refine (sign_any _ _).mono ?_; rintro e w' ⟨rfl, rfl⟩)
        go_ret
        exact ⟨ret_int hE.out.symm, rfl⟩
    · have hE : Hid (Pu.primitive x = 0) := prim_miss x (fun j h1 h5 => HK.out j h1 (by omega))
      go_wp2_with fail
      go_ret
      exact ⟨ret_int hE.out.symm, rfl⟩

-- 'tag'
set_option maxHeartbeats 400000 in
theorem tag_ok (B R : Nat) (s : Pu.St) (x : ByteArray) (w : World) (h : Ok B w R s) (hx : x.size ≤ 1600) :
    Calls Tryd.prog 66 #[.pointer (some ⟨R, 0, none⟩), .string x] w fun e w' => e = .returned (.int .i64 (Pu.tag x s).1) ∧ Ok B w' R (Pu.tag x s).2 ∧ Fr w.heap.size R w w' := by
  have H : Hid (Ok B w R s) := h
  have hsz : (⟨(Lib.trimPrefix x.data.toList [35]).toArray⟩ : ByteArray).size ≤ 1600 := by
    show (Lib.trimPrefix x.data.toList [35]).toArray.size ≤ 1600
    simp only [List.size_toArray, Lib.trimPrefix]
    have := len_bytes x
    split <;> simp <;> omega
  have HS := hide (hsz)
  clear h hx hsz
  cases h1 : Lib.hasPrefix x.data.toList [35]
  · have hE : Hid (Pu.tag x s = ((Pu.tagOf x).1, Pu.fail 2 s)) := by simp [Hid, Pu.tag, Pu.tagOf, h1]
    go_enter Tryd.func66, Tryd.ntmps66
    go_wp2_with fail
    refine (Tryd.strings_CutPrefix x _ _).mono ?_
    rintro e w1 ⟨rfl, rfl⟩
    go_wp2_with fail
    refine (number_ok B R s _ _ H.out HS.out).mono ?_
    rintro e w2 ⟨rfl, hr2, hf2⟩
    have H2 := hide (hr2)
    clear hr2
    go_wp2_with fail
    refine (fail_ok B R s _ _ H2.out).mono ?_
    rintro e w3 ⟨rfl, hr3, hf3⟩
    go_wp2_with fail
    go_ret
    exact ⟨ret_int (by rw [hE.out]; rfl), by rw [hE.out]; exact hr3, hf2.trans' hf3 hf2.size⟩
  · cases h2 : (Pu.number ⟨(Lib.trimPrefix x.data.toList [35]).toArray⟩).2
    · have hE : Hid (Pu.tag x s = ((Pu.tagOf x).1, Pu.fail 2 s)) := by simp [Hid, Pu.tag, Pu.tagOf, h1, h2]
      go_enter Tryd.func66, Tryd.ntmps66
      go_wp2_with fail
      refine (Tryd.strings_CutPrefix x _ _).mono ?_
      rintro e w1 ⟨rfl, rfl⟩
      go_wp2_with fail
      refine (number_ok B R s _ _ H.out HS.out).mono ?_
      rintro e w2 ⟨rfl, hr2, hf2⟩
      have H2 := hide (hr2)
      clear hr2
      go_wp2_with fail
      refine (fail_ok B R s _ _ H2.out).mono ?_
      rintro e w3 ⟨rfl, hr3, hf3⟩
      go_wp2_with fail
      go_ret
      exact ⟨ret_int (by rw [hE.out]; rfl), by rw [hE.out]; exact hr3, hf2.trans' hf3 hf2.size⟩
    · have hE : Hid (Pu.tag x s = ((Pu.tagOf x).1, s)) := by simp [Hid, Pu.tag, Pu.tagOf, h1, h2]
      go_enter Tryd.func66, Tryd.ntmps66
      go_wp2_with fail
      refine (Tryd.strings_CutPrefix x _ _).mono ?_
      rintro e w1 ⟨rfl, rfl⟩
      go_wp2_with fail
      refine (number_ok B R s _ _ H.out HS.out).mono ?_
      rintro e w2 ⟨rfl, hr2, hf2⟩
      have H2 := hide (hr2)
      clear hr2
      go_wp2_with fail
      go_ret
      exact ⟨ret_int (by rw [hE.out]; rfl), by rw [hE.out]; exact H2.out, hf2⟩

theorem Tryd.info9 : (Tryd.prog.info? 9).map (fun i => (i.zero, i.size, i.bytes)) = some (some (.string ⟨#[]⟩), 1, 16) := by kernel_rfl

-- 'names'
set_option maxHeartbeats 400000 in
theorem names_ok (B R : Nat) (s : Pu.St) (w : World) (h : Ok B w R s) :
    Calls Tryd.prog 39 #[.pointer (some ⟨R, 0, none⟩)] w fun e w' => ∃ v, e = .returned v ∧ w'.ownsRow w.heap.size 9 1 v (Pu.names s).1.length ((Pu.names s).1.map .string) ∧ Ok B w' R (Pu.names s).2 ∧ Fr w.heap.size R w w' := by
  obtain ⟨i0, hi, hz0, hz1, hz2⟩ := info_parts Tryd.info9
  have H : Hid (Ok B w R s) := h
  clear h
  go_enter Tryd.func39, Tryd.ntmps39
  go_wp2_with fail
  refine (expect_ok B R s _ _ H.out).mono ?_
  rintro e w1 ⟨rfl, hr1, hf1⟩
  have H1 := hide (hr1)
  clear hr1
  go_wp2_with fail
  go_loopg [3] (s.ws.length + 1) (fun gn v wr => ∃ acc st, wr.ownsRow w.heap.size 9 1 v acc.length (acc.map .string) ∧ Ok B wr R st ∧ Fr w.heap.size R w wr ∧
    Hid (Pu.names s = (acc ++ (Pu.namesTo gn st).1, (Pu.namesTo gn st).2)) ∧ st.ws.length < gn ∧ acc.length + st.ws.length ≤ 1600)
  case atStart =>
    refine ⟨[], _, World.ownsRow_nil _ _ _ _, H1.out, hf1, ?_, ?_, ?_⟩
    · simp [Hid, Pu.names]
    · have := (Pu.expect_suf ⟨#[40]⟩ s).length_le; omega
    · have := H1.out.few; simpa using this
  case round =>
    obtain ⟨acc, st, hown, hok, hfr, hE, hlt, hle⟩ := hrel
    have HO := hide (hown)
    have HK := hide (hok)
    clear hown hok
    cases gk with
    | zero => omega
    | succ n =>
      go_wp2_with fail
      refine (more_ok B R st _ HK.out).mono ?_
      rintro e w2 ⟨rfl, hr2, hf2⟩
      have H2 := hide (hr2)
      clear hr2
      cases hm : (Pu.more st).1
      · have hE2 : Hid (Pu.names s = (acc, (Pu.more st).2)) := by
          have := hE.out; simpa [Hid, Pu.namesTo, hm] using this
        clear hE
        go_wp2_with fail
        go_ret
        refine ⟨_, rfl, ?_, ?_, hfr.trans' hf2 hfr.size⟩
        · rw [hE2.out]; exact ownsRow_fr HO.out hf2 (by have := H.out.rdr.1; have := H.out.bw; omega)
        · rw [hE2.out]; exact H2.out
      · obtain ⟨hms, hpos⟩ := Pu.more_true hm
        have H2 : Hid (Ok B w2 R st) := by have := H2.out; rw [hms] at this; exact this
        have hE2 : Hid (Pu.names s = (acc ++ (Pu.next st).1 :: (Pu.namesTo n (Pu.name (Pu.next st).1 (Pu.next st).2)).1, (Pu.namesTo n (Pu.name (Pu.next st).1 (Pu.next st).2)).2)) := by
          have := hE.out; simpa [Hid, Pu.namesTo, hm] using this
        have hln : (Pu.name (Pu.next st).1 (Pu.next st).2).ws.length + 1 ≤ st.ws.length := by
          have := (Pu.name_suf (Pu.next st).1 (Pu.next st).2).length_le; have := Pu.next_less hpos; omega
        clear hE hms
        go_wp2_with fail
        refine (next_ok B R st _ H2.out).mono ?_
        rintro e w3 ⟨rfl, hr3, hf3⟩
        have H3 := hide (hr3)
        clear hr3
        go_wp2_with fail
        refine (name_ok B R _ _ _ H3.out H2.out.next_size).mono ?_
        rintro e w4 ⟨rfl, hr4, hf4⟩
        have H4 := hide (hr4)
        clear hr4
        have hf : Fr wr.heap.size R wr w4 := (hf2.trans' hf3 hf2.size).trans' hf4 (Nat.le_trans hf2.size hf3.size)
        have hRb : R < w.heap.size := by have := H.out.rdr.1; have := H.out.bw; omega
        have HO4 := hide (ownsRow_fr HO.out hf hRb)
        have hsz : w.heap.size ≤ w4.heap.size := Nat.le_trans hfr.size hf.size
        go_wp2_with (at_builtin; refine wpList_append_own _ rfl _ _ 29 rfl w.heap.size 9 i0 (.string ⟨#[]⟩) 1 16 Tryd.underlying29 hi hz0 hz1 hz2 rfl (by decide) _ _ _ rfl (HO4.out.alloc _) ⟨w4.heap.size, 0, none⟩ 1 1 [.string (Pu.next st).1] rfl rfl ?c1 ?c2 ?c3 ?c4 ?c5 ?_)
        case c1 =>
          intro j u hj
          match j, hj with
          | 0, hj => simp at hj; subst hj; simp [Addr.add]
        case c2 => intro u hu; simp at hu; subst hu; rfl
        case c3 => unfold maxLen; omega
        case c4 => omega
        case c5 => simp; omega
        intro v' w5 hown' hgrow' _
        have HO5 := hide (hown')
        have HG5 := hide (hgrow')
        clear hown' hgrow'
        go_wp2_with fail
        go_roundg n
        case measure => omega
        case rel =>
          have hg := HG5.out
          have hown := HO5.out
          have hk : ∀ k, Value.ownBlock _ = some k → w.heap.size ≤ k := ownBlock_ge HO4.out
          refine ⟨acc ++ [(Pu.next st).1], Pu.name (Pu.next st).1 (Pu.next st).2, ?_, ?_, ?_, ?_, ?_, ?_⟩
          · simpa using hown
          · exact (H4.out.below ((Below.refl B w4).alloc H4.out.bw _) (Nat.le_refl _)).below ((Below.refl B _).grown hg (by have := H4.out.bw; simp; omega) (fun k hk' => by have := hk k hk'; have := H.out.bw; omega)) (Nat.le_refl _)
          · exact ((hfr.trans' hf hfr.size).alloc hsz _).grown hg (by simp; omega) hk
          · simp only [Hid]; rw [hE2.out]; simp
          · omega
          · simp; omega

-- 'leaf'
def leafCells (k n : Int) (x : ByteArray) : Array Value := #[.int .i64 k, .int .i64 n, .string x, .string ⟨#[]⟩, .slice none 0 0, .slice none 0 0, .slice none 0 0]

set_option maxHeartbeats 400000 in
theorem leaf_ok {α : Type} (B R : Nat) (s : Pu.St) (x : ByteArray) (w : World) (h : Ok B w R s) (hx : x.size ≤ 1600) :
    Calls Tryd.prog 56 #[.pointer (some ⟨R, 0, none⟩), .string x] w fun e w' => e = .returned (.agg (leafCells (Pu.leaf (α := α) x s).1.kind (Pu.leaf (α := α) x s).1.n (Pu.leaf (α := α) x s).1.name)) ∧
      Ok B w' R (Pu.leaf (α := α) x s).2 ∧ Fr w.heap.size R w w' := by
  have H := hide h
  have HX := hide hx
  clear h hx
  cases hb : (Pu.number x).2
  · have hE : Hid (Pu.leaf (α := α) x s = (⟨1, 0, x, [], []⟩, Pu.name x s)) := by simp [Hid, Pu.leaf, hb]
    go_enter Tryd.func56, Tryd.ntmps56
    go_wp2_with fail
    refine (number_ok B R s _ _ (H.out.below ((Below.refl B w).alloc H.out.bw _) (Nat.le_refl _)) HX.out).mono ?_
    rintro e w1 ⟨rfl, hr1, hf1⟩
    have H1 := hide hr1
    clear hr1
    go_wp2_with fail
    refine (name_ok B R s _ _ H1.out HX.out).mono ?_
    rintro e w2 ⟨rfl, hr2, hf2⟩
    have H2 := hide hr2
    clear hr2
    have hf := hf1.trans' hf2 hf1.size
    have hblk := fresh_block hf (by have := H.out.rdr.1; have := H.out.bw; omega)
    have hc := cell_of_heap hblk
    have hz := frozen_of_heap hblk
    have HB := hide hblk
    have HF := hide hf
    clear hblk hf hf1 hf2
    go_wp2_with fail
    refine bodyPost_ret (v := .agg (leafCells 1 0 x)) (by simp [results, Tryd.results56, go_sem, hc, leafCells]) rfl ⟨?_, ?_, ?_⟩
    · rw [hE.out]
    · rw [hE.out]; exact H2.out.set7 H.out.bw
    · exact HF.out.of_alloc.set7 (Nat.le_refl _)
  · have hE : Hid (Pu.leaf (α := α) x s = (⟨2, (Pu.number x).1, ⟨#[]⟩, [], []⟩, s)) := by simp [Hid, Pu.leaf, hb]
    go_enter Tryd.func56, Tryd.ntmps56
    go_wp2_with fail
    refine (number_ok B R s _ _ (H.out.below ((Below.refl B w).alloc H.out.bw _) (Nat.le_refl _)) HX.out).mono ?_
    rintro e w1 ⟨rfl, hr1, hf1⟩
    have H1 := hide hr1
    clear hr1
    have hblk := fresh_block hf1 H.out.lt
    have hc := cell_of_heap hblk
    have hz := frozen_of_heap hblk
    have HF := hide hf1
    clear hblk hf1
    go_wp2_with fail
    refine bodyPost_ret (v := .agg (leafCells 2 (Pu.number x).1 ⟨#[]⟩)) (by simp [results, Tryd.results56, go_sem, hc, leafCells]) rfl ⟨?_, ?_, ?_⟩
    · rw [hE.out]
    · rw [hE.out]; exact H1.out.set7 H.out.bw
    · exact HF.out.of_alloc.set7 (Nat.le_refl _)

end Go.Proofs.YtodolmdiebgmjaaDoor
