/- The document's 'Wrong' at all terms, and its 'Check', walked. -/
import Derived.Test.YtomahbdidlglfacGreatDoorR8
import Derived.Test.YtomahbdidlglfacGreatDoorR9
import Derived.Test.YtomahbdidlglfacGreatDoorR10
import Derived.Test.YtomahbdidlglfacGreatDoorO1O2O3C9O4O5W6Rs
namespace Go.Proofs.YtomahbdidlglfacGreatDoor
open Go.RowKit Go.Maps Go.WideMaps
set_option maxRecDepth 100000
theorem rwrong_all : ∀ k, RWrongC k
  | 0 => fun _ _ _ _ _ _ _ _ _ _ _ _ h => h.elim
  | k + 1 => wrong_all k (wrong_1 k (rwrong_all k)) (wrong_2 k (rwrong_all k)) (wrong_3 k (rwrong_all k)) (wrong_4 k (rwrong_all k)) (wrong_5 k (rwrong_all k)) (wrong_6 k (rwrong_all k)) (wrong_7 k (rwrong_all k))
theorem size_wt : ∀ (k : Nat) (t : Pu.TT k), Pu.size k t ≤ Pu.wt k t
  | 0, t => nomatch t
  | k + 1, t => by
    have ih := size_wt k
    have h1 : ∀ l : List (Pu.TT k), (l.map (Pu.size k)).sum ≤ (l.map (Pu.wt k)).sum := by
      intro l
      induction l with
      | nil => exact Nat.le_refl _
      | cons a l h => simp only [List.map_cons, List.sum_cons]; have := ih a; omega
    have h2 : ∀ l : List (Int × List ByteArray × Pu.TT k), (l.map fun c => Pu.size k c.2.2).sum ≤ (l.map fun c => 1 + c.2.1.length + Pu.wt k c.2.2).sum := by
      intro l
      induction l with
      | nil => exact Nat.le_refl _
      | cons a l h => simp only [List.map_cons, List.sum_cons]; have := ih a.2.2; omega
    show 1 + ((Pu.Node.args t).map (Pu.size k)).sum + ((Pu.Node.cases t).map fun c => Pu.size k c.2.2).sum ≤ 1 + (Pu.Node.vars t).length + ((Pu.Node.args t).map (Pu.wt k)).sum + ((Pu.Node.cases t).map fun c => 1 + c.2.1.length + Pu.wt k c.2.2).sum
    have := h1 (Pu.Node.args t)
    have := h2 (Pu.Node.cases t)
    omega
theorem fr_new {T : Nat → Prop} {a b c : World} (h : Fr No a b) (k : Fr T b c) (hT : ∀ i, T i → a.heap.size ≤ i) : Fr No a c := h.trans' k (fun i hi e => by have := hT i e; omega)
set_option maxHeartbeats 8000000 in
theorem rcheck_any (k B : Nat) (w : World) (v : Value) (l : List (Pu.Fn k)) (hl : Fns k B w v l) (hB : B ≤ w.heap.size) (hw : (l.map wf).sum ≤ 1073741824) :
    Calls Tryz.prog 6 #[v] w fun e w' => e = .returned (.int .i64 (Pu.check l)) ∧ Fr No w w' := by
  have hform : ∃ a cap, v = .slice a l.length cap ∧ l.length ≤ cap ∧ cap ≤ maxLen := by obtain ⟨acs, hr, _⟩ := hl; exact hr.form
  obtain ⟨a0, cp0, rfl, hcp1, hcp2⟩ := hform
  unfold maxLen at hcp2
  have HL := hide hl
  clear hl
  by_cases h1 : l.length = 0
  · have hv : Pu.check l = 5 := by unfold Pu.check; rw [if_pos (.inl (by omega))]
    rw [hv, h1]
    clear hcp1 HL hv
    go_enter Tryz.func6, Tryz.ntmps6
    go_wp2_with fail
    go_ret
    exact ⟨rfl, Fr.refl No w⟩
  have h1' : ¬ (l.length : Int) = 0 := by omega
  by_cases h6 : 6 < l.length
  · have h6' : 6 < (l.length : Int) := by omega
    have hv : Pu.check l = 5 := by unfold Pu.check; rw [if_pos (.inr h6)]
    rw [hv]
    go_enter Tryz.func6, Tryz.ntmps6
    go_wp2_with fail
    go_ret
    exact ⟨rfl, Fr.refl No w⟩
  have h6' : ¬ 6 < (l.length : Int) := by omega
  have hv : Pu.check l = if Pu.heads (fun _ => none) l = 0 then Pu.bodies (Pu.notes (fun _ => none) l) l else Pu.heads (fun _ => none) l := by unfold Pu.check; rw [if_neg (by omega)]
  have HV := hide hv
  clear hv
  have hmm := @run_makeMap Tryz.prog
  go_enter Tryz.func6, Tryz.ntmps6
  go_wp2_with fail
  clear hmm
  go_loopw [22] (fun q wr => ∃ i : Nat, i ≤ l.length ∧ q = .int .i64 i ∧ Fr No w wr ∧ MapC wr w.heap.size i (Pu.notes (fun _ => none) (l.take i)) ∧
    Pu.heads (fun _ => none) l = Pu.heads (Pu.notes (fun _ => none) (l.take i)) (l.drop i)) (fun q _ => l.length - (intOf q).toNat)
  case atStart => exact ⟨0, Nat.zero_le _, rfl, (Fr.refl No w).alloc _, MapC.made w, rfl⟩
  case round =>
    obtain ⟨i, hi, rfl, hf, hm, hch⟩ := hrel
    have ho : Old B w wr := hf.old hB (fun _ _ e => e)
    have hszw := hf.size
    have hml := hm.lt
    by_cases hlt : i < l.length
    · obtain ⟨g, o, cap, ag, an, ac, kd', n', x', y', b0, n0, e0, b1, n1, e1, b2, n2, e2, hav, hcap, hg, hgw, hnm, han, hxn, hrt, hcell⟩ := fns_at HL.out i hlt
      injection hav with hav1 _ hav2
      subst hav1 hav2
      have hcw : ∀ j, j < 9 → wr.cell? ⟨g, o + i * 9 + j, none⟩ = [Value.string l[i].1, .slice ag an ac, .int .i64 kd', .int .i64 n', .string x', .string y', .slice b0 n0 e0, .slice b1 n1 e1, .slice b2 n2 e2][j]? := fun j hj => by
        rw [ho.cell (a := ⟨g, o + i * 9 + j, none⟩) hg]; exact hcell j hj
      have q0 : wr.cell? ⟨g, o + i * 9, none⟩ = some (.string l[i].1) := hcw 0 (by omega)
      have q1 := hcw 1 (by omega)
      have q2 := hcw 2 (by omega)
      have q3 := hcw 3 (by omega)
      have q4 := hcw 4 (by omega)
      have q5 := hcw 5 (by omega)
      have q6 := hcw 6 (by omega)
      have q7 := hcw 7 (by omega)
      have q8 := hcw 8 (by omega)
      have hgl : g < wr.heap.size := by omega
      have hns := notes_succ l i hlt (fun _ => none)
      have hst := heads_step l i hlt (Pu.notes (fun _ => none) (l.take i))
      have hwi := wt_get wf l i hlt
      obtain ⟨f, hfd⟩ : ∃ f, f = l[i] := ⟨_, rfl⟩
      rw [← hfd] at hns hst hnm hrt han q0 hxn hwi
      subst han
      have hwf : wf f = 1 + f.2.1.length + Pu.wt k f.2.2 := rfl
      have hac : f.2.1.length ≤ ac ∧ ac ≤ 9223372036854775807 := by obtain ⟨_, _, h1, h2, h3⟩ := hnm.1.form; injection h1 with _ _ h1; unfold maxLen at h3; omega
      obtain ⟨hac1, hac2⟩ := hac
      obtain ⟨fns, hfns⟩ : ∃ fns, fns = Pu.notes (fun _ => none) (l.take i) := ⟨_, rfl⟩
      rw [← hfns] at hns hst hm hch
      obtain ⟨W, hW⟩ : ∃ W, W = wr.alloc (.cells #[.string f.1, .slice ag f.2.1.length ac, .int .i64 kd', .int .i64 n', .string x', .string y', .slice b0 n0 e0, .slice b1 n1 e1, .slice b2 n2 e2] 34) := ⟨_, rfl⟩
      have fW : Fr No wr W := by rw [hW]; exact (Fr.refl No wr).alloc _
      have g1 : W.heap[wr.heap.size]? = some (.cells #[.string f.1, .slice ag f.2.1.length ac, .int .i64 kd', .int .i64 n', .string x', .string y', .slice b0 n0 e0, .slice b1 n1 e1, .slice b2 n2 e2] 34 (0, 0)) := by rw [hW]; exact heap_alloc_new _ _
      have hlk := look_ok (hm.fr fW (fun e => e)) hxn
      have CN : Hid (∀ u, Calls Tryz.prog 22 #[.string f.1] u fun e w' => e = .returned (.bool (isName f.1)) ∧ Fr No u w') := fun u => (name_any f.1 u hxn).mono fun e w' ⟨he, n, hn⟩ => ⟨he, by rw [hn]; exact (Fr.refl No u).drewN n⟩
      have CT : Hid (∀ u, Fr No wr u → Calls Tryz.prog 23 #[.slice ag f.2.1.length ac] u fun e w' => e = .returned (.bool (twiceTo f.2.1 f.2.1.length)) ∧ w' = u) := fun u hu => twice_any B _ _ u ((hnm.kept ho (Nat.le_refl _) hszw).fr hu)
      have CB : Hid (∀ u, Fr No wr u → Calls Tryz.prog 24 #[.slice ag f.2.1.length ac] u fun e w' => e = .returned (.bool (badTo f.2.1 f.2.1.length)) ∧ Fr No u w') := fun u hu => bad_any B _ _ u ((hnm.kept ho (Nat.le_refl _) hszw).fr hu)
      have CZ : Hid (∀ u, Fr No wr u → Calls Tryz.prog 25 #[.agg #[.int .i64 kd', .int .i64 n', .string x', .string y', .slice b0 n0 e0, .slice b1 n1 e1, .slice b2 n2 e2]] u fun e w' => e = .returned (.int .i64 (Pu.size k f.2.2)) ∧ Fr No u w') := fun u hu =>
        rsize_all k B u _ f.2.2 (hrt.old (ho.trans (hu.old (by omega) (fun _ _ e => e))) (by have := hu.size; omega)) (by have := hu.size; omega) (by have := size_wt k f.2.2; omega)
      obtain ⟨sz, hsz⟩ : ∃ sz, sz = Pu.size k f.2.2 := ⟨_, rfl⟩
      obtain ⟨tb, htb⟩ : ∃ tb, tb = twiceTo f.2.1 f.2.1.length := ⟨_, rfl⟩
      obtain ⟨bb, hbb⟩ : ∃ bb, bb = badTo f.2.1 f.2.1.length := ⟨_, rfl⟩
      obtain ⟨ib, hib⟩ : ∃ ib, ib = isName f.1 := ⟨_, rfl⟩
      have hun := unlike_eq f.2.1
      rw [← hsz] at CZ
      rw [← htb] at CT hun
      rw [← hbb] at CB hun
      rw [← hib] at CN
      have HUN := hide hun
      have HSZ := hide hsz
      have HIB := hide hib
      have HNS := hide hns
      have HST := hide hst
      have HCH := hide hch
      have HFR := hide hf
      have HM := hide hm
      have FW := hide fW
      have G1 := hide g1
      have HXN := hide hxn
      have HO := hide ho
      have HFNS := hide hfns
      have i1 : (i : Int) < (l.length : Int) := by omega
      have i0 : (0 : Int) ≤ (i : Int) := by omega
      have hsz0 : sz ≤ 1073741824 := by rw [hsz]; have := size_wt k f.2.2; omega
      obtain ⟨r, hr⟩ : ∃ r, fns f.1 = r := ⟨_, rfl⟩
      rw [hr] at hlk
      have HR := hide hr
      clear hcw hcell hrt hnm hns hst hch hf hm ho hfd hxn hun hsz htb hbb hib fW g1 hfns hr hwf hwi
      have hwb : wr.heap.size < W.heap.size := lt_of_heap G1.out
      have E : Hid (∀ e : Int, Pu.head fns f = e → e ≠ 0 → Pu.check l = e) := fun e he h0 => by rw [HV.out, HCH.out, HST.out, he, if_neg h0, if_neg h0]
      have bx := cell_of_heap G1.out
      have hfg := frozen_of_heap G1.out
      cases r with
      | some m =>
        simp only [Option.getD_some, Option.isSome_some] at hlk
        have hv : Pu.head fns f = 7 := by unfold Pu.head; rw [if_pos (.inl (by rw [HR.out]; rfl))]
        have HEE := hide (E.out 7 hv (by decide))
        clear hv
        rw [hW] at hlk
        clear bx hfg
        go_wp2_with fail
        go_ret
        rw [HEE.out]
        exact ⟨rfl, HFR.out.alloc _⟩
      | none =>
        simp only [Option.getD_none, Option.isSome_none] at hlk
        rw [hW] at hlk
        clear bx hfg
        go_wp2_with fail
        rw [← hW]
        clear hlk q0 q1 q2 q3 q4 q5 q6 q7 q8
        refine (CN.out _).mono ?_
        rintro e w1 ⟨rfl, hf1⟩
        have F1 := hide (FW.out.trans hf1)
        have g1 := fr_heap G1.out hf1 (fun e => e)
        have G2 := hide g1
        have b1' := cell_of_heap g1
        clear hf1 g1 CN hW
        cases ib with
        | false =>
          have hv : Pu.head fns f = 7 := by unfold Pu.head; rw [if_pos (.inr (.inl HIB.out.symm))]
          have HEE := hide (E.out 7 hv (by decide))
          clear hv
          go_wp2_with fail
          go_ret
          rw [HEE.out]
          exact ⟨rfl, HFR.out.trans F1.out⟩
        | true =>
          have E7 : Hid (Pu.unlike f.2.1 = false → Pu.check l = 7) := fun hu => E.out 7 (by unfold Pu.head; rw [if_pos (.inr (.inr hu))]) (by decide)
          go_wp2_with fail
          refine (CT.out _ F1.out).mono ?_
          rintro e w2 ⟨rfl, hw2⟩
          rw [hw2]
          clear hw2 CT
          cases tb with
          | true =>
            have HEE := hide (E7.out (by rw [HUN.out]; rfl))
            go_wp2_with fail
            go_ret
            rw [HEE.out]
            exact ⟨rfl, HFR.out.trans F1.out⟩
          | false =>
          go_wp2_with fail
          refine (CB.out _ F1.out).mono ?_
          rintro e w2 ⟨rfl, hf2⟩
          have F2 := hide (F1.out.trans hf2)
          have g2 := fr_heap G2.out hf2 (fun e => e)
          clear b1'
          have b1' := cell_of_heap g2
          have G3 := hide g2
          clear hf2 g2 CB
          cases bb with
          | true =>
            have HEE := hide (E7.out (by rw [HUN.out]; rfl))
            go_wp2_with fail
            go_ret
            rw [HEE.out]
            exact ⟨rfl, HFR.out.trans F2.out⟩
          | false =>
          have hno : ¬ ((fns f.1).isSome = true ∨ isName f.1 = false ∨ Pu.unlike f.2.1 = false) := by rw [HR.out, ← HIB.out, HUN.out]; simp
          have HNO := hide hno
          clear hno E7
          by_cases h6 : 6 < f.2.1.length
          · have h6' : (6 : Int) < (f.2.1.length : Int) := by omega
            have HEE := hide (E.out 5 (by unfold Pu.head; rw [if_neg HNO.out, if_pos h6]) (by decide))
            go_wp2_with fail
            go_ret
            rw [HEE.out]
            exact ⟨rfl, HFR.out.trans F2.out⟩
          have h6' : ¬ (6 : Int) < (f.2.1.length : Int) := by omega
          go_wp2_with fail
          refine (CZ.out _ F2.out).mono ?_
          rintro e w3 ⟨rfl, hf3⟩
          have F3 := hide (F2.out.trans hf3)
          have g3 := fr_heap G3.out hf3 (fun e => e)
          clear b1'
          have b1' := cell_of_heap g3
          clear hf3 g3 CZ
          by_cases h4 : 400 < sz
          · have h4' : (400 : Int) < (sz : Int) := by omega
            have HEE := hide (E.out 4 (by unfold Pu.head; rw [if_neg HNO.out, if_neg h6, ← HSZ.out, if_pos h4]) (by decide))
            go_wp2_with fail
            go_ret
            rw [HEE.out]
            exact ⟨rfl, HFR.out.trans F3.out⟩
          have h4' : ¬ (400 : Int) < (sz : Int) := by omega
          have hv : Pu.head fns f = 0 := by unfold Pu.head; rw [if_neg HNO.out, if_neg h6, ← HSZ.out, if_neg h4]
          have HHD := hide hv
          have m3 := HM.out.fr F3.out (fun e => e)
          obtain ⟨kk, D, hkk, hown, hD⟩ := m3
          have HD := hide hD
          have hkey := keyS HXN.out
          clear hv hD E
          go_wp2_with (first
            | (at_mapUpdate; refine wpList_mapUpdate_own _ rfl _ _ _ 51 rfl 9 3 law Tryz.underlying51 _ w.heap.size kk _ rfl hown (by unfold maxLen; omega) _ _ _ rfl rfl hkey _ [] (plainElem_int Tryz.underlying3 (WalkArith.wf_i64 (by omega))) ?_; intro w4 hown4 hgrow4)
            | fail)
          have f4 : Fr (· = w.heap.size) w3 w4 := (Fr.refl _ w3).grown hgrow4 (fun j hj => by cases hj; exact .inl rfl)
          have F4 := hide (fr_new (HFR.out.trans F3.out) f4 (fun i e => by have e : i = w.heap.size := e; omega))
          have M4 := hide (MapC.put hkk hown4 hown.isMap HD.out)
          go_roundw
          case rel => exact ⟨i + 1, by omega, by go_num, F4.out, by rw [HNS.out]; exact M4.out, by rw [HCH.out, HST.out, HHD.out, if_pos rfl, HNS.out]⟩
          case measure => simp [intOf]; omega
    · have hil : i = l.length := by omega
      subst hil
      rw [List.drop_length] at hch
      rw [List.take_length] at hch hm
      have hh0 : Pu.heads (fun _ => none) l = 0 := by rw [hch]; rfl
      have hv2 : Pu.check l = Pu.bodies (Pu.notes (fun _ => none) l) l := by rw [HV.out, hh0, if_pos rfl]
      have HV2 := hide hv2
      obtain ⟨fns, hfns⟩ : ∃ fns, fns = Pu.notes (fun _ => none) l := ⟨_, rfl⟩
      rw [← hfns] at hm HV2
      have H1 := hide hf
      have H2 := hide hm
      clear hf hm hch hh0 hv2 HV hfns ho
      go_wp2_with fail
      go_loopw [67] (fun q wr => ∃ i : Nat, i ≤ l.length ∧ q = .int .i64 i ∧ Fr No w wr ∧ MapC wr w.heap.size l.length fns ∧
        Pu.bodies fns l = Pu.bodies fns (l.drop i)) (fun q _ => l.length - (intOf q).toNat)
      case atStart => exact ⟨0, Nat.zero_le _, rfl, H1.out, H2.out, rfl⟩
      case round =>
        clear H1 H2 hszw hml
        obtain ⟨i, hi, rfl, hf, hm, hch⟩ := hrel
        have ho : Old B w wr := hf.old hB (fun _ _ e => e)
        have hszw := hf.size
        by_cases hlt : i < l.length
        · obtain ⟨g, o, cap, ag, an, ac, kd', n', x', y', b0, n0, e0, b1, n1, e1, b2, n2, e2, hav, hcap, hg, hgw, hnm, han, hxn, hrt, hcell⟩ := fns_at HL.out i hlt
          injection hav with hav1 _ hav2
          subst hav1 hav2
          have hcw : ∀ j, j < 9 → wr.cell? ⟨g, o + i * 9 + j, none⟩ = [Value.string l[i].1, .slice ag an ac, .int .i64 kd', .int .i64 n', .string x', .string y', .slice b0 n0 e0, .slice b1 n1 e1, .slice b2 n2 e2][j]? := fun j hj => by
            rw [ho.cell (a := ⟨g, o + i * 9 + j, none⟩) hg]; exact hcell j hj
          have q0 : wr.cell? ⟨g, o + i * 9, none⟩ = some (.string l[i].1) := hcw 0 (by omega)
          have q1 := hcw 1 (by omega)
          have q2 := hcw 2 (by omega)
          have q3 := hcw 3 (by omega)
          have q4 := hcw 4 (by omega)
          have q5 := hcw 5 (by omega)
          have q6 := hcw 6 (by omega)
          have q7 := hcw 7 (by omega)
          have q8 := hcw 8 (by omega)
          have hgl : g < wr.heap.size := by omega
          have hst := bodies_step l i hlt fns
          have hwi := wt_get wf l i hlt
          obtain ⟨f, hfd⟩ : ∃ f, f = l[i] := ⟨_, rfl⟩
          rw [← hfd] at hst hnm hrt han q0 hxn hwi
          subst han
          have hwf : wf f = 1 + f.2.1.length + Pu.wt k f.2.2 := rfl
          have CW : Hid (∀ u, Fr No wr u → Calls Tryz.prog 26 #[.map (some w.heap.size), .agg #[.int .i64 kd', .int .i64 n', .string x', .string y', .slice b0 n0 e0, .slice b1 n1 e1, .slice b2 n2 e2], .slice ag f.2.1.length ac, .int .i64 0] u fun e w' => e = .returned (.int .i64 (Pu.term fns k (Pu.with' (fun _ => 0) f.2.1) f.2.2 0)) ∧ Fr No u w') := by
            intro u hu
            have ou : Old B w u := ho.trans (hu.old (by omega) (fun _ _ e => e))
            have su : w.heap.size ≤ u.heap.size := Nat.le_trans hszw hu.size
            exact rwrong_all k B B w.heap.size l.length u _ f.2.2 _ f.2.1 fns _ 0 (hrt.old ou su) (hnm.kept ou (Nat.le_refl _) su) (hm.fr hu (fun e => e)) (agree_params f.2.1) (by omega) (by omega) (by omega)
          obtain ⟨er, her⟩ : ∃ er, er = Pu.term fns k (Pu.with' (fun _ => 0) f.2.1) f.2.2 0 := ⟨_, rfl⟩
          rw [← her] at CW hst
          have HST := hide hst
          have HCH := hide hch
          have HFR := hide hf
          have HM := hide hm
          clear hcw hcell hrt hnm hst hch hf hm ho hfd hxn her hwf hwi
          have i1 : (i : Int) < (l.length : Int) := by omega
          have i0 : (0 : Int) ≤ (i : Int) := by omega
          go_wp2_with fail
          refine (CW.out _ ?_).mono ?_
          · exact (Fr.refl No wr).alloc _
          rintro e w1 ⟨rfl, hf1⟩
          have F1 := hide (((Fr.refl No wr).alloc _).trans hf1)
          clear hf1 CW q0 q1 q2 q3 q4 q5 q6 q7 q8
          by_cases h0 : er = 0
          · subst h0
            go_wp2_with fail
            go_roundw
            case rel => exact ⟨i + 1, by omega, by go_num, HFR.out.trans F1.out, HM.out.fr F1.out (fun e => e), by rw [HCH.out, HST.out]; first | exact if_pos rfl | exact if_pos trivial⟩
            case measure => simp [intOf]; omega
          · have hE : Pu.check l = er := by rw [HV2.out, HCH.out, HST.out, if_neg h0]
            have HEE := hide hE
            clear hE
            go_wp2_with fail
            go_ret
            rw [HEE.out]
            exact ⟨rfl, HFR.out.trans F1.out⟩
        · have hil : i = l.length := by omega
          subst hil
          rw [List.drop_length] at hch
          have HF := hide hf
          have HCH := hide hch
          clear hf hm hch ho
          go_wp2_with fail
          go_ret
          have hv : Pu.check l = 0 := by rw [HV2.out, HCH.out]; rfl
          rw [hv]
          exact ⟨rfl, HF.out⟩
end Go.Proofs.YtomahbdidlglfacGreatDoor
