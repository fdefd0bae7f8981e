/- The document's 'Wrong', walked: matches. -/
import Derived.Test.YtomahbdidlglfacGreatDoorO1O2O3C9O4O5W6Rs
import Derived.Test.YtomahbdidlglfacGreatDoorL3NpK1R1PfC3C4C6C7R6R7
namespace Go.Proofs.YtomahbdidlglfacGreatDoor
open Go.RowKit Go.Maps Go.WideMaps
set_option maxHeartbeats 16000000 in
set_option maxRecDepth 100000 in
theorem wrong_7 (k : Nat) (hS : RWrongC k) : RWrongK k 7 := by
  intro B Bn m K w cs t nv nm fns c d ht hkd hnm hm hag hB h24 hw
  obtain ⟨vv, av, cv, acs, ccs, rfl, hx, hnn, hvars, hr, he, hq, hf⟩ := ht
  obtain ⟨a0, d0, rfl, _⟩ := hvars.1.form
  obtain ⟨a1, d1, rfl, hd1, hd1'⟩ := hr.form
  obtain ⟨a2, d2, rfl, hd2, hd2'⟩ := hq.form
  obtain ⟨an0, cn0, rfl, hcn, hcn'⟩ := hnm.1.form
  have hkr : ¬ (t.kind < 1 ∨ 7 < t.kind) := by rw [hkd]; decide
  have hwt : nm.length + (1 + t.vars.length + (t.args.map (Pu.wt k)).sum + (t.cases.map fun c => 1 + c.2.1.length + Pu.wt k c.2.2).sum) ≤ 1073741824 := hw
  have h24' : ¬ 24 < (d : Int) := by omega
  have HKD := hide hkd
  have HWT := hide hwt
  have HX := hide hx
  have HR := hide hr
  have HE := hide he
  have HQ := hide hq
  have HF := hide hf
  have HS := hide hS
  have HNM := hide hnm
  have HM := hide hm
  have HAG := hide hag
  have H24 := hide h24
  have HKR := hide hkr
  unfold maxLen at hd1' hd2' hcn'
  show Calls Tryz.prog 26 #[.map (some m), .agg #[.int .i64 t.kind, .int .i64 t.n, .string t.name, .string t.token, .slice a0 t.vars.length d0, .slice a1 t.args.length d1, .slice a2 t.cases.length d2], .slice an0 nm.length cn0, .int .i64 d] w _
  rw [show t.kind = 7 from hkd]
  obtain ⟨na, hna⟩ : ∃ na, na = t.args.length := ⟨_, rfl⟩
  obtain ⟨nc, hnc⟩ : ∃ nc, nc = t.cases.length := ⟨_, rfl⟩
  rw [← hna, ← hnc]
  rw [← hna] at hd1
  rw [← hnc] at hd2
  have HNA := hide hna
  have HNC := hide hnc
  obtain ⟨csv, hcsv⟩ : ∃ csv : Array Value, csv = #[.int .i64 7, .int .i64 t.n, .string t.name, .string t.token, .slice a0 t.vars.length d0, .slice a1 na d1, .slice a2 nc d2] := ⟨_, rfl⟩
  have HCSV := hide hcsv
  clear hr he hq hf hS hvars hx hw hwt hnm hm hag hcsv h24 hkr hnn hkd hna hnc
  have FIT : Hid (Pu.fits t = decide (t.args.length = 1)) := by
    have e := HKD.out
    unfold Pu.fits
    rw [show t.kind = 7 from e]
    rfl
  by_cases hgt : 1 < na
  · have hgt' : (1 : Int) < (na : Int) := by omega
    have hE : Pu.term fns (k + 1) c t d = 5 := term_5 H24.out HKR.out (by rw [FIT.out]; exact decide_eq_false (by have := HNA.out; omega))
    rw [hE]
    clear hE
    go_enter Tryz.func26, Tryz.ntmps26
    go_wp2_with fail
    go_ret
    exact ⟨rfl, by repeat (first | exact Fr.refl _ _ | apply Fr.alloc)⟩
  by_cases hn0 : na = 0
  · subst hn0
    clear hgt
    have hE : Pu.term fns (k + 1) c t d = 5 := term_5 H24.out HKR.out (by rw [FIT.out]; exact decide_eq_false (by have := HNA.out; omega))
    rw [hE]
    clear hE
    go_enter Tryz.func26, Tryz.ntmps26
    go_wp2_with fail
    go_ret
    exact ⟨rfl, by repeat (first | exact Fr.refl _ _ | apply Fr.alloc)⟩
  have hna : na = 1 := by omega
  subst hna
  clear hgt hn0
  have HFIT : Hid (Pu.fits t = true) := by rw [FIT.out]; exact decide_eq_true (by have := HNA.out; omega)
  clear FIT
  have HV : Hid (Pu.term fns (k + 1) c t d = (if Pu.chkArgs (Pu.term fns k) c (decide (t.kind = 6)) t.name (d + 1) 0 t.args = 0 then (if t.kind = 7 then Pu.cases' (Pu.term fns k) c (d + 1) t.cases else 0) else Pu.chkArgs (Pu.term fns k) c (decide (t.kind = 6)) t.name (d + 1) 0 t.args)) := hide (term_0 (d := d) (fns := fns) (c := c) H24.out HKR.out HFIT.out (by have e := HKD.out; unfold Pu.alone; rw [show t.kind = 7 from e]; rfl))
  have HL6 : Hid (decide (t.kind = 6) = false) := by have e := HKD.out; rw [show t.kind = 7 from e]; rfl
  rw [HL6.out] at HV
  go_enter Tryz.func26, Tryz.ntmps26
  go_wp2_with fail
  go_loopw [133] (fun q wr => ∃ i : Nat, i ≤ 1 ∧ q = .int .i64 i ∧ Fr No w wr ∧ wr.heap[w.heap.size]? = some (.cells csv 32 (0, 0)) ∧ Pu.chkArgs (Pu.term fns k) c false t.name (d + 1) 0 t.args = Pu.chkArgs (Pu.term fns k) c false t.name (d + 1) i (t.args.drop i)) (fun q _ => 1 - (intOf q).toNat)
  case atStart => exact ⟨0, Nat.zero_le _, rfl, ((Fr.refl No w).alloc _).alloc _, by rw [HCSV.out]; exact fr_heap (T := No) (heap_alloc_new w _) ((Fr.refl No _).alloc _) (fun e => e), rfl⟩
  case round =>
    obtain ⟨i, hi, rfl, hfr, hbx, hch⟩ := hrel
    have HFR := hide hfr
    have HBX := hide hbx
    have HCH := hide hch
    have hszw := hfr.size
    have hbl : w.heap.size < wr.heap.size := lt_of_heap hbx
    have k0 := cell_of_heap hbx
    rw [HCSV.out] at k0
    by_cases hlt' : i < 1
    · have hlt : i < t.args.length := by rw [← HNA.out]; exact hlt'
      have ho : Old B w wr := hfr.old hB (fun _ _ e => e)
      obtain ⟨g, o, cap1, kd', n', x', y', b0, n0, e0, b1, n1, e1, b2, n2, e2, hav, hcap, hg, hgw, hrt, hcell⟩ := args_at HR.out HE.out i hlt
      injection hav with hav1 _ hav2
      subst hav1 hav2
      have hcw : ∀ j, j < 7 → wr.cell? ⟨g, o + i * 7 + j, none⟩ = [Value.int .i64 kd', .int .i64 n', .string x', .string y', .slice b0 n0 e0, .slice b1 n1 e1, .slice b2 n2 e2][j]? := fun j hj => by
        rw [ho.cell (a := ⟨g, o + i * 7 + j, none⟩) hg]; exact hcell j hj
      have q0 : wr.cell? ⟨g, o + i * 7, none⟩ = some (.int .i64 kd') := hcw 0 (by omega)
      have q1 := hcw 1 (by omega)
      have q2 := hcw 2 (by omega)
      have q3 := hcw 3 (by omega)
      have q4 := hcw 4 (by omega)
      have q5 := hcw 5 (by omega)
      have q6 := hcw 6 (by omega)
      have hgl : g < wr.heap.size := by omega
      have hst := chkArgs_step (Pu.term fns k) c false t.name (d + 1) t.args i hlt
      have hcast : ((d + 1 : Nat) : Int) = (d : Int) + 1 := by omega
      have CG : Hid (∀ W Bn' v l, Fr No wr W → Names Bn' W v (nm ++ l) → l = Pu.argNames false t.name i → l.length ≤ 1 → Calls Tryz.prog 26 #[.map (some m), .agg #[.int .i64 kd', .int .i64 n', .string x', .string y', .slice b0 n0 e0, .slice b1 n1 e1, .slice b2 n2 e2], v, .int .i64 ((d : Int) + 1)] W fun e w' => e = .returned (.int .i64 (Pu.term fns k (Pu.with' c (Pu.argNames false t.name i)) t.args[i] (d + 1))) ∧ Fr No W w') := by
        intro W Bn' v l hW hn hl hl1
        rw [← hl, ← hcast]
        exact HS.out B Bn' m K W _ t.args[i] v (nm ++ l) fns _ (d + 1) (hrt.old (ho.trans (hW.old (by omega) (fun _ _ e => e))) (by have := hW.size; omega)) hn (HM.out.fr (hfr.trans hW) (fun e => e)) (HAG.out.with l) (by have := hW.size; omega) (by omega) (by
          have := HWT.out
          have := sumW_le (Pu.wt k) t.args (i + 1)
          have := sumW_succ (Pu.wt k) t.args i hlt
          rw [List.length_append]; omega)
      obtain ⟨er, her⟩ : ∃ er, er = Pu.term fns k (Pu.with' c (Pu.argNames false t.name i)) t.args[i] (d + 1) := ⟨_, rfl⟩
      rw [← her] at hst CG
      have HST := hide hst
      clear hcw hcell hrt hst ho hfr hbx hch her hcast
      have i1 : (i : Int) < (1 : Int) := by omega
      have i0 : (0 : Int) ≤ (i : Int) := by omega
      have CN : Hid (∀ W, Fr No wr W → Calls Tryz.prog 26 #[.map (some m), .agg #[.int .i64 kd', .int .i64 n', .string x', .string y', .slice b0 n0 e0, .slice b1 n1 e1, .slice b2 n2 e2], .slice an0 nm.length cn0, .int .i64 ((d : Int) + 1)] W fun e w' => e = .returned (.int .i64 er) ∧ Fr No W w') := fun W hW =>
        CG.out W Bn _ [] hW (by rw [List.append_nil]; exact (HNM.out.fr HFR.out).fr hW) (rfl) (by simp)
      clear CG
      go_wp2_with fail
      refine (CN.out _ ?_).mono ?_
      · repeat (first | exact Fr.refl _ _ | apply Fr.alloc)
      rintro e w2 ⟨rfl, hf2⟩
      have F2 := hide (((Fr.refl No wr).alloc _).trans hf2)
      clear hf2 CN k0 q0 q1 q2 q3 q4 q5 q6
      by_cases h0 : er = 0
      · subst h0
        go_wp2_with fail
        go_roundw
        case rel => exact ⟨i + 1, by omega, by go_num, HFR.out.trans F2.out, fr_heap HBX.out F2.out (fun e => e), by rw [HCH.out, HST.out]; first | exact if_pos rfl | exact if_pos trivial⟩
        case measure => simp [intOf]; omega
      · have hE : Pu.term fns (k + 1) c t d = er := by rw [HV.out, HCH.out, HST.out, if_neg h0, if_neg h0]
        have HEE := hide hE
        clear hE
        go_wp2_with fail
        go_ret
        rw [HEE.out]
        exact ⟨rfl, HFR.out.trans F2.out⟩
    · have hil : i = 1 := by omega
      subst hil
      have hV2 : Pu.term fns (k + 1) c t d = Pu.cases' (Pu.term fns k) c (d + 1) t.cases := by
        have hdn : t.args.drop 1 = [] := by rw [List.drop_eq_nil_iff]; have := HNA.out; omega
        rw [HV.out, HCH.out, hdn]
        show (if (0 : Int) = 0 then (if t.kind = 7 then Pu.cases' (Pu.term fns k) c (d + 1) t.cases else (0 : Int)) else 0) = _
        have e := HKD.out
        rw [show t.kind = 7 from e]; rfl
      have HV2 := hide hV2
      clear hV2 hfr hbx hch
      by_cases hz : nc = 0
      · subst hz
        have hE : Pu.term fns (k + 1) c t d = 5 := by rw [HV2.out]; unfold Pu.cases'; rw [if_pos (.inl (by have := HNC.out; omega))]
        have HEE := hide hE
        clear hE
        go_wp2_with fail
        go_ret
        rw [HEE.out]
        exact ⟨rfl, HFR.out⟩
      have hz' : ¬ (nc : Int) = 0 := by omega
      by_cases h5 : 5 < nc
      · have h5' : (5 : Int) < (nc : Int) := by omega
        have hE : Pu.term fns (k + 1) c t d = 5 := by rw [HV2.out]; unfold Pu.cases'; rw [if_pos (.inr (by have := HNC.out; omega))]
        have HEE := hide hE
        clear hE
        go_wp2_with fail
        go_ret
        rw [HEE.out]
        exact ⟨rfl, HFR.out⟩
      have h5' : ¬ (5 : Int) < (nc : Int) := by omega
      have hV3 : Pu.term fns (k + 1) c t d = Pu.chkCases (Pu.term fns k) c (d + 1) [] t.cases := by rw [HV2.out]; unfold Pu.cases'; rw [if_neg (by have := HNC.out; omega)]
      have HV3 := hide hV3
      clear hV3
      go_wp2_with fail
      go_loopw [179] (fun q wr => ∃ i : Nat, i ≤ nc ∧ q = .int .i64 i ∧ Fr No w wr ∧ wr.heap[w.heap.size]? = some (.cells csv 32 (0, 0)) ∧ Pu.chkCases (Pu.term fns k) c (d + 1) [] t.cases = Pu.chkCases (Pu.term fns k) c (d + 1) (t.cases.take i) (t.cases.drop i)) (fun q _ => nc - (intOf q).toNat)
      case atStart => exact ⟨0, Nat.zero_le _, rfl, HFR.out, HBX.out, rfl⟩
      case round =>
        clear HFR HBX HCH HV HV2 hszw hbl k0 hlt' hi
        rename World => wo
        obtain ⟨i, hi, rfl, hfr, hbx, hch⟩ := hrel
        have HFR := hide hfr
        have HBX := hide hbx
        have HCH := hide hch
        have hszw := hfr.size
        have hbl : w.heap.size < wo.heap.size := lt_of_heap hbx
        have k0 := cell_of_heap hbx
        rw [HCSV.out] at k0
        by_cases hlt' : i < nc
        rotate_left
        · have hil : i = nc := by omega
          subst hil
          have hE : Pu.term fns (k + 1) c t d = 0 := by rw [HV3.out, HCH.out, HNC.out, List.drop_length]; rfl
          have HEE := hide hE
          clear hE hfr hbx hch
          go_wp2_with fail
          go_ret
          rw [HEE.out]
          exact ⟨rfl, HFR.out⟩
        have hlt : i < t.cases.length := by rw [← HNC.out]; exact hlt'
        have ho : Old B w wo := hfr.old hB (fun _ _ e => e)
        obtain ⟨g, o, cap, ag, an, ac, kd', n', x', y', b0, n0, e0, b1, n1, e1, b2, n2, e2, hav, hcap, hg, hgw, hnmc, han, hrt, hcell⟩ := cases_at HQ.out HF.out i hlt
        injection hav with hav1 _ hav2
        subst hav1 hav2
        have hcw : ∀ j, j < 9 → wo.cell? ⟨g, o + i * 9 + j, none⟩ = [Value.int .i64 t.cases[i].1, .slice ag an ac, .int .i64 kd', .int .i64 n', .string x', .string y', .slice b0 n0 e0, .slice b1 n1 e1, .slice b2 n2 e2][j]? := fun j hj => by
          rw [ho.cell (a := ⟨g, o + i * 9 + j, none⟩) hg]; exact hcell j hj
        have q0 : wo.cell? ⟨g, o + i * 9, none⟩ = some (.int .i64 t.cases[i].1) := hcw 0 (by omega)
        have q1 := hcw 1 (by omega)
        have q2 := hcw 2 (by omega)
        have q3 := hcw 3 (by omega)
        have q4 := hcw 4 (by omega)
        have q5 := hcw 5 (by omega)
        have q6 := hcw 6 (by omega)
        have q7 := hcw 7 (by omega)
        have q8 := hcw 8 (by omega)
        have hgl : g < wo.heap.size := by omega
        have hst := chkCases_step (Pu.term fns k) c (d + 1) t.cases i hlt
        have hss := sumW_succ (fun c : Int × List ByteArray × Pu.TT k => 1 + c.2.1.length + Pu.wt k c.2.2) t.cases i hlt
        obtain ⟨cse, hcse⟩ : ∃ cse, cse = t.cases[i] := ⟨_, rfl⟩
        rw [← hcse] at hst hnmc hrt han q0 hss
        subst han
        have hvl : cse.2.1.length ≤ ac := by obtain ⟨_, _, h1, h2, _⟩ := hnmc.1.form; injection h1 with _ _ h1; omega
        have hac : ac ≤ 9223372036854775807 := by obtain ⟨_, _, h1, _, h2⟩ := hnmc.1.form; injection h1 with _ _ h1; unfold maxLen at h2; omega
        have hcast : ((d + 1 : Nat) : Int) = (d : Int) + 1 := by omega
        have hsl := sumW_le (fun c : Int × List ByteArray × Pu.TT k => 1 + c.2.1.length + Pu.wt k c.2.2) t.cases (i + 1)
        have hnml : nm.length + cse.2.1.length ≤ 1073741824 := by have := HWT.out; omega
        have CN : Hid (∀ W v Bn', Fr No wo W → Names Bn' W v (nm ++ cse.2.1) → Calls Tryz.prog 26 #[.map (some m), .agg #[.int .i64 kd', .int .i64 n', .string x', .string y', .slice b0 n0 e0, .slice b1 n1 e1, .slice b2 n2 e2], v, .int .i64 ((d : Int) + 1)] W fun e w' => e = .returned (.int .i64 (Pu.term fns k (Pu.with' c cse.2.1) cse.2.2 (d + 1))) ∧ Fr No W w') := by
          intro W v Bn' hW hn
          rw [← hcast]
          exact HS.out B Bn' m K W _ cse.2.2 v (nm ++ cse.2.1) fns _ (d + 1) (hrt.old (ho.trans (hW.old (by omega) (fun _ _ e => e))) (by have := hW.size; omega)) hn (HM.out.fr (hfr.trans hW) (fun e => e)) (HAG.out.with cse.2.1) (by have := hW.size; omega) (by omega) (by
            have := HWT.out
            rw [List.length_append]; omega)
        have CT : Hid (∀ W, Fr No wo W → Calls Tryz.prog 23 #[.slice ag cse.2.1.length ac] W fun e w' => e = .returned (.bool (twiceTo cse.2.1 cse.2.1.length)) ∧ w' = W) := fun W hW => twice_any B _ _ W ((hnmc.fr hfr).fr hW)
        have CB : Hid (∀ W, Fr No wo W → Calls Tryz.prog 24 #[.slice ag cse.2.1.length ac] W fun e w' => e = .returned (.bool (badTo cse.2.1 cse.2.1.length)) ∧ Fr No W w') := fun W hW => bad_any B _ _ W ((hnmc.fr hfr).fr hW)
        have HNC2 := hide (hnmc.fr hfr)
        have HCW : Hid (∀ j, j < i → ∃ (u1 : Int) (u2 u3 : Nat) (u4 u5 : Int) (u6 : ByteArray) (z0 : Option Addr) (z1 : ByteArray) (z2 : Option Addr) (z3 z4 : Nat) (z5 : Option Addr) (z6 z7 : Nat) (z8 : Option Addr) (z9 z10 : Nat), (∀ W, Fr No wo W → ∀ r, r < 9 → W.cell? ⟨g, o + j * 9 + r, none⟩ = [Value.int .i64 u1, .slice z0 u2 u3, .int .i64 u4, .int .i64 u5, .string u6, .string z1, .slice z2 z3 z4, .slice z5 z6 z7, .slice z8 z9 z10][r]?) ∧ Pu.taken (t.cases.take (j + 1)) cse.1 = (Pu.taken (t.cases.take j) cse.1 || decide (u1 = cse.1))) := fun j hj => by
          obtain ⟨g', o', cap', ag', an', ac', kd2, n2', x2, y2, p0, p1, p2, p3, p4, p5, p6, p7, p8, hav', _, hg', _, _, _, _, hcell'⟩ := cases_at HQ.out HF.out j (by omega)
          injection hav' with h1 _ h2
          injection h1 with h1
          injection h1 with h1 h3 _
          subst h1 h3
          refine ⟨t.cases[j].1, an', ac', kd2, n2', x2, ag', y2, p0, p1, p2, p3, p4, p5, p6, p7, p8, fun W hW r hr => ?_, taken_snoc t.cases j (by omega) cse.1⟩
          rw [(ho.trans (hW.old (by omega) (fun _ _ e => e))).cell (a := ⟨g, o + j * 9 + r, none⟩) hg']
          exact hcell' r hr
        obtain ⟨er, her⟩ : ∃ er, er = Pu.term fns k (Pu.with' c cse.2.1) cse.2.2 (d + 1) := ⟨_, rfl⟩
        rw [← her] at hst CN
        have HST := hide hst
        clear hcw hcell hrt hst ho hfr hbx hch her hcast hnmc hss hsl hcse
        have i1 : (i : Int) < (nc : Int) := by omega
        have i0 : (0 : Int) ≤ (i : Int) := by omega
        have HOWN3 : Hid ((cse.1 < 0 ∨ 9 < cse.1) → Pu.term fns (k + 1) c t d = 3) := fun h => by
          have : Pu.caseOwn (t.cases.take i) cse = 3 := by unfold Pu.caseOwn Pu.isTag; rw [decide_eq_false (by omega), if_pos rfl]
          rw [HV3.out, HCH.out, HST.out, this]; rfl
        by_cases ht0 : cse.1 < 0
        · have HEE := hide (HOWN3.out (.inl ht0))
          clear HCW CN CT CB
          go_wp2_with fail
          go_ret
          rw [HEE.out]
          exact ⟨rfl, HFR.out.alloc _⟩
        by_cases ht9 : 9 < cse.1
        · have HEE := hide (HOWN3.out (.inr ht9))
          clear HCW CN CT CB
          go_wp2_with fail
          go_ret
          rw [HEE.out]
          exact ⟨rfl, HFR.out.alloc _⟩
        clear HOWN3
        have HTAG : Hid (Pu.isTag cse.1 = true) := by unfold Pu.isTag; exact decide_eq_true (by omega)
        obtain ⟨W1, hW1⟩ : ∃ W1, W1 = wo.alloc (.cells #[.int .i64 cse.1, .slice ag cse.2.1.length ac, .int .i64 kd', .int .i64 n', .string x', .string y', .slice b0 n0 e0, .slice b1 n1 e1, .slice b2 n2 e2] 58) := ⟨_, rfl⟩
        have fW1 : Fr No wo W1 := by rw [hW1]; exact (Fr.refl No wo).alloc _
        have hcb : W1.heap[wo.heap.size]? = some (.cells #[.int .i64 cse.1, .slice ag cse.2.1.length ac, .int .i64 kd', .int .i64 n', .string x', .string y', .slice b0 n0 e0, .slice b1 n1 e1, .slice b2 n2 e2] 58 (0, 0)) := by rw [hW1]; exact heap_alloc_new _ _
        have FW1 := hide fW1
        have HCB := hide hcb
        clear fW1 hcb
        go_wp2_with fail
        rw [← hW1]
        clear hW1 q0 q1 q2 q3 q4 q5 q6 q7 q8 k0
        go_loopw [197] (fun q wr => ∃ j : Nat, j ≤ i ∧ q = .int .i64 j ∧ Fr No W1 wr ∧ Pu.taken (t.cases.take j) cse.1 = false) (fun q _ => i - (intOf q).toNat)
        case atStart => exact ⟨0, Nat.zero_le _, rfl, Fr.refl _ _, rfl⟩
        case round =>
          obtain ⟨j, hj, rfl, hfi, htk⟩ := hrel
          have HFI := hide hfi
          have hsi := hfi.size
          have hcl := lt_of_heap HCB.out
          have cb := cell_of_heap (fr_heap HCB.out hfi (fun e => e))
          have HTK := hide htk
          clear hfi htk
          by_cases hjl : j < i
          · obtain ⟨u1, u2, u3, u4, u5, u6, z0, z1, z2, z3, z4, z5, z6, z7, z8, z9, z10, hjc, hts⟩ := HCW.out j hjl
            have hcw := hjc wr (FW1.out.trans HFI.out)
            have q0 : wr.cell? ⟨g, o + j * 9, none⟩ = some (.int .i64 u1) := hcw 0 (by omega)
            have q1 := hcw 1 (by omega)
            have q2 := hcw 2 (by omega)
            have q3 := hcw 3 (by omega)
            have q4 := hcw 4 (by omega)
            have q5 := hcw 5 (by omega)
            have q6 := hcw 6 (by omega)
            have q7 := hcw 7 (by omega)
            have q8 := hcw 8 (by omega)
            have HTS := hide hts
            clear hjc hcw hts
            have j1 : (j : Int) < (i : Int) := by omega
            have j0 : (0 : Int) ≤ (j : Int) := by omega
            have hgi : g < wr.heap.size := by omega
            have hwi : wo.heap.size < wr.heap.size := by omega
            by_cases hu : u1 = cse.1
            · have hu' : (u1 == cse.1) = true := by simp [hu]
              have hE : Pu.term fns (k + 1) c t d = 7 := by
                have h1 : Pu.taken (t.cases.take (j + 1)) cse.1 = true := by rw [HTS.out, decide_eq_true hu]; simp
                have h2 : Pu.taken (t.cases.take i) cse.1 = true := by
                  unfold Pu.taken at h1 ⊢
                  rw [List.any_eq_true] at h1 ⊢
                  obtain ⟨y, hy, hy2⟩ := h1
                  exact ⟨y, List.take_subset_take_left _ (by omega) hy, hy2⟩
                have : Pu.caseOwn (t.cases.take i) cse = 7 := by unfold Pu.caseOwn; rw [HTAG.out, h2, if_neg (by decide), if_pos (.inl rfl)]
                rw [HV3.out, HCH.out, HST.out, this]; rfl
              have HEE := hide hE
              clear hE
              subst hu
              go_wp2_with fail
              go_ret
              rw [HEE.out]
              exact ⟨rfl, ((HFR.out.trans FW1.out).trans HFI.out).alloc _⟩
            · have hu' : (u1 == cse.1) = false := by simp [hu]
              go_wp2_with fail
              go_roundw
              case rel => exact ⟨j + 1, by omega, by go_num, HFI.out.alloc _, by rw [HTS.out, HTK.out, decide_eq_false hu]; rfl⟩
              case measure => simp [intOf]; omega
          · have hji : i = j := by omega
            subst hji
            clear HCW hjl
            obtain ⟨tb, htb⟩ : ∃ tb, tb = twiceTo cse.2.1 cse.2.1.length := ⟨_, rfl⟩
            obtain ⟨bb, hbb⟩ : ∃ bb, bb = badTo cse.2.1 cse.2.1.length := ⟨_, rfl⟩
            rw [← htb] at CT
            rw [← hbb] at CB
            have hun := unlike_eq cse.2.1
            rw [← htb, ← hbb] at hun
            have HUN := hide hun
            clear htb hbb hun
            have F0 : Hid (Fr No wo wr) := FW1.out.trans HFI.out
            have HC0 := hide (fr_heap HCB.out HFI.out (fun e => e))
            have E7 : Hid (Pu.unlike cse.2.1 = false → Pu.term fns (k + 1) c t d = 7) := fun hu => by
              have : Pu.caseOwn (t.cases.take i) cse = 7 := by unfold Pu.caseOwn; rw [HTAG.out, hu, if_neg (by decide), if_pos (.inr rfl)]
              rw [HV3.out, HCH.out, HST.out, this]; rfl
            go_wp2_with fail
            refine (CT.out _ F0.out).mono ?_
            rintro e w2 ⟨rfl, hw2⟩
            rw [hw2]
            clear hw2 CT
            cases tb with
            | true =>
              have HEE := hide (E7.out (by rw [HUN.out]; rfl))
              go_wp2_with fail
              go_ret
              rw [HEE.out]
              exact ⟨rfl, HFR.out.trans F0.out⟩
            | false =>
            go_wp2_with fail
            refine (CB.out _ F0.out).mono ?_
            rintro e w2 ⟨rfl, hf2⟩
            have F2 := hide (F0.out.trans hf2)
            have c2 := fr_heap HC0.out hf2 (fun e => e)
            have HC2 := hide c2
            clear cb CB
            have cb := cell_of_heap c2
            clear hf2 c2
            cases bb with
            | true =>
              have HEE := hide (E7.out (by rw [HUN.out]; rfl))
              go_wp2_with fail
              go_ret
              rw [HEE.out]
              exact ⟨rfl, HFR.out.trans F2.out⟩
            | false =>
            have HUN2 : Hid (Pu.unlike cse.2.1 = true) := by rw [HUN.out]; rfl
            clear E7 HUN
            by_cases h6 : 6 < cse.2.1.length
            · have h6' : (6 : Int) < (cse.2.1.length : Int) := by omega
              have hE : Pu.term fns (k + 1) c t d = 5 := by
                have : Pu.caseOwn (t.cases.take i) cse = 5 := by unfold Pu.caseOwn; rw [HTAG.out, HUN2.out, HTK.out, if_neg (by decide), if_neg (by decide), if_pos h6]
                rw [HV3.out, HCH.out, HST.out, this]; rfl
              have HEE := hide hE
              clear hE
              go_wp2_with fail
              go_ret
              rw [HEE.out]
              exact ⟨rfl, HFR.out.trans F2.out⟩
            have h6' : ¬ (6 : Int) < (cse.2.1.length : Int) := by omega
            have hown : Pu.caseOwn (t.cases.take i) cse = 0 := by unfold Pu.caseOwn; rw [HTAG.out, HUN2.out, HTK.out, if_neg (by decide), if_neg (by decide), if_neg h6]
            have HO := hide hown
            clear hown
            obtain ⟨WA, hWA⟩ : ∃ WA, WA = w2 := ⟨_, rfl⟩
            obtain ⟨C, hC⟩ : ∃ C, C = wo.heap.size := ⟨_, rfl⟩
            have SA : Hid (∀ w' : World, Fr No WA w' → (w'.cell? ⟨C, 1, none⟩ = some (.slice ag cse.2.1.length ac) ∧ w'.cell? ⟨C, 2, none⟩ = some (.int .i64 kd') ∧ w'.cell? ⟨C, 2 + 1, none⟩ = some (.int .i64 n') ∧ w'.cell? ⟨C, 2 + 2, none⟩ = some (.string x') ∧ w'.cell? ⟨C, 2 + 3, none⟩ = some (.string y') ∧ w'.cell? ⟨C, 2 + 4, none⟩ = some (.slice b0 n0 e0) ∧ w'.cell? ⟨C, 2 + 5, none⟩ = some (.slice b1 n1 e1) ∧ w'.cell? ⟨C, 2 + 6, none⟩ = some (.slice b2 n2 e2) ∧ Fr No WA w')) := fun W hW => by
              have hh : W.heap[C]? = some (.cells #[.int .i64 cse.1, .slice ag cse.2.1.length ac, .int .i64 kd', .int .i64 n', .string x', .string y', .slice b0 n0 e0, .slice b1 n1 e1, .slice b2 n2 e2] 58 (0, 0)) := by rw [hC]; exact fr_heap HC2.out (by rw [← hWA]; exact hW) (fun e => e)
              have h1 := cell_of_heap hh
              exact ⟨h1 1, h1 2, h1 3, h1 4, h1 5, h1 6, h1 7, h1 8, hW⟩
            have SAL : Hid (∀ (W : World) o, (W.cell? ⟨C, 1, none⟩ = some (.slice ag cse.2.1.length ac) ∧ W.cell? ⟨C, 2, none⟩ = some (.int .i64 kd') ∧ W.cell? ⟨C, 2 + 1, none⟩ = some (.int .i64 n') ∧ W.cell? ⟨C, 2 + 2, none⟩ = some (.string x') ∧ W.cell? ⟨C, 2 + 3, none⟩ = some (.string y') ∧ W.cell? ⟨C, 2 + 4, none⟩ = some (.slice b0 n0 e0) ∧ W.cell? ⟨C, 2 + 5, none⟩ = some (.slice b1 n1 e1) ∧ W.cell? ⟨C, 2 + 6, none⟩ = some (.slice b2 n2 e2) ∧ Fr No WA W) → ((W.alloc o).cell? ⟨C, 1, none⟩ = some (.slice ag cse.2.1.length ac) ∧ (W.alloc o).cell? ⟨C, 2, none⟩ = some (.int .i64 kd') ∧ (W.alloc o).cell? ⟨C, 2 + 1, none⟩ = some (.int .i64 n') ∧ (W.alloc o).cell? ⟨C, 2 + 2, none⟩ = some (.string x') ∧ (W.alloc o).cell? ⟨C, 2 + 3, none⟩ = some (.string y') ∧ (W.alloc o).cell? ⟨C, 2 + 4, none⟩ = some (.slice b0 n0 e0) ∧ (W.alloc o).cell? ⟨C, 2 + 5, none⟩ = some (.slice b1 n1 e1) ∧ (W.alloc o).cell? ⟨C, 2 + 6, none⟩ = some (.slice b2 n2 e2) ∧ Fr No WA (W.alloc o))) := fun W o hW => SA.out _ (hW.2.2.2.2.2.2.2.2.alloc o)
            have NMW : Hid (∀ W : World, Fr No WA W → Names Bn W (.slice an0 nm.length cn0) nm) := fun W hW => ((HNM.out.fr HFR.out).fr F2.out).fr (by rw [← hWA]; exact hW)
            have VNW : Hid (∀ W : World, Fr No WA W → Names B W (.slice ag cse.2.1.length ac) cse.2.1) := fun W hW => (HNC2.out.fr F2.out).fr (by rw [← hWA]; exact hW)
            have GR : Hid (∀ (W w' : World) (v : Value) (n : Nat) (xs : List Value), Fr No WA W → W.ownsRow WA.heap.size 9 1 v n xs → W.grownBy w' v.ownBlock → (w'.cell? ⟨C, 1, none⟩ = some (.slice ag cse.2.1.length ac) ∧ w'.cell? ⟨C, 2, none⟩ = some (.int .i64 kd') ∧ w'.cell? ⟨C, 2 + 1, none⟩ = some (.int .i64 n') ∧ w'.cell? ⟨C, 2 + 2, none⟩ = some (.string x') ∧ w'.cell? ⟨C, 2 + 3, none⟩ = some (.string y') ∧ w'.cell? ⟨C, 2 + 4, none⟩ = some (.slice b0 n0 e0) ∧ w'.cell? ⟨C, 2 + 5, none⟩ = some (.slice b1 n1 e1) ∧ w'.cell? ⟨C, 2 + 6, none⟩ = some (.slice b2 n2 e2) ∧ Fr No WA w')) := fun W W' v n xs hW hr hg => SA.out _ (hW.grown hg (fun a ha => .inr (hr.lt a ha).1))
            have CALL : Hid (∀ (w6 : World) (v6 : Value), Fr No WA w6 → w6.ownsRow WA.heap.size 9 1 v6 (0 + nm.length + cse.2.1.length) (([] ++ nm.map .string) ++ cse.2.1.map .string) → Calls Tryz.prog 26 #[.map (some m), .agg #[.int .i64 kd', .int .i64 n', .string x', .string y', .slice b0 n0 e0, .slice b1 n1 e1, .slice b2 n2 e2], v6, .int .i64 (IntKind.i64.wrap ((d : Int) + 1))] w6 fun e w' => e = .returned (.int .i64 er) ∧ (w'.cell? ⟨C, 1, none⟩ = some (.slice ag cse.2.1.length ac) ∧ w'.cell? ⟨C, 2, none⟩ = some (.int .i64 kd') ∧ w'.cell? ⟨C, 2 + 1, none⟩ = some (.int .i64 n') ∧ w'.cell? ⟨C, 2 + 2, none⟩ = some (.string x') ∧ w'.cell? ⟨C, 2 + 3, none⟩ = some (.string y') ∧ w'.cell? ⟨C, 2 + 4, none⟩ = some (.slice b0 n0 e0) ∧ w'.cell? ⟨C, 2 + 5, none⟩ = some (.slice b1 n1 e1) ∧ w'.cell? ⟨C, 2 + 6, none⟩ = some (.slice b2 n2 e2) ∧ Fr No WA w')) := fun w6 v6 hf ho6 => by
              rw [IntWalk.i64_in _ (by have := H24.out; omega)]
              have hnm6 : Names w6.heap.size w6 v6 (nm ++ cse.2.1) := names_of_rowL (b := WA.heap.size) (by simpa using ho6) (fun y hy => by
                rcases List.mem_append.1 hy with h | h
                · exact HNM.out.2 y h
                · exact HNC2.out.2 y h)
              refine (CN.out w6 v6 _ (F2.out.trans (by rw [← hWA]; exact hf)) hnm6).mono ?_
              rintro e w' ⟨he, hf'⟩
              exact ⟨he, SA.out _ (hf.trans hf')⟩
            have D0 : Fr No WA WA.drew := (Fr.refl No WA).drew
            have HZ := hide (SA.out WA.drew D0)
            have HWA := hide hWA
            have F2' : Hid (Fr No wo WA) := by rw [hWA]; exact F2.out
            clear F2
            go_wp2_with fail
            rw [← hWA, ← hC]
            clear hWA hC cb CN HWA
            go_region_held3 (fun w' : World => w'.cell? ⟨C, 1, none⟩ = some (.slice ag cse.2.1.length ac) ∧ w'.cell? ⟨C, 2, none⟩ = some (.int .i64 kd') ∧ w'.cell? ⟨C, 2 + 1, none⟩ = some (.int .i64 n') ∧ w'.cell? ⟨C, 2 + 2, none⟩ = some (.string x') ∧ w'.cell? ⟨C, 2 + 3, none⟩ = some (.string y') ∧ w'.cell? ⟨C, 2 + 4, none⟩ = some (.slice b0 n0 e0) ∧ w'.cell? ⟨C, 2 + 5, none⟩ = some (.slice b1 n1 e1) ∧ w'.cell? ⟨C, 2 + 6, none⟩ = some (.slice b2 n2 e2) ∧ Fr No WA w') (first | with_reducible assumption | with_reducible exact HZ.out | exact SAL.out _ _ (by first | with_reducible assumption | exact HZ.out))
              (first
                | (go_at_call 26; refine (CALL.out _ _ f6 ho6).mono ?_; rintro e w7 ⟨rfl, hz7⟩)
                | (refine step_append_names rfl (.tmp 222) (.tmp 223) rfl rfl (base := WA.heap.size) (B := Bn) (n := 0) (xs := []) (l := nm) rfl rfl (by exact row_d0 _) (NMW.out _ (by first | with_reducible assumption | exact fr_d1 _ _ | exact D0)) (by omega) (Fr.size (T := No) (by first | with_reducible assumption | exact fr_d1 _ _ | exact D0)) ?_; intro v5 w5 ho5 hg5 hl5; have hz5 := GR.out _ _ _ _ _ (by first | with_reducible assumption | exact fr_d1 _ _ | exact D0) (by exact row_d0 _) hg5; have f5 := hz5.2.2.2.2.2.2.2.2)
                | (refine step_append_names rfl (.tmp 224) (.tmp 226) rfl rfl (base := WA.heap.size) (B := B) (n := 0 + nm.length) (xs := [] ++ nm.map Value.string) (l := cse.2.1) rfl rfl (by exact ho5) (VNW.out _ f5) (by omega) f5.size ?_; intro v6 w6 ho6 hg6 hl6; have hz6 := GR.out _ _ _ _ _ f5 ho5 hg6; have f6 := hz6.2.2.2.2.2.2.2.2))
            all_goals
              have F7 := hide (F2'.out.trans hz7.2.2.2.2.2.2.2.2)
              clear hz7 f6 ho6 hg6 hl6 hz6 f5 ho5 hg5 hl5 hz5
              by_cases h0 : er = 0
              · subst h0
                go_wp2_with fail
                go_roundw
                case rel => exact ⟨i + 1, by omega, by go_num, HFR.out.trans F7.out, fr_heap HBX.out F7.out (fun e => e), by rw [HCH.out, HST.out, HO.out, if_pos rfl]; exact if_pos rfl⟩
                case measure => simp [intOf]; omega
              · have hE : Pu.term fns (k + 1) c t d = er := by rw [HV3.out, HCH.out, HST.out, HO.out, if_pos rfl, if_neg h0]
                have HEE := hide hE
                clear hE
                go_wp2_with fail
                go_ret
                rw [HEE.out]
                exact ⟨rfl, HFR.out.trans F7.out⟩
end Go.Proofs.YtomahbdidlglfacGreatDoor
