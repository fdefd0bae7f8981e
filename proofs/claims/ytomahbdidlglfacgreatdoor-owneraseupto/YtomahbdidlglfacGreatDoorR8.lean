/- The document's 'Wrong', walked: names, numbers, constructors, calls, primitives. -/
import Derived.Test.YtomahbdidlglfacGreatDoorL3NpK1R1PfC3C4C6C7R6R7
namespace Go.Proofs.YtomahbdidlglfacGreatDoor
open Go.RowKit Go.Maps Go.WideMaps
set_option maxHeartbeats 8000000 in
set_option maxRecDepth 100000 in
theorem wrong_1 (k : Nat) (hS : RWrongC k) : RWrongK k 1 := by
  intro B Bn m K w cs t nv nm fns c d ht hkd hnm hm hag hB h24 hw
  obtain ⟨vv, av, cv, acs, ccs, rfl, hx, hnn, hvars, hr, he, hq, hf⟩ := ht
  obtain ⟨a0, d0, rfl, _⟩ := hvars.1.form
  obtain ⟨a1, d1, rfl, hd1, hd1'⟩ := hr.form
  obtain ⟨a2, d2, rfl, hd2, hd2'⟩ := hq.form
  obtain ⟨an0, cn0, rfl, hcn, hcn'⟩ := hnm.1.form
  have hkr : ¬ (t.kind < 1 ∨ 7 < t.kind) := by rw [hkd]; decide
  have hwt : nm.length + (1 + t.vars.length + (t.args.map (Pu.wt k)).sum + (t.cases.map fun c => 1 + c.2.1.length + Pu.wt k c.2.2).sum) ≤ 1073741824 := hw
  have h24' : ¬ 24 < (d : Int) := by omega
  have HKD := hide hkd
  have HWT := hide hwt
  have HX := hide hx
  have HR := hide hr
  have HE := hide he
  have HQ := hide hq
  have HF := hide hf
  have HS := hide hS
  have HNM := hide hnm
  have HM := hide hm
  have HAG := hide hag
  have H24 := hide h24
  have HKR := hide hkr
  unfold maxLen at hd1' hd2' hcn'
  show Calls Tryz.prog 26 #[.map (some m), .agg #[.int .i64 t.kind, .int .i64 t.n, .string t.name, .string t.token, .slice a0 t.vars.length d0, .slice a1 t.args.length d1, .slice a2 t.cases.length d2], .slice an0 nm.length cn0, .int .i64 d] w _
  rw [show t.kind = 1 from hkd]
  obtain ⟨na, hna⟩ : ∃ na, na = t.args.length := ⟨_, rfl⟩
  obtain ⟨nc, hnc⟩ : ∃ nc, nc = t.cases.length := ⟨_, rfl⟩
  rw [← hna, ← hnc]
  rw [← hna] at hd1
  rw [← hnc] at hd2
  have HNA := hide hna
  have HNC := hide hnc
  obtain ⟨csv, hcsv⟩ : ∃ csv : Array Value, csv = #[.int .i64 1, .int .i64 t.n, .string t.name, .string t.token, .slice a0 t.vars.length d0, .slice a1 na d1, .slice a2 nc d2] := ⟨_, rfl⟩
  have HCSV := hide hcsv
  clear hr he hq hf hS hvars hx hw hwt hnm hm hag hcsv h24 hkr hnn hkd hna hnc
  have FIT : Hid (Pu.fits t = decide (t.args.length = 0 ∧ t.cases.length = 0)) := by
    have e := HKD.out
    unfold Pu.fits
    rw [show t.kind = 1 from e]
    rfl
  by_cases hgt : 0 < na
  · have hgt' : (0 : Int) < (na : Int) := by omega
    have hE : Pu.term fns (k + 1) c t d = 5 := term_5 H24.out HKR.out (by rw [FIT.out]; exact decide_eq_false (by have := HNA.out; have := HNC.out; omega))
    rw [hE]
    clear hE
    go_enter Tryz.func26, Tryz.ntmps26
    go_wp2_with fail
    go_ret
    exact ⟨rfl, by repeat (first | exact Fr.refl _ _ | apply Fr.alloc)⟩
  have hna : na = 0 := by omega
  subst hna
  clear hgt
  by_cases hca : 0 < nc
  · have hca' : (0 : Int) < (nc : Int) := by omega
    have hE : Pu.term fns (k + 1) c t d = 5 := term_5 H24.out HKR.out (by rw [FIT.out]; exact decide_eq_false (by have := HNA.out; have := HNC.out; omega))
    rw [hE]
    clear hE
    go_enter Tryz.func26, Tryz.ntmps26
    go_wp2_with fail
    go_ret
    exact ⟨rfl, by repeat (first | exact Fr.refl _ _ | apply Fr.alloc)⟩
  have hnc : nc = 0 := by omega
  subst hnc
  clear hca
  have HFIT : Hid (Pu.fits t = true) := by rw [FIT.out]; exact decide_eq_true (by have := HNA.out; have := HNC.out; omega)
  clear FIT
  have CH : Hid (∀ W, Fr No w W → Calls Tryz.prog 48 #[.slice an0 nm.length cn0, .string t.name] W fun e w' => e = .returned (.bool (Pu.has nm t.name)) ∧ w' = W) := fun W hW => has_any Bn _ nm t.name W (HNM.out.fr hW)
  obtain ⟨hb, hhb⟩ : ∃ hb, hb = Pu.has nm t.name := ⟨_, rfl⟩
  rw [← hhb] at CH
  have hal : Pu.alone fns c t = Pu.orErr hb 6 := by have e := HKD.out; unfold Pu.alone; rw [show t.kind = 1 from e]; show Pu.orErr (decide (0 < c t.name)) 6 = _; rw [HAG.out t.name, hhb]
  have HAL := hide hal
  clear hal hhb
  go_enter Tryz.func26, Tryz.ntmps26
  go_wp2_with fail
  refine (CH.out _ ?_).mono ?_
  · repeat (first | exact Fr.refl _ _ | apply Fr.alloc)
  rintro e w4 ⟨rfl, hw4⟩
  rw [hw4]
  clear hw4 CH
  cases hb with
  | false =>
    have hE : Pu.term fns (k + 1) c t d = 6 := term_e (e := 6) H24.out HKR.out HFIT.out (by rw [HAL.out]; rfl) (by decide)
    have HEE := hide hE
    clear hE
    go_wp2_with fail
    go_ret
    rw [HEE.out]
    exact ⟨rfl, by repeat (first | exact Fr.refl _ _ | apply Fr.alloc)⟩
  | true =>
  have HV : Hid (Pu.term fns (k + 1) c t d = (if Pu.chkArgs (Pu.term fns k) c (decide (t.kind = 6)) t.name (d + 1) 0 t.args = 0 then (if t.kind = 7 then Pu.cases' (Pu.term fns k) c (d + 1) t.cases else 0) else Pu.chkArgs (Pu.term fns k) c (decide (t.kind = 6)) t.name (d + 1) 0 t.args)) := hide (term_0 (d := d) (fns := fns) (c := c) H24.out HKR.out HFIT.out (by rw [HAL.out]; rfl))
  go_wp2_with fail
  have HL6 : Hid (decide (t.kind = 6) = false) := by have e := HKD.out; rw [show t.kind = 1 from e]; rfl
  rw [HL6.out] at HV
  go_loopw [133] (fun q wr => ∃ i : Nat, i ≤ 0 ∧ q = .int .i64 i ∧ Fr No w wr ∧ wr.heap[w.heap.size]? = some (.cells csv 32 (0, 0)) ∧ Pu.chkArgs (Pu.term fns k) c false t.name (d + 1) 0 t.args = Pu.chkArgs (Pu.term fns k) c false t.name (d + 1) i (t.args.drop i)) (fun q _ => 0 - (intOf q).toNat)
  case atStart => exact ⟨0, Nat.zero_le _, rfl, ((Fr.refl No w).alloc _).alloc _, by rw [HCSV.out]; exact fr_heap (T := No) (heap_alloc_new w _) ((Fr.refl No _).alloc _) (fun e => e), rfl⟩
  case round =>
    obtain ⟨i, hi, rfl, hfr, hbx, hch⟩ := hrel
    have HFR := hide hfr
    have HBX := hide hbx
    have HCH := hide hch
    have hszw := hfr.size
    have hbl : w.heap.size < wr.heap.size := lt_of_heap hbx
    have k0 := cell_of_heap hbx
    rw [HCSV.out] at k0
    by_cases hlt' : i < 0
    · exact absurd hlt' (by omega)
    · have hil : i = 0 := by omega
      subst hil
      have hE : Pu.term fns (k + 1) c t d = 0 := by
        rw [HV.out, HCH.out, HNA.out, List.drop_length]
        show (if (0 : Int) = 0 then (if t.kind = 7 then _ else (0 : Int)) else 0) = 0
        have e := HKD.out
        rw [show t.kind = 1 from e]; rfl
      have HEE := hide hE
      clear hE hfr hbx hch
      go_wp2_with fail
      go_ret
      rw [HEE.out]
      exact ⟨rfl, HFR.out⟩
set_option maxHeartbeats 8000000 in
set_option maxRecDepth 100000 in
theorem wrong_2 (k : Nat) (hS : RWrongC k) : RWrongK k 2 := by
  intro B Bn m K w cs t nv nm fns c d ht hkd hnm hm hag hB h24 hw
  obtain ⟨vv, av, cv, acs, ccs, rfl, hx, hnn, hvars, hr, he, hq, hf⟩ := ht
  obtain ⟨a0, d0, rfl, _⟩ := hvars.1.form
  obtain ⟨a1, d1, rfl, hd1, hd1'⟩ := hr.form
  obtain ⟨a2, d2, rfl, hd2, hd2'⟩ := hq.form
  obtain ⟨an0, cn0, rfl, hcn, hcn'⟩ := hnm.1.form
  have hkr : ¬ (t.kind < 1 ∨ 7 < t.kind) := by rw [hkd]; decide
  have hwt : nm.length + (1 + t.vars.length + (t.args.map (Pu.wt k)).sum + (t.cases.map fun c => 1 + c.2.1.length + Pu.wt k c.2.2).sum) ≤ 1073741824 := hw
  have h24' : ¬ 24 < (d : Int) := by omega
  have HKD := hide hkd
  have HWT := hide hwt
  have HX := hide hx
  have HR := hide hr
  have HE := hide he
  have HQ := hide hq
  have HF := hide hf
  have HS := hide hS
  have HNM := hide hnm
  have HM := hide hm
  have HAG := hide hag
  have H24 := hide h24
  have HKR := hide hkr
  unfold maxLen at hd1' hd2' hcn'
  show Calls Tryz.prog 26 #[.map (some m), .agg #[.int .i64 t.kind, .int .i64 t.n, .string t.name, .string t.token, .slice a0 t.vars.length d0, .slice a1 t.args.length d1, .slice a2 t.cases.length d2], .slice an0 nm.length cn0, .int .i64 d] w _
  rw [show t.kind = 2 from hkd]
  obtain ⟨na, hna⟩ : ∃ na, na = t.args.length := ⟨_, rfl⟩
  obtain ⟨nc, hnc⟩ : ∃ nc, nc = t.cases.length := ⟨_, rfl⟩
  rw [← hna, ← hnc]
  rw [← hna] at hd1
  rw [← hnc] at hd2
  have HNA := hide hna
  have HNC := hide hnc
  obtain ⟨csv, hcsv⟩ : ∃ csv : Array Value, csv = #[.int .i64 2, .int .i64 t.n, .string t.name, .string t.token, .slice a0 t.vars.length d0, .slice a1 na d1, .slice a2 nc d2] := ⟨_, rfl⟩
  have HCSV := hide hcsv
  clear hr he hq hf hS hvars hx hw hwt hnm hm hag hcsv h24 hkr hnn hkd hna hnc
  have FIT : Hid (Pu.fits t = decide (t.args.length = 0 ∧ t.cases.length = 0)) := by
    have e := HKD.out
    unfold Pu.fits
    rw [show t.kind = 2 from e]
    rfl
  by_cases hgt : 0 < na
  · have hgt' : (0 : Int) < (na : Int) := by omega
    have hE : Pu.term fns (k + 1) c t d = 5 := term_5 H24.out HKR.out (by rw [FIT.out]; exact decide_eq_false (by have := HNA.out; have := HNC.out; omega))
    rw [hE]
    clear hE
    go_enter Tryz.func26, Tryz.ntmps26
    go_wp2_with fail
    go_ret
    exact ⟨rfl, by repeat (first | exact Fr.refl _ _ | apply Fr.alloc)⟩
  have hna : na = 0 := by omega
  subst hna
  clear hgt
  by_cases hca : 0 < nc
  · have hca' : (0 : Int) < (nc : Int) := by omega
    have hE : Pu.term fns (k + 1) c t d = 5 := term_5 H24.out HKR.out (by rw [FIT.out]; exact decide_eq_false (by have := HNA.out; have := HNC.out; omega))
    rw [hE]
    clear hE
    go_enter Tryz.func26, Tryz.ntmps26
    go_wp2_with fail
    go_ret
    exact ⟨rfl, by repeat (first | exact Fr.refl _ _ | apply Fr.alloc)⟩
  have hnc : nc = 0 := by omega
  subst hnc
  clear hca
  have HFIT : Hid (Pu.fits t = true) := by rw [FIT.out]; exact decide_eq_true (by have := HNA.out; have := HNC.out; omega)
  clear FIT
  by_cases hlo : t.n < -2147483648
  · have hE : Pu.term fns (k + 1) c t d = 3 := term_e (e := 3) H24.out HKR.out HFIT.out (by have e := HKD.out; unfold Pu.alone; rw [show t.kind = 2 from e]; show Pu.orErr (decide (-2147483648 ≤ t.n ∧ t.n ≤ 2147483647)) 3 = _; rw [decide_eq_false (by omega)]; rfl) (by decide)
    rw [hE]
    clear hE
    go_enter Tryz.func26, Tryz.ntmps26
    go_wp2_with fail
    go_ret
    exact ⟨rfl, by repeat (first | exact Fr.refl _ _ | apply Fr.alloc)⟩
  by_cases hhi : 2147483647 < t.n
  · have hE : Pu.term fns (k + 1) c t d = 3 := term_e (e := 3) H24.out HKR.out HFIT.out (by have e := HKD.out; unfold Pu.alone; rw [show t.kind = 2 from e]; show Pu.orErr (decide (-2147483648 ≤ t.n ∧ t.n ≤ 2147483647)) 3 = _; rw [decide_eq_false (by omega)]; rfl) (by decide)
    rw [hE]
    clear hE
    go_enter Tryz.func26, Tryz.ntmps26
    go_wp2_with fail
    go_ret
    exact ⟨rfl, by repeat (first | exact Fr.refl _ _ | apply Fr.alloc)⟩
  have HV : Hid (Pu.term fns (k + 1) c t d = (if Pu.chkArgs (Pu.term fns k) c (decide (t.kind = 6)) t.name (d + 1) 0 t.args = 0 then (if t.kind = 7 then Pu.cases' (Pu.term fns k) c (d + 1) t.cases else 0) else Pu.chkArgs (Pu.term fns k) c (decide (t.kind = 6)) t.name (d + 1) 0 t.args)) := hide (term_0 (d := d) (fns := fns) (c := c) H24.out HKR.out HFIT.out (by have e := HKD.out; unfold Pu.alone; rw [show t.kind = 2 from e]; show Pu.orErr (decide (-2147483648 ≤ t.n ∧ t.n ≤ 2147483647)) 3 = _; rw [decide_eq_true (by omega)]; rfl))
  go_enter Tryz.func26, Tryz.ntmps26
  go_wp2_with fail
  have HL6 : Hid (decide (t.kind = 6) = false) := by have e := HKD.out; rw [show t.kind = 2 from e]; rfl
  rw [HL6.out] at HV
  go_loopw [133] (fun q wr => ∃ i : Nat, i ≤ 0 ∧ q = .int .i64 i ∧ Fr No w wr ∧ wr.heap[w.heap.size]? = some (.cells csv 32 (0, 0)) ∧ Pu.chkArgs (Pu.term fns k) c false t.name (d + 1) 0 t.args = Pu.chkArgs (Pu.term fns k) c false t.name (d + 1) i (t.args.drop i)) (fun q _ => 0 - (intOf q).toNat)
  case atStart => exact ⟨0, Nat.zero_le _, rfl, ((Fr.refl No w).alloc _).alloc _, by rw [HCSV.out]; exact fr_heap (T := No) (heap_alloc_new w _) ((Fr.refl No _).alloc _) (fun e => e), rfl⟩
  case round =>
    obtain ⟨i, hi, rfl, hfr, hbx, hch⟩ := hrel
    have HFR := hide hfr
    have HBX := hide hbx
    have HCH := hide hch
    have hszw := hfr.size
    have hbl : w.heap.size < wr.heap.size := lt_of_heap hbx
    have k0 := cell_of_heap hbx
    rw [HCSV.out] at k0
    by_cases hlt' : i < 0
    · exact absurd hlt' (by omega)
    · have hil : i = 0 := by omega
      subst hil
      have hE : Pu.term fns (k + 1) c t d = 0 := by
        rw [HV.out, HCH.out, HNA.out, List.drop_length]
        show (if (0 : Int) = 0 then (if t.kind = 7 then _ else (0 : Int)) else 0) = 0
        have e := HKD.out
        rw [show t.kind = 2 from e]; rfl
      have HEE := hide hE
      clear hE hfr hbx hch
      go_wp2_with fail
      go_ret
      rw [HEE.out]
      exact ⟨rfl, HFR.out⟩
set_option maxHeartbeats 8000000 in
set_option maxRecDepth 100000 in
theorem wrong_3 (k : Nat) (hS : RWrongC k) : RWrongK k 3 := by
  intro B Bn m K w cs t nv nm fns c d ht hkd hnm hm hag hB h24 hw
  obtain ⟨vv, av, cv, acs, ccs, rfl, hx, hnn, hvars, hr, he, hq, hf⟩ := ht
  obtain ⟨a0, d0, rfl, _⟩ := hvars.1.form
  obtain ⟨a1, d1, rfl, hd1, hd1'⟩ := hr.form
  obtain ⟨a2, d2, rfl, hd2, hd2'⟩ := hq.form
  obtain ⟨an0, cn0, rfl, hcn, hcn'⟩ := hnm.1.form
  have hkr : ¬ (t.kind < 1 ∨ 7 < t.kind) := by rw [hkd]; decide
  have hwt : nm.length + (1 + t.vars.length + (t.args.map (Pu.wt k)).sum + (t.cases.map fun c => 1 + c.2.1.length + Pu.wt k c.2.2).sum) ≤ 1073741824 := hw
  have h24' : ¬ 24 < (d : Int) := by omega
  have HKD := hide hkd
  have HWT := hide hwt
  have HX := hide hx
  have HR := hide hr
  have HE := hide he
  have HQ := hide hq
  have HF := hide hf
  have HS := hide hS
  have HNM := hide hnm
  have HM := hide hm
  have HAG := hide hag
  have H24 := hide h24
  have HKR := hide hkr
  unfold maxLen at hd1' hd2' hcn'
  show Calls Tryz.prog 26 #[.map (some m), .agg #[.int .i64 t.kind, .int .i64 t.n, .string t.name, .string t.token, .slice a0 t.vars.length d0, .slice a1 t.args.length d1, .slice a2 t.cases.length d2], .slice an0 nm.length cn0, .int .i64 d] w _
  rw [show t.kind = 3 from hkd]
  obtain ⟨na, hna⟩ : ∃ na, na = t.args.length := ⟨_, rfl⟩
  obtain ⟨nc, hnc⟩ : ∃ nc, nc = t.cases.length := ⟨_, rfl⟩
  rw [← hna, ← hnc]
  rw [← hna] at hd1
  rw [← hnc] at hd2
  have HNA := hide hna
  have HNC := hide hnc
  obtain ⟨csv, hcsv⟩ : ∃ csv : Array Value, csv = #[.int .i64 3, .int .i64 t.n, .string t.name, .string t.token, .slice a0 t.vars.length d0, .slice a1 na d1, .slice a2 nc d2] := ⟨_, rfl⟩
  have HCSV := hide hcsv
  clear hr he hq hf hS hvars hx hw hwt hnm hm hag hcsv h24 hkr hnn hkd hna hnc
  have FIT : Hid (Pu.fits t = decide (t.args.length ≤ 6 ∧ t.cases.length = 0)) := by
    have e := HKD.out
    unfold Pu.fits
    rw [show t.kind = 3 from e]
    rfl
  by_cases hgt : 6 < na
  · have hgt' : (6 : Int) < (na : Int) := by omega
    have hE : Pu.term fns (k + 1) c t d = 5 := term_5 H24.out HKR.out (by rw [FIT.out]; exact decide_eq_false (by have := HNA.out; have := HNC.out; omega))
    rw [hE]
    clear hE
    go_enter Tryz.func26, Tryz.ntmps26
    go_wp2_with fail
    go_ret
    exact ⟨rfl, by repeat (first | exact Fr.refl _ _ | apply Fr.alloc)⟩
  have hgt' : ¬ (6 : Int) < (na : Int) := by omega
  by_cases hca : 0 < nc
  · have hca' : (0 : Int) < (nc : Int) := by omega
    have hE : Pu.term fns (k + 1) c t d = 5 := term_5 H24.out HKR.out (by rw [FIT.out]; exact decide_eq_false (by have := HNA.out; have := HNC.out; omega))
    rw [hE]
    clear hE
    go_enter Tryz.func26, Tryz.ntmps26
    go_wp2_with fail
    go_ret
    exact ⟨rfl, by repeat (first | exact Fr.refl _ _ | apply Fr.alloc)⟩
  have hnc : nc = 0 := by omega
  subst hnc
  clear hca
  have HFIT : Hid (Pu.fits t = true) := by rw [FIT.out]; exact decide_eq_true (by have := HNA.out; have := HNC.out; omega)
  clear FIT
  by_cases hlo : t.n < 0
  · have hE : Pu.term fns (k + 1) c t d = 3 := term_e (e := 3) H24.out HKR.out HFIT.out (by have e := HKD.out; unfold Pu.alone; rw [show t.kind = 3 from e]; show Pu.orErr (decide (0 ≤ t.n ∧ t.n ≤ 9)) 3 = _; rw [decide_eq_false (by omega)]; rfl) (by decide)
    rw [hE]
    clear hE
    go_enter Tryz.func26, Tryz.ntmps26
    go_wp2_with fail
    go_ret
    exact ⟨rfl, by repeat (first | exact Fr.refl _ _ | apply Fr.alloc)⟩
  by_cases hhi : 9 < t.n
  · have hE : Pu.term fns (k + 1) c t d = 3 := term_e (e := 3) H24.out HKR.out HFIT.out (by have e := HKD.out; unfold Pu.alone; rw [show t.kind = 3 from e]; show Pu.orErr (decide (0 ≤ t.n ∧ t.n ≤ 9)) 3 = _; rw [decide_eq_false (by omega)]; rfl) (by decide)
    rw [hE]
    clear hE
    go_enter Tryz.func26, Tryz.ntmps26
    go_wp2_with fail
    go_ret
    exact ⟨rfl, by repeat (first | exact Fr.refl _ _ | apply Fr.alloc)⟩
  have HV : Hid (Pu.term fns (k + 1) c t d = (if Pu.chkArgs (Pu.term fns k) c (decide (t.kind = 6)) t.name (d + 1) 0 t.args = 0 then (if t.kind = 7 then Pu.cases' (Pu.term fns k) c (d + 1) t.cases else 0) else Pu.chkArgs (Pu.term fns k) c (decide (t.kind = 6)) t.name (d + 1) 0 t.args)) := hide (term_0 (d := d) (fns := fns) (c := c) H24.out HKR.out HFIT.out (by have e := HKD.out; unfold Pu.alone; rw [show t.kind = 3 from e]; show Pu.orErr (decide (0 ≤ t.n ∧ t.n ≤ 9)) 3 = _; rw [decide_eq_true (by omega)]; rfl))
  go_enter Tryz.func26, Tryz.ntmps26
  go_wp2_with fail
  have HL6 : Hid (decide (t.kind = 6) = false) := by have e := HKD.out; rw [show t.kind = 3 from e]; rfl
  rw [HL6.out] at HV
  go_loopw [133] (fun q wr => ∃ i : Nat, i ≤ na ∧ q = .int .i64 i ∧ Fr No w wr ∧ wr.heap[w.heap.size]? = some (.cells csv 32 (0, 0)) ∧ Pu.chkArgs (Pu.term fns k) c false t.name (d + 1) 0 t.args = Pu.chkArgs (Pu.term fns k) c false t.name (d + 1) i (t.args.drop i)) (fun q _ => na - (intOf q).toNat)
  case atStart => exact ⟨0, Nat.zero_le _, rfl, ((Fr.refl No w).alloc _).alloc _, by rw [HCSV.out]; exact fr_heap (T := No) (heap_alloc_new w _) ((Fr.refl No _).alloc _) (fun e => e), rfl⟩
  case round =>
    obtain ⟨i, hi, rfl, hfr, hbx, hch⟩ := hrel
    have HFR := hide hfr
    have HBX := hide hbx
    have HCH := hide hch
    have hszw := hfr.size
    have hbl : w.heap.size < wr.heap.size := lt_of_heap hbx
    have k0 := cell_of_heap hbx
    rw [HCSV.out] at k0
    by_cases hlt' : i < na
    · have hlt : i < t.args.length := by rw [← HNA.out]; exact hlt'
      have ho : Old B w wr := hfr.old hB (fun _ _ e => e)
      obtain ⟨g, o, cap1, kd', n', x', y', b0, n0, e0, b1, n1, e1, b2, n2, e2, hav, hcap, hg, hgw, hrt, hcell⟩ := args_at HR.out HE.out i hlt
      injection hav with hav1 _ hav2
      subst hav1 hav2
      have hcw : ∀ j, j < 7 → wr.cell? ⟨g, o + i * 7 + j, none⟩ = [Value.int .i64 kd', .int .i64 n', .string x', .string y', .slice b0 n0 e0, .slice b1 n1 e1, .slice b2 n2 e2][j]? := fun j hj => by
        rw [ho.cell (a := ⟨g, o + i * 7 + j, none⟩) hg]; exact hcell j hj
      have q0 : wr.cell? ⟨g, o + i * 7, none⟩ = some (.int .i64 kd') := hcw 0 (by omega)
      have q1 := hcw 1 (by omega)
      have q2 := hcw 2 (by omega)
      have q3 := hcw 3 (by omega)
      have q4 := hcw 4 (by omega)
      have q5 := hcw 5 (by omega)
      have q6 := hcw 6 (by omega)
      have hgl : g < wr.heap.size := by omega
      have hst := chkArgs_step (Pu.term fns k) c false t.name (d + 1) t.args i hlt
      have hcast : ((d + 1 : Nat) : Int) = (d : Int) + 1 := by omega
      have CG : Hid (∀ W Bn' v l, Fr No wr W → Names Bn' W v (nm ++ l) → l = Pu.argNames false t.name i → l.length ≤ 1 → Calls Tryz.prog 26 #[.map (some m), .agg #[.int .i64 kd', .int .i64 n', .string x', .string y', .slice b0 n0 e0, .slice b1 n1 e1, .slice b2 n2 e2], v, .int .i64 ((d : Int) + 1)] W fun e w' => e = .returned (.int .i64 (Pu.term fns k (Pu.with' c (Pu.argNames false t.name i)) t.args[i] (d + 1))) ∧ Fr No W w') := by
        intro W Bn' v l hW hn hl hl1
        rw [← hl, ← hcast]
        exact HS.out B Bn' m K W _ t.args[i] v (nm ++ l) fns _ (d + 1) (hrt.old (ho.trans (hW.old (by omega) (fun _ _ e => e))) (by have := hW.size; omega)) hn (HM.out.fr (hfr.trans hW) (fun e => e)) (HAG.out.with l) (by have := hW.size; omega) (by omega) (by
          have := HWT.out
          have := sumW_le (Pu.wt k) t.args (i + 1)
          have := sumW_succ (Pu.wt k) t.args i hlt
          rw [List.length_append]; omega)
      obtain ⟨er, her⟩ : ∃ er, er = Pu.term fns k (Pu.with' c (Pu.argNames false t.name i)) t.args[i] (d + 1) := ⟨_, rfl⟩
      rw [← her] at hst CG
      have HST := hide hst
      clear hcw hcell hrt hst ho hfr hbx hch her hcast
      have i1 : (i : Int) < (na : Int) := by omega
      have i0 : (0 : Int) ≤ (i : Int) := by omega
      have CN : Hid (∀ W, Fr No wr W → Calls Tryz.prog 26 #[.map (some m), .agg #[.int .i64 kd', .int .i64 n', .string x', .string y', .slice b0 n0 e0, .slice b1 n1 e1, .slice b2 n2 e2], .slice an0 nm.length cn0, .int .i64 ((d : Int) + 1)] W fun e w' => e = .returned (.int .i64 er) ∧ Fr No W w') := fun W hW =>
        CG.out W Bn _ [] hW (by rw [List.append_nil]; exact (HNM.out.fr HFR.out).fr hW) (rfl) (by simp)
      clear CG
      go_wp2_with fail
      refine (CN.out _ ?_).mono ?_
      · repeat (first | exact Fr.refl _ _ | apply Fr.alloc)
      rintro e w2 ⟨rfl, hf2⟩
      have F2 := hide (((Fr.refl No wr).alloc _).trans hf2)
      clear hf2 CN k0 q0 q1 q2 q3 q4 q5 q6
      by_cases h0 : er = 0
      · subst h0
        go_wp2_with fail
        go_roundw
        case rel => exact ⟨i + 1, by omega, by go_num, HFR.out.trans F2.out, fr_heap HBX.out F2.out (fun e => e), by rw [HCH.out, HST.out]; first | exact if_pos rfl | exact if_pos trivial⟩
        case measure => simp [intOf]; omega
      · have hE : Pu.term fns (k + 1) c t d = er := by rw [HV.out, HCH.out, HST.out, if_neg h0, if_neg h0]
        have HEE := hide hE
        clear hE
        go_wp2_with fail
        go_ret
        rw [HEE.out]
        exact ⟨rfl, HFR.out.trans F2.out⟩
    · have hil : i = na := by omega
      subst hil
      have hE : Pu.term fns (k + 1) c t d = 0 := by
        rw [HV.out, HCH.out, HNA.out, List.drop_length]
        show (if (0 : Int) = 0 then (if t.kind = 7 then _ else (0 : Int)) else 0) = 0
        have e := HKD.out
        rw [show t.kind = 3 from e]; rfl
      have HEE := hide hE
      clear hE hfr hbx hch
      go_wp2_with fail
      go_ret
      rw [HEE.out]
      exact ⟨rfl, HFR.out⟩
set_option maxHeartbeats 8000000 in
set_option maxRecDepth 100000 in
theorem wrong_4 (k : Nat) (hS : RWrongC k) : RWrongK k 4 := by
  intro B Bn m K w cs t nv nm fns c d ht hkd hnm hm hag hB h24 hw
  obtain ⟨vv, av, cv, acs, ccs, rfl, hx, hnn, hvars, hr, he, hq, hf⟩ := ht
  obtain ⟨a0, d0, rfl, _⟩ := hvars.1.form
  obtain ⟨a1, d1, rfl, hd1, hd1'⟩ := hr.form
  obtain ⟨a2, d2, rfl, hd2, hd2'⟩ := hq.form
  obtain ⟨an0, cn0, rfl, hcn, hcn'⟩ := hnm.1.form
  have hkr : ¬ (t.kind < 1 ∨ 7 < t.kind) := by rw [hkd]; decide
  have hwt : nm.length + (1 + t.vars.length + (t.args.map (Pu.wt k)).sum + (t.cases.map fun c => 1 + c.2.1.length + Pu.wt k c.2.2).sum) ≤ 1073741824 := hw
  have h24' : ¬ 24 < (d : Int) := by omega
  have HKD := hide hkd
  have HWT := hide hwt
  have HX := hide hx
  have HR := hide hr
  have HE := hide he
  have HQ := hide hq
  have HF := hide hf
  have HS := hide hS
  have HNM := hide hnm
  have HM := hide hm
  have HAG := hide hag
  have H24 := hide h24
  have HKR := hide hkr
  unfold maxLen at hd1' hd2' hcn'
  show Calls Tryz.prog 26 #[.map (some m), .agg #[.int .i64 t.kind, .int .i64 t.n, .string t.name, .string t.token, .slice a0 t.vars.length d0, .slice a1 t.args.length d1, .slice a2 t.cases.length d2], .slice an0 nm.length cn0, .int .i64 d] w _
  rw [show t.kind = 4 from hkd]
  obtain ⟨na, hna⟩ : ∃ na, na = t.args.length := ⟨_, rfl⟩
  obtain ⟨nc, hnc⟩ : ∃ nc, nc = t.cases.length := ⟨_, rfl⟩
  rw [← hna, ← hnc]
  rw [← hna] at hd1
  rw [← hnc] at hd2
  have HNA := hide hna
  have HNC := hide hnc
  obtain ⟨csv, hcsv⟩ : ∃ csv : Array Value, csv = #[.int .i64 4, .int .i64 t.n, .string t.name, .string t.token, .slice a0 t.vars.length d0, .slice a1 na d1, .slice a2 nc d2] := ⟨_, rfl⟩
  have HCSV := hide hcsv
  clear hr he hq hf hS hvars hx hw hwt hnm hm hag hcsv h24 hkr hnn hkd hna hnc
  have FIT : Hid (Pu.fits t = decide (t.args.length ≤ 6 ∧ t.cases.length = 0)) := by
    have e := HKD.out
    unfold Pu.fits
    rw [show t.kind = 4 from e]
    rfl
  by_cases hgt : 6 < na
  · have hgt' : (6 : Int) < (na : Int) := by omega
    have hE : Pu.term fns (k + 1) c t d = 5 := term_5 H24.out HKR.out (by rw [FIT.out]; exact decide_eq_false (by have := HNA.out; have := HNC.out; omega))
    rw [hE]
    clear hE
    go_enter Tryz.func26, Tryz.ntmps26
    go_wp2_with fail
    go_ret
    exact ⟨rfl, by repeat (first | exact Fr.refl _ _ | apply Fr.alloc)⟩
  have hgt' : ¬ (6 : Int) < (na : Int) := by omega
  by_cases hca : 0 < nc
  · have hca' : (0 : Int) < (nc : Int) := by omega
    have hE : Pu.term fns (k + 1) c t d = 5 := term_5 H24.out HKR.out (by rw [FIT.out]; exact decide_eq_false (by have := HNA.out; have := HNC.out; omega))
    rw [hE]
    clear hE
    go_enter Tryz.func26, Tryz.ntmps26
    go_wp2_with fail
    go_ret
    exact ⟨rfl, by repeat (first | exact Fr.refl _ _ | apply Fr.alloc)⟩
  have hnc : nc = 0 := by omega
  subst hnc
  clear hca
  have HFIT : Hid (Pu.fits t = true) := by rw [FIT.out]; exact decide_eq_true (by have := HNA.out; have := HNC.out; omega)
  clear FIT
  have hlk := look_ok (HM.out.fr (((Fr.refl No w).alloc (.cells #[.int .i64 4, .int .i64 t.n, .string t.name, .string t.token, .slice a0 t.vars.length d0, .slice a1 na d1, .slice a2 0 d2] 32)).alloc (.cells #[.int .i64 0, .int .i64 0, .int .i64 0, .int .i64 6, .int .i64 6, .int .i64 2, .int .i64 2, .int .i64 1] 3)) (fun e => e)) HX.out
  obtain ⟨fx, hfx⟩ : ∃ fx, fns t.name = fx := ⟨_, rfl⟩
  rw [hfx] at hlk
  cases fx with
  | none =>
    have hlk' : (Instr.lookup 51 (.map (some m)) (.string t.name) true).run Tryz.prog ((w.alloc (.cells #[.int .i64 4, .int .i64 t.n, .string t.name, .string t.token, .slice a0 t.vars.length d0, .slice a1 na d1, .slice a2 0 d2] 32)).alloc (.cells #[.int .i64 0, .int .i64 0, .int .i64 0, .int .i64 6, .int .i64 6, .int .i64 2, .int .i64 2, .int .i64 1] 3)) = .ok (.tuple #[.int .i64 0, .bool false]) ((w.alloc (.cells #[.int .i64 4, .int .i64 t.n, .string t.name, .string t.token, .slice a0 t.vars.length d0, .slice a1 na d1, .slice a2 0 d2] 32)).alloc (.cells #[.int .i64 0, .int .i64 0, .int .i64 0, .int .i64 6, .int .i64 6, .int .i64 2, .int .i64 2, .int .i64 1] 3)) := hlk
    clear hlk
    have hE : Pu.term fns (k + 1) c t d = 6 := term_e (e := 6) H24.out HKR.out HFIT.out (by have e := HKD.out; unfold Pu.alone; rw [show t.kind = 4 from e]; show (match fns t.name with | none => 6 | some n => Pu.orErr (decide (n = (t.args.length : Int))) 5) = _; rw [← HNA.out]; rw [hfx]) (by decide)
    rw [hE]
    clear hE
    go_enter Tryz.func26, Tryz.ntmps26
    go_wp2_with fail
    go_ret
    exact ⟨rfl, by repeat (first | exact Fr.refl _ _ | apply Fr.alloc)⟩
  | some fa =>
  have hlk' : (Instr.lookup 51 (.map (some m)) (.string t.name) true).run Tryz.prog ((w.alloc (.cells #[.int .i64 4, .int .i64 t.n, .string t.name, .string t.token, .slice a0 t.vars.length d0, .slice a1 na d1, .slice a2 0 d2] 32)).alloc (.cells #[.int .i64 0, .int .i64 0, .int .i64 0, .int .i64 6, .int .i64 6, .int .i64 2, .int .i64 2, .int .i64 1] 3)) = .ok (.tuple #[.int .i64 fa, .bool true]) ((w.alloc (.cells #[.int .i64 4, .int .i64 t.n, .string t.name, .string t.token, .slice a0 t.vars.length d0, .slice a1 na d1, .slice a2 0 d2] 32)).alloc (.cells #[.int .i64 0, .int .i64 0, .int .i64 0, .int .i64 6, .int .i64 6, .int .i64 2, .int .i64 2, .int .i64 1] 3)) := hlk
  clear hlk
  by_cases hfa : fa = (na : Int)
  rotate_left
  · have hfa' : (fa != (na : Int)) = true := by simp; omega
    have hE : Pu.term fns (k + 1) c t d = 5 := term_e (e := 5) H24.out HKR.out HFIT.out (by have e := HKD.out; unfold Pu.alone; rw [show t.kind = 4 from e]; show (match fns t.name with | none => 6 | some n => Pu.orErr (decide (n = (t.args.length : Int))) 5) = _; rw [← HNA.out]; rw [hfx]; show Pu.orErr _ _ = _; rw [decide_eq_false hfa]; rfl) (by decide)
    rw [hE]
    clear hE
    go_enter Tryz.func26, Tryz.ntmps26
    go_wp2_with fail
    go_ret
    exact ⟨rfl, by repeat (first | exact Fr.refl _ _ | apply Fr.alloc)⟩
  have hfa' : (fa != (na : Int)) = false := by simp; omega
  have HV : Hid (Pu.term fns (k + 1) c t d = (if Pu.chkArgs (Pu.term fns k) c (decide (t.kind = 6)) t.name (d + 1) 0 t.args = 0 then (if t.kind = 7 then Pu.cases' (Pu.term fns k) c (d + 1) t.cases else 0) else Pu.chkArgs (Pu.term fns k) c (decide (t.kind = 6)) t.name (d + 1) 0 t.args)) := hide (term_0 (d := d) (fns := fns) (c := c) H24.out HKR.out HFIT.out (by have e := HKD.out; unfold Pu.alone; rw [show t.kind = 4 from e]; show (match fns t.name with | none => 6 | some n => Pu.orErr (decide (n = (t.args.length : Int))) 5) = _; rw [← HNA.out]; rw [hfx]; show Pu.orErr _ _ = _; rw [decide_eq_true hfa]; rfl))
  have HFA := hide hfa
  clear hfa
  go_enter Tryz.func26, Tryz.ntmps26
  go_wp2_with fail
  clear hlk'
  have HL6 : Hid (decide (t.kind = 6) = false) := by have e := HKD.out; rw [show t.kind = 4 from e]; rfl
  rw [HL6.out] at HV
  go_loopw [133] (fun q wr => ∃ i : Nat, i ≤ na ∧ q = .int .i64 i ∧ Fr No w wr ∧ wr.heap[w.heap.size]? = some (.cells csv 32 (0, 0)) ∧ Pu.chkArgs (Pu.term fns k) c false t.name (d + 1) 0 t.args = Pu.chkArgs (Pu.term fns k) c false t.name (d + 1) i (t.args.drop i)) (fun q _ => na - (intOf q).toNat)
  case atStart => exact ⟨0, Nat.zero_le _, rfl, ((Fr.refl No w).alloc _).alloc _, by rw [HCSV.out]; exact fr_heap (T := No) (heap_alloc_new w _) ((Fr.refl No _).alloc _) (fun e => e), rfl⟩
  case round =>
    obtain ⟨i, hi, rfl, hfr, hbx, hch⟩ := hrel
    have HFR := hide hfr
    have HBX := hide hbx
    have HCH := hide hch
    have hszw := hfr.size
    have hbl : w.heap.size < wr.heap.size := lt_of_heap hbx
    have k0 := cell_of_heap hbx
    rw [HCSV.out] at k0
    by_cases hlt' : i < na
    · have hlt : i < t.args.length := by rw [← HNA.out]; exact hlt'
      have ho : Old B w wr := hfr.old hB (fun _ _ e => e)
      obtain ⟨g, o, cap1, kd', n', x', y', b0, n0, e0, b1, n1, e1, b2, n2, e2, hav, hcap, hg, hgw, hrt, hcell⟩ := args_at HR.out HE.out i hlt
      injection hav with hav1 _ hav2
      subst hav1 hav2
      have hcw : ∀ j, j < 7 → wr.cell? ⟨g, o + i * 7 + j, none⟩ = [Value.int .i64 kd', .int .i64 n', .string x', .string y', .slice b0 n0 e0, .slice b1 n1 e1, .slice b2 n2 e2][j]? := fun j hj => by
        rw [ho.cell (a := ⟨g, o + i * 7 + j, none⟩) hg]; exact hcell j hj
      have q0 : wr.cell? ⟨g, o + i * 7, none⟩ = some (.int .i64 kd') := hcw 0 (by omega)
      have q1 := hcw 1 (by omega)
      have q2 := hcw 2 (by omega)
      have q3 := hcw 3 (by omega)
      have q4 := hcw 4 (by omega)
      have q5 := hcw 5 (by omega)
      have q6 := hcw 6 (by omega)
      have hgl : g < wr.heap.size := by omega
      have hst := chkArgs_step (Pu.term fns k) c false t.name (d + 1) t.args i hlt
      have hcast : ((d + 1 : Nat) : Int) = (d : Int) + 1 := by omega
      have CG : Hid (∀ W Bn' v l, Fr No wr W → Names Bn' W v (nm ++ l) → l = Pu.argNames false t.name i → l.length ≤ 1 → Calls Tryz.prog 26 #[.map (some m), .agg #[.int .i64 kd', .int .i64 n', .string x', .string y', .slice b0 n0 e0, .slice b1 n1 e1, .slice b2 n2 e2], v, .int .i64 ((d : Int) + 1)] W fun e w' => e = .returned (.int .i64 (Pu.term fns k (Pu.with' c (Pu.argNames false t.name i)) t.args[i] (d + 1))) ∧ Fr No W w') := by
        intro W Bn' v l hW hn hl hl1
        rw [← hl, ← hcast]
        exact HS.out B Bn' m K W _ t.args[i] v (nm ++ l) fns _ (d + 1) (hrt.old (ho.trans (hW.old (by omega) (fun _ _ e => e))) (by have := hW.size; omega)) hn (HM.out.fr (hfr.trans hW) (fun e => e)) (HAG.out.with l) (by have := hW.size; omega) (by omega) (by
          have := HWT.out
          have := sumW_le (Pu.wt k) t.args (i + 1)
          have := sumW_succ (Pu.wt k) t.args i hlt
          rw [List.length_append]; omega)
      obtain ⟨er, her⟩ : ∃ er, er = Pu.term fns k (Pu.with' c (Pu.argNames false t.name i)) t.args[i] (d + 1) := ⟨_, rfl⟩
      rw [← her] at hst CG
      have HST := hide hst
      clear hcw hcell hrt hst ho hfr hbx hch her hcast
      have i1 : (i : Int) < (na : Int) := by omega
      have i0 : (0 : Int) ≤ (i : Int) := by omega
      have CN : Hid (∀ W, Fr No wr W → Calls Tryz.prog 26 #[.map (some m), .agg #[.int .i64 kd', .int .i64 n', .string x', .string y', .slice b0 n0 e0, .slice b1 n1 e1, .slice b2 n2 e2], .slice an0 nm.length cn0, .int .i64 ((d : Int) + 1)] W fun e w' => e = .returned (.int .i64 er) ∧ Fr No W w') := fun W hW =>
        CG.out W Bn _ [] hW (by rw [List.append_nil]; exact (HNM.out.fr HFR.out).fr hW) (rfl) (by simp)
      clear CG
      go_wp2_with fail
      refine (CN.out _ ?_).mono ?_
      · repeat (first | exact Fr.refl _ _ | apply Fr.alloc)
      rintro e w2 ⟨rfl, hf2⟩
      have F2 := hide (((Fr.refl No wr).alloc _).trans hf2)
      clear hf2 CN k0 q0 q1 q2 q3 q4 q5 q6
      by_cases h0 : er = 0
      · subst h0
        go_wp2_with fail
        go_roundw
        case rel => exact ⟨i + 1, by omega, by go_num, HFR.out.trans F2.out, fr_heap HBX.out F2.out (fun e => e), by rw [HCH.out, HST.out]; first | exact if_pos rfl | exact if_pos trivial⟩
        case measure => simp [intOf]; omega
      · have hE : Pu.term fns (k + 1) c t d = er := by rw [HV.out, HCH.out, HST.out, if_neg h0, if_neg h0]
        have HEE := hide hE
        clear hE
        go_wp2_with fail
        go_ret
        rw [HEE.out]
        exact ⟨rfl, HFR.out.trans F2.out⟩
    · have hil : i = na := by omega
      subst hil
      have hE : Pu.term fns (k + 1) c t d = 0 := by
        rw [HV.out, HCH.out, HNA.out, List.drop_length]
        show (if (0 : Int) = 0 then (if t.kind = 7 then _ else (0 : Int)) else 0) = 0
        have e := HKD.out
        rw [show t.kind = 4 from e]; rfl
      have HEE := hide hE
      clear hE hfr hbx hch
      go_wp2_with fail
      go_ret
      rw [HEE.out]
      exact ⟨rfl, HFR.out⟩
set_option maxHeartbeats 8000000 in
set_option maxRecDepth 100000 in
theorem wrong_5 (k : Nat) (hS : RWrongC k) : RWrongK k 5 := by
  intro B Bn m K w cs t nv nm fns c d ht hkd hnm hm hag hB h24 hw
  obtain ⟨vv, av, cv, acs, ccs, rfl, hx, hnn, hvars, hr, he, hq, hf⟩ := ht
  obtain ⟨a0, d0, rfl, _⟩ := hvars.1.form
  obtain ⟨a1, d1, rfl, hd1, hd1'⟩ := hr.form
  obtain ⟨a2, d2, rfl, hd2, hd2'⟩ := hq.form
  obtain ⟨an0, cn0, rfl, hcn, hcn'⟩ := hnm.1.form
  have hkr : ¬ (t.kind < 1 ∨ 7 < t.kind) := by rw [hkd]; decide
  have hwt : nm.length + (1 + t.vars.length + (t.args.map (Pu.wt k)).sum + (t.cases.map fun c => 1 + c.2.1.length + Pu.wt k c.2.2).sum) ≤ 1073741824 := hw
  have h24' : ¬ 24 < (d : Int) := by omega
  have HKD := hide hkd
  have HWT := hide hwt
  have HX := hide hx
  have HR := hide hr
  have HE := hide he
  have HQ := hide hq
  have HF := hide hf
  have HS := hide hS
  have HNM := hide hnm
  have HM := hide hm
  have HAG := hide hag
  have H24 := hide h24
  have HKR := hide hkr
  unfold maxLen at hd1' hd2' hcn'
  show Calls Tryz.prog 26 #[.map (some m), .agg #[.int .i64 t.kind, .int .i64 t.n, .string t.name, .string t.token, .slice a0 t.vars.length d0, .slice a1 t.args.length d1, .slice a2 t.cases.length d2], .slice an0 nm.length cn0, .int .i64 d] w _
  rw [show t.kind = 5 from hkd]
  obtain ⟨na, hna⟩ : ∃ na, na = t.args.length := ⟨_, rfl⟩
  obtain ⟨nc, hnc⟩ : ∃ nc, nc = t.cases.length := ⟨_, rfl⟩
  rw [← hna, ← hnc]
  rw [← hna] at hd1
  rw [← hnc] at hd2
  have HNA := hide hna
  have HNC := hide hnc
  obtain ⟨csv, hcsv⟩ : ∃ csv : Array Value, csv = #[.int .i64 5, .int .i64 t.n, .string t.name, .string t.token, .slice a0 t.vars.length d0, .slice a1 na d1, .slice a2 nc d2] := ⟨_, rfl⟩
  have HCSV := hide hcsv
  clear hr he hq hf hS hvars hx hw hwt hnm hm hag hcsv h24 hkr hnn hkd hna hnc
  have FIT : Hid (Pu.fits t = decide (t.args.length = 2 ∧ t.cases.length = 0)) := by
    have e := HKD.out
    unfold Pu.fits
    rw [show t.kind = 5 from e]
    rfl
  by_cases hgt : 2 < na
  · have hgt' : (2 : Int) < (na : Int) := by omega
    have hE : Pu.term fns (k + 1) c t d = 5 := term_5 H24.out HKR.out (by rw [FIT.out]; exact decide_eq_false (by have := HNA.out; have := HNC.out; omega))
    rw [hE]
    clear hE
    go_enter Tryz.func26, Tryz.ntmps26
    go_wp2_with fail
    go_ret
    exact ⟨rfl, by repeat (first | exact Fr.refl _ _ | apply Fr.alloc)⟩
  by_cases hn0 : na = 0
  · subst hn0
    clear hgt
    have hE : Pu.term fns (k + 1) c t d = 5 := term_5 H24.out HKR.out (by rw [FIT.out]; exact decide_eq_false (by have := HNA.out; have := HNC.out; omega))
    rw [hE]
    clear hE
    go_enter Tryz.func26, Tryz.ntmps26
    go_wp2_with fail
    go_ret
    exact ⟨rfl, by repeat (first | exact Fr.refl _ _ | apply Fr.alloc)⟩
  by_cases hn1 : na = 1
  · subst hn1
    clear hgt
    have hE : Pu.term fns (k + 1) c t d = 5 := term_5 H24.out HKR.out (by rw [FIT.out]; exact decide_eq_false (by have := HNA.out; have := HNC.out; omega))
    rw [hE]
    clear hE
    go_enter Tryz.func26, Tryz.ntmps26
    go_wp2_with fail
    go_ret
    exact ⟨rfl, by repeat (first | exact Fr.refl _ _ | apply Fr.alloc)⟩
  have hna : na = 2 := by omega
  subst hna
  clear hgt hn0 hn1
  by_cases hca : 0 < nc
  · have hca' : (0 : Int) < (nc : Int) := by omega
    have hE : Pu.term fns (k + 1) c t d = 5 := term_5 H24.out HKR.out (by rw [FIT.out]; exact decide_eq_false (by have := HNA.out; have := HNC.out; omega))
    rw [hE]
    clear hE
    go_enter Tryz.func26, Tryz.ntmps26
    go_wp2_with fail
    go_ret
    exact ⟨rfl, by repeat (first | exact Fr.refl _ _ | apply Fr.alloc)⟩
  have hnc : nc = 0 := by omega
  subst hnc
  clear hca
  have HFIT : Hid (Pu.fits t = true) := by rw [FIT.out]; exact decide_eq_true (by have := HNA.out; have := HNC.out; omega)
  clear FIT
  by_cases hlo : t.n < 1
  · have hE : Pu.term fns (k + 1) c t d = 1 := term_e (e := 1) H24.out HKR.out HFIT.out (by have e := HKD.out; unfold Pu.alone; rw [show t.kind = 5 from e]; show Pu.orErr (decide (1 ≤ t.n ∧ t.n ≤ 5)) 1 = _; rw [decide_eq_false (by omega)]; rfl) (by decide)
    rw [hE]
    clear hE
    go_enter Tryz.func26, Tryz.ntmps26
    go_wp2_with fail
    go_ret
    exact ⟨rfl, by repeat (first | exact Fr.refl _ _ | apply Fr.alloc)⟩
  by_cases hhi : 5 < t.n
  · have hE : Pu.term fns (k + 1) c t d = 1 := term_e (e := 1) H24.out HKR.out HFIT.out (by have e := HKD.out; unfold Pu.alone; rw [show t.kind = 5 from e]; show Pu.orErr (decide (1 ≤ t.n ∧ t.n ≤ 5)) 1 = _; rw [decide_eq_false (by omega)]; rfl) (by decide)
    rw [hE]
    clear hE
    go_enter Tryz.func26, Tryz.ntmps26
    go_wp2_with fail
    go_ret
    exact ⟨rfl, by repeat (first | exact Fr.refl _ _ | apply Fr.alloc)⟩
  have HV : Hid (Pu.term fns (k + 1) c t d = (if Pu.chkArgs (Pu.term fns k) c (decide (t.kind = 6)) t.name (d + 1) 0 t.args = 0 then (if t.kind = 7 then Pu.cases' (Pu.term fns k) c (d + 1) t.cases else 0) else Pu.chkArgs (Pu.term fns k) c (decide (t.kind = 6)) t.name (d + 1) 0 t.args)) := hide (term_0 (d := d) (fns := fns) (c := c) H24.out HKR.out HFIT.out (by have e := HKD.out; unfold Pu.alone; rw [show t.kind = 5 from e]; show Pu.orErr (decide (1 ≤ t.n ∧ t.n ≤ 5)) 1 = _; rw [decide_eq_true (by omega)]; rfl))
  go_enter Tryz.func26, Tryz.ntmps26
  go_wp2_with fail
  have HL6 : Hid (decide (t.kind = 6) = false) := by have e := HKD.out; rw [show t.kind = 5 from e]; rfl
  rw [HL6.out] at HV
  go_loopw [133] (fun q wr => ∃ i : Nat, i ≤ 2 ∧ q = .int .i64 i ∧ Fr No w wr ∧ wr.heap[w.heap.size]? = some (.cells csv 32 (0, 0)) ∧ Pu.chkArgs (Pu.term fns k) c false t.name (d + 1) 0 t.args = Pu.chkArgs (Pu.term fns k) c false t.name (d + 1) i (t.args.drop i)) (fun q _ => 2 - (intOf q).toNat)
  case atStart => exact ⟨0, Nat.zero_le _, rfl, ((Fr.refl No w).alloc _).alloc _, by rw [HCSV.out]; exact fr_heap (T := No) (heap_alloc_new w _) ((Fr.refl No _).alloc _) (fun e => e), rfl⟩
  case round =>
    obtain ⟨i, hi, rfl, hfr, hbx, hch⟩ := hrel
    have HFR := hide hfr
    have HBX := hide hbx
    have HCH := hide hch
    have hszw := hfr.size
    have hbl : w.heap.size < wr.heap.size := lt_of_heap hbx
    have k0 := cell_of_heap hbx
    rw [HCSV.out] at k0
    by_cases hlt' : i < 2
    · have hlt : i < t.args.length := by rw [← HNA.out]; exact hlt'
      have ho : Old B w wr := hfr.old hB (fun _ _ e => e)
      obtain ⟨g, o, cap1, kd', n', x', y', b0, n0, e0, b1, n1, e1, b2, n2, e2, hav, hcap, hg, hgw, hrt, hcell⟩ := args_at HR.out HE.out i hlt
      injection hav with hav1 _ hav2
      subst hav1 hav2
      have hcw : ∀ j, j < 7 → wr.cell? ⟨g, o + i * 7 + j, none⟩ = [Value.int .i64 kd', .int .i64 n', .string x', .string y', .slice b0 n0 e0, .slice b1 n1 e1, .slice b2 n2 e2][j]? := fun j hj => by
        rw [ho.cell (a := ⟨g, o + i * 7 + j, none⟩) hg]; exact hcell j hj
      have q0 : wr.cell? ⟨g, o + i * 7, none⟩ = some (.int .i64 kd') := hcw 0 (by omega)
      have q1 := hcw 1 (by omega)
      have q2 := hcw 2 (by omega)
      have q3 := hcw 3 (by omega)
      have q4 := hcw 4 (by omega)
      have q5 := hcw 5 (by omega)
      have q6 := hcw 6 (by omega)
      have hgl : g < wr.heap.size := by omega
      have hst := chkArgs_step (Pu.term fns k) c false t.name (d + 1) t.args i hlt
      have hcast : ((d + 1 : Nat) : Int) = (d : Int) + 1 := by omega
      have CG : Hid (∀ W Bn' v l, Fr No wr W → Names Bn' W v (nm ++ l) → l = Pu.argNames false t.name i → l.length ≤ 1 → Calls Tryz.prog 26 #[.map (some m), .agg #[.int .i64 kd', .int .i64 n', .string x', .string y', .slice b0 n0 e0, .slice b1 n1 e1, .slice b2 n2 e2], v, .int .i64 ((d : Int) + 1)] W fun e w' => e = .returned (.int .i64 (Pu.term fns k (Pu.with' c (Pu.argNames false t.name i)) t.args[i] (d + 1))) ∧ Fr No W w') := by
        intro W Bn' v l hW hn hl hl1
        rw [← hl, ← hcast]
        exact HS.out B Bn' m K W _ t.args[i] v (nm ++ l) fns _ (d + 1) (hrt.old (ho.trans (hW.old (by omega) (fun _ _ e => e))) (by have := hW.size; omega)) hn (HM.out.fr (hfr.trans hW) (fun e => e)) (HAG.out.with l) (by have := hW.size; omega) (by omega) (by
          have := HWT.out
          have := sumW_le (Pu.wt k) t.args (i + 1)
          have := sumW_succ (Pu.wt k) t.args i hlt
          rw [List.length_append]; omega)
      obtain ⟨er, her⟩ : ∃ er, er = Pu.term fns k (Pu.with' c (Pu.argNames false t.name i)) t.args[i] (d + 1) := ⟨_, rfl⟩
      rw [← her] at hst CG
      have HST := hide hst
      clear hcw hcell hrt hst ho hfr hbx hch her hcast
      have i1 : (i : Int) < (2 : Int) := by omega
      have i0 : (0 : Int) ≤ (i : Int) := by omega
      have CN : Hid (∀ W, Fr No wr W → Calls Tryz.prog 26 #[.map (some m), .agg #[.int .i64 kd', .int .i64 n', .string x', .string y', .slice b0 n0 e0, .slice b1 n1 e1, .slice b2 n2 e2], .slice an0 nm.length cn0, .int .i64 ((d : Int) + 1)] W fun e w' => e = .returned (.int .i64 er) ∧ Fr No W w') := fun W hW =>
        CG.out W Bn _ [] hW (by rw [List.append_nil]; exact (HNM.out.fr HFR.out).fr hW) (rfl) (by simp)
      clear CG
      go_wp2_with fail
      refine (CN.out _ ?_).mono ?_
      · repeat (first | exact Fr.refl _ _ | apply Fr.alloc)
      rintro e w2 ⟨rfl, hf2⟩
      have F2 := hide (((Fr.refl No wr).alloc _).trans hf2)
      clear hf2 CN k0 q0 q1 q2 q3 q4 q5 q6
      by_cases h0 : er = 0
      · subst h0
        go_wp2_with fail
        go_roundw
        case rel => exact ⟨i + 1, by omega, by go_num, HFR.out.trans F2.out, fr_heap HBX.out F2.out (fun e => e), by rw [HCH.out, HST.out]; first | exact if_pos rfl | exact if_pos trivial⟩
        case measure => simp [intOf]; omega
      · have hE : Pu.term fns (k + 1) c t d = er := by rw [HV.out, HCH.out, HST.out, if_neg h0, if_neg h0]
        have HEE := hide hE
        clear hE
        go_wp2_with fail
        go_ret
        rw [HEE.out]
        exact ⟨rfl, HFR.out.trans F2.out⟩
    · have hil : i = 2 := by omega
      subst hil
      have hE : Pu.term fns (k + 1) c t d = 0 := by
        rw [HV.out, HCH.out, HNA.out, List.drop_length]
        show (if (0 : Int) = 0 then (if t.kind = 7 then _ else (0 : Int)) else 0) = 0
        have e := HKD.out
        rw [show t.kind = 5 from e]; rfl
      have HEE := hide hE
      clear hE hfr hbx hch
      go_wp2_with fail
      go_ret
      rw [HEE.out]
      exact ⟨rfl, HFR.out⟩
end Go.Proofs.YtomahbdidlglfacGreatDoor
