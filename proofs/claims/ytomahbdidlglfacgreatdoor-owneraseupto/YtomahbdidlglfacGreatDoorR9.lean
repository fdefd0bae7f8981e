/- The document's 'Wrong', walked: lets. -/
import Derived.Test.YtomahbdidlglfacGreatDoorO1O2O3C9O4O5W6Rs
import Derived.Test.YtomahbdidlglfacGreatDoorL3NpK1R1PfC3C4C6C7R6R7
namespace Go.Proofs.YtomahbdidlglfacGreatDoor
open Go.RowKit Go.Maps Go.WideMaps
set_option maxHeartbeats 8000000 in
set_option maxRecDepth 100000 in
theorem wrong_6 (k : Nat) (hS : RWrongC k) : RWrongK k 6 := by
  intro B Bn m K w cs t nv nm fns c d ht hkd hnm hm hag hB h24 hw
  obtain ⟨vv, av, cv, acs, ccs, rfl, hx, hnn, hvars, hr, he, hq, hf⟩ := ht
  obtain ⟨a0, d0, rfl, _⟩ := hvars.1.form
  obtain ⟨a1, d1, rfl, hd1, hd1'⟩ := hr.form
  obtain ⟨a2, d2, rfl, hd2, hd2'⟩ := hq.form
  obtain ⟨an0, cn0, rfl, hcn, hcn'⟩ := hnm.1.form
  have hkr : ¬ (t.kind < 1 ∨ 7 < t.kind) := by rw [hkd]; decide
  have hwt : nm.length + (1 + t.vars.length + (t.args.map (Pu.wt k)).sum + (t.cases.map fun c => 1 + c.2.1.length + Pu.wt k c.2.2).sum) ≤ 1073741824 := hw
  have h24' : ¬ 24 < (d : Int) := by omega
  have HKD := hide hkd
  have HWT := hide hwt
  have HX := hide hx
  have HR := hide hr
  have HE := hide he
  have HQ := hide hq
  have HF := hide hf
  have HS := hide hS
  have HNM := hide hnm
  have HM := hide hm
  have HAG := hide hag
  have H24 := hide h24
  have HKR := hide hkr
  unfold maxLen at hd1' hd2' hcn'
  show Calls Tryz.prog 26 #[.map (some m), .agg #[.int .i64 t.kind, .int .i64 t.n, .string t.name, .string t.token, .slice a0 t.vars.length d0, .slice a1 t.args.length d1, .slice a2 t.cases.length d2], .slice an0 nm.length cn0, .int .i64 d] w _
  rw [show t.kind = 6 from hkd]
  obtain ⟨na, hna⟩ : ∃ na, na = t.args.length := ⟨_, rfl⟩
  obtain ⟨nc, hnc⟩ : ∃ nc, nc = t.cases.length := ⟨_, rfl⟩
  rw [← hna, ← hnc]
  rw [← hna] at hd1
  rw [← hnc] at hd2
  have HNA := hide hna
  have HNC := hide hnc
  obtain ⟨csv, hcsv⟩ : ∃ csv : Array Value, csv = #[.int .i64 6, .int .i64 t.n, .string t.name, .string t.token, .slice a0 t.vars.length d0, .slice a1 na d1, .slice a2 nc d2] := ⟨_, rfl⟩
  have HCSV := hide hcsv
  clear hr he hq hf hS hvars hx hw hwt hnm hm hag hcsv h24 hkr hnn hkd hna hnc
  have FIT : Hid (Pu.fits t = decide (t.args.length = 2 ∧ t.cases.length = 0)) := by
    have e := HKD.out
    unfold Pu.fits
    rw [show t.kind = 6 from e]
    rfl
  by_cases hgt : 2 < na
  · have hgt' : (2 : Int) < (na : Int) := by omega
    have hE : Pu.term fns (k + 1) c t d = 5 := term_5 H24.out HKR.out (by rw [FIT.out]; exact decide_eq_false (by have := HNA.out; have := HNC.out; omega))
    rw [hE]
    clear hE
    go_enter Tryz.func26, Tryz.ntmps26
    go_wp2_with fail
    go_ret
    exact ⟨rfl, by repeat (first | exact Fr.refl _ _ | apply Fr.alloc)⟩
  by_cases hn0 : na = 0
  · subst hn0
    clear hgt
    have hE : Pu.term fns (k + 1) c t d = 5 := term_5 H24.out HKR.out (by rw [FIT.out]; exact decide_eq_false (by have := HNA.out; have := HNC.out; omega))
    rw [hE]
    clear hE
    go_enter Tryz.func26, Tryz.ntmps26
    go_wp2_with fail
    go_ret
    exact ⟨rfl, by repeat (first | exact Fr.refl _ _ | apply Fr.alloc)⟩
  by_cases hn1 : na = 1
  · subst hn1
    clear hgt
    have hE : Pu.term fns (k + 1) c t d = 5 := term_5 H24.out HKR.out (by rw [FIT.out]; exact decide_eq_false (by have := HNA.out; have := HNC.out; omega))
    rw [hE]
    clear hE
    go_enter Tryz.func26, Tryz.ntmps26
    go_wp2_with fail
    go_ret
    exact ⟨rfl, by repeat (first | exact Fr.refl _ _ | apply Fr.alloc)⟩
  have hna : na = 2 := by omega
  subst hna
  clear hgt hn0 hn1
  by_cases hca : 0 < nc
  · have hca' : (0 : Int) < (nc : Int) := by omega
    have hE : Pu.term fns (k + 1) c t d = 5 := term_5 H24.out HKR.out (by rw [FIT.out]; exact decide_eq_false (by have := HNA.out; have := HNC.out; omega))
    rw [hE]
    clear hE
    go_enter Tryz.func26, Tryz.ntmps26
    go_wp2_with fail
    go_ret
    exact ⟨rfl, by repeat (first | exact Fr.refl _ _ | apply Fr.alloc)⟩
  have hnc : nc = 0 := by omega
  subst hnc
  clear hca
  have HFIT : Hid (Pu.fits t = true) := by rw [FIT.out]; exact decide_eq_true (by have := HNA.out; have := HNC.out; omega)
  clear FIT
  have CH : Hid (∀ W, Calls Tryz.prog 22 #[.string t.name] W fun e w' => e = .returned (.bool (isName t.name)) ∧ ∃ n, w' = W.drewN n) := fun W => name_any t.name W HX.out
  obtain ⟨hb, hhb⟩ : ∃ hb, hb = isName t.name := ⟨_, rfl⟩
  rw [← hhb] at CH
  have hal : Pu.alone fns c t = Pu.orErr hb 7 := by have e := HKD.out; unfold Pu.alone; rw [show t.kind = 6 from e]; show Pu.orErr (isName t.name) 7 = _; rw [hhb]
  have HAL := hide hal
  clear hal hhb
  have hw2 : Hid (∀ n, Fr No w (((w.alloc (.cells #[.int .i64 6, .int .i64 t.n, .string t.name, .string t.token, .slice a0 t.vars.length d0, .slice a1 2 d1, .slice a2 0 d2] 32)).alloc (.cells #[.int .i64 0, .int .i64 0, .int .i64 0, .int .i64 6, .int .i64 6, .int .i64 2, .int .i64 2, .int .i64 1] 3)).drewN n) ∧ (((w.alloc (.cells #[.int .i64 6, .int .i64 t.n, .string t.name, .string t.token, .slice a0 t.vars.length d0, .slice a1 2 d1, .slice a2 0 d2] 32)).alloc (.cells #[.int .i64 0, .int .i64 0, .int .i64 0, .int .i64 6, .int .i64 6, .int .i64 2, .int .i64 2, .int .i64 1] 3)).drewN n).heap[w.heap.size]? = some (.cells csv 32 (0, 0))) := fun n => by
    refine ⟨(((Fr.refl No w).alloc _).alloc _).drewN n, ?_⟩
    rw [HCSV.out]
    exact fr_heap (T := No) (fr_heap (T := No) (heap_alloc_new w _) ((Fr.refl No _).alloc _) (fun e => e)) ((Fr.refl No _).drewN n) (fun e => e)
  go_enter Tryz.func26, Tryz.ntmps26
  go_wp2_with fail
  refine (CH.out _).mono ?_
  rintro e w4 ⟨rfl, n4, hw4⟩
  obtain ⟨f4, g4⟩ := hw2.out n4
  rw [← hw4] at f4 g4
  have F4 := hide f4
  have G4 := hide g4
  have k4 := cell_of_heap g4
  rw [HCSV.out] at k4
  clear hw4 CH f4 g4 hw2
  cases hb with
  | false =>
    have hE : Pu.term fns (k + 1) c t d = 7 := term_e (e := 7) H24.out HKR.out HFIT.out (by rw [HAL.out]; rfl) (by decide)
    have HEE := hide hE
    clear hE
    go_wp2_with fail
    go_ret
    rw [HEE.out]
    exact ⟨rfl, F4.out⟩
  | true =>
  have HV : Hid (Pu.term fns (k + 1) c t d = (if Pu.chkArgs (Pu.term fns k) c (decide (t.kind = 6)) t.name (d + 1) 0 t.args = 0 then (if t.kind = 7 then Pu.cases' (Pu.term fns k) c (d + 1) t.cases else 0) else Pu.chkArgs (Pu.term fns k) c (decide (t.kind = 6)) t.name (d + 1) 0 t.args)) := hide (term_0 (d := d) (fns := fns) (c := c) H24.out HKR.out HFIT.out (by rw [HAL.out]; rfl))
  go_wp2_with fail
  clear k4
  have HL6 : Hid (decide (t.kind = 6) = true) := by have e := HKD.out; rw [show t.kind = 6 from e]; rfl
  rw [HL6.out] at HV
  go_loopw [133] (fun q wr => ∃ i : Nat, i ≤ 2 ∧ q = .int .i64 i ∧ Fr No w wr ∧ wr.heap[w.heap.size]? = some (.cells csv 32 (0, 0)) ∧ Pu.chkArgs (Pu.term fns k) c true t.name (d + 1) 0 t.args = Pu.chkArgs (Pu.term fns k) c true t.name (d + 1) i (t.args.drop i)) (fun q _ => 2 - (intOf q).toNat)
  case atStart => exact ⟨0, Nat.zero_le _, rfl, F4.out, G4.out, rfl⟩
  case round =>
    obtain ⟨i, hi, rfl, hfr, hbx, hch⟩ := hrel
    have HFR := hide hfr
    have HBX := hide hbx
    have HCH := hide hch
    have hszw := hfr.size
    have hbl : w.heap.size < wr.heap.size := lt_of_heap hbx
    have k0 := cell_of_heap hbx
    rw [HCSV.out] at k0
    by_cases hlt' : i < 2
    · have hlt : i < t.args.length := by rw [← HNA.out]; exact hlt'
      have ho : Old B w wr := hfr.old hB (fun _ _ e => e)
      obtain ⟨g, o, cap1, kd', n', x', y', b0, n0, e0, b1, n1, e1, b2, n2, e2, hav, hcap, hg, hgw, hrt, hcell⟩ := args_at HR.out HE.out i hlt
      injection hav with hav1 _ hav2
      subst hav1 hav2
      have hcw : ∀ j, j < 7 → wr.cell? ⟨g, o + i * 7 + j, none⟩ = [Value.int .i64 kd', .int .i64 n', .string x', .string y', .slice b0 n0 e0, .slice b1 n1 e1, .slice b2 n2 e2][j]? := fun j hj => by
        rw [ho.cell (a := ⟨g, o + i * 7 + j, none⟩) hg]; exact hcell j hj
      have q0 : wr.cell? ⟨g, o + i * 7, none⟩ = some (.int .i64 kd') := hcw 0 (by omega)
      have q1 := hcw 1 (by omega)
      have q2 := hcw 2 (by omega)
      have q3 := hcw 3 (by omega)
      have q4 := hcw 4 (by omega)
      have q5 := hcw 5 (by omega)
      have q6 := hcw 6 (by omega)
      have hgl : g < wr.heap.size := by omega
      have hst := chkArgs_step (Pu.term fns k) c true t.name (d + 1) t.args i hlt
      have hcast : ((d + 1 : Nat) : Int) = (d : Int) + 1 := by omega
      have CG : Hid (∀ W Bn' v l, Fr No wr W → Names Bn' W v (nm ++ l) → l = Pu.argNames true t.name i → l.length ≤ 1 → Calls Tryz.prog 26 #[.map (some m), .agg #[.int .i64 kd', .int .i64 n', .string x', .string y', .slice b0 n0 e0, .slice b1 n1 e1, .slice b2 n2 e2], v, .int .i64 ((d : Int) + 1)] W fun e w' => e = .returned (.int .i64 (Pu.term fns k (Pu.with' c (Pu.argNames true t.name i)) t.args[i] (d + 1))) ∧ Fr No W w') := by
        intro W Bn' v l hW hn hl hl1
        rw [← hl, ← hcast]
        exact HS.out B Bn' m K W _ t.args[i] v (nm ++ l) fns _ (d + 1) (hrt.old (ho.trans (hW.old (by omega) (fun _ _ e => e))) (by have := hW.size; omega)) hn (HM.out.fr (hfr.trans hW) (fun e => e)) (HAG.out.with l) (by have := hW.size; omega) (by omega) (by
          have := HWT.out
          have := sumW_le (Pu.wt k) t.args (i + 1)
          have := sumW_succ (Pu.wt k) t.args i hlt
          rw [List.length_append]; omega)
      obtain ⟨er, her⟩ : ∃ er, er = Pu.term fns k (Pu.with' c (Pu.argNames true t.name i)) t.args[i] (d + 1) := ⟨_, rfl⟩
      rw [← her] at hst CG
      have HST := hide hst
      clear hcw hcell hrt hst ho hfr hbx hch her hcast
      have i1 : (i : Int) < (2 : Int) := by omega
      have i0 : (0 : Int) ≤ (i : Int) := by omega
      by_cases hi1 : i = 1
      · have hi1' : ((i : Int) == 1) = true := by rw [hi1]; rfl
        have han : Pu.argNames true t.name i = [t.name] := by rw [hi1]; rfl
        have CN : Hid (∀ W v Bn', Fr No wr W → Names Bn' W v (nm ++ [t.name]) → Calls Tryz.prog 26 #[.map (some m), .agg #[.int .i64 kd', .int .i64 n', .string x', .string y', .slice b0 n0 e0, .slice b1 n1 e1, .slice b2 n2 e2], v, .int .i64 ((d : Int) + 1)] W fun e w' => e = .returned (.int .i64 er) ∧ Fr No W w') := fun W v Bn' hW hn => CG.out W Bn' v [t.name] hW hn han.symm (by simp)
        have HI1 := hide hi1
        clear CG hi1 han
        obtain ⟨WA, hWA⟩ : ∃ WA, WA = wr.alloc (.cells #[.int .i64 kd', .int .i64 n', .string x', .string y', .slice b0 n0 e0, .slice b1 n1 e1, .slice b2 n2 e2] 32) := ⟨_, rfl⟩
        have fA : Fr No wr WA := by rw [hWA]; exact (Fr.refl No wr).alloc _
        have hsA : WA.heap.size = wr.heap.size + 1 := by rw [hWA]; simp
        have cA : Hid (WA.heap[wr.heap.size]? = some (.cells #[.int .i64 kd', .int .i64 n', .string x', .string y', .slice b0 n0 e0, .slice b1 n1 e1, .slice b2 n2 e2] 32 (0, 0))) := by rw [hWA]; exact heap_alloc_new _ _
        have SA : Hid (∀ w' : World, Fr No WA w' → (w'.cell? ⟨w.heap.size, 2, none⟩ = some (.string t.name) ∧ Fr No WA w')) := fun W hW => by
          refine ⟨?_, hW⟩
          rw [cell_of_heap (fr_heap (fr_heap HBX.out fA (fun e => e)) hW (fun e => e)), HCSV.out]; rfl
        have SAL : Hid (∀ (W : World) o, (W.cell? ⟨w.heap.size, 2, none⟩ = some (.string t.name) ∧ Fr No WA W) → ((W.alloc o).cell? ⟨w.heap.size, 2, none⟩ = some (.string t.name) ∧ Fr No WA (W.alloc o))) := fun W o hW => SA.out _ (hW.2.alloc o)
        have NMW : Hid (∀ W : World, Fr No WA W → Names Bn W (.slice an0 nm.length cn0) nm) := fun W hW => ((HNM.out.fr HFR.out).fr fA).fr hW
        have GR : Hid (∀ (W w' : World) (v : Value) (n : Nat) (xs : List Value), Fr No WA W → W.ownsRow WA.heap.size 9 1 v n xs → W.grownBy w' v.ownBlock → (w'.cell? ⟨w.heap.size, 2, none⟩ = some (.string t.name) ∧ Fr No WA w')) := fun W W' v n xs hW hr hg => SA.out _ (hW.grown hg (fun a ha => .inr (hr.lt a ha).1))
        have D0 : Fr No WA WA.drew := (Fr.refl No WA).drew
        have HZ := hide (SA.out WA.drew D0)
        have FA := hide fA
        have hnml : nm.length ≤ 1073741824 := by have := HWT.out; omega
        go_wp2_with fail
        rw [← hWA]
        clear hWA fA k0 q0 q1 q2 q3 q4 q5 q6 hsA
        go_region_held3 (fun w' : World => w'.cell? ⟨w.heap.size, 2, none⟩ = some (.string t.name) ∧ Fr No WA w') (first | with_reducible assumption | with_reducible exact HZ.out | exact SAL.out _ _ (by first | with_reducible assumption | exact HZ.out))
          (first
            | (refine step_append_names rfl (.tmp 146) (.tmp 147) rfl rfl (base := WA.heap.size) (B := Bn) (n := 0) (xs := []) (l := nm) rfl rfl (by first | exact row_d0 _ | exact row_d1 _ _ | exact row_d2 _ _) (NMW.out _ (by first | with_reducible assumption | exact fr_d1 _ _ | exact fr_d2 _ _ _ | exact D0)) (by omega) (Fr.size (T := No) (by first | with_reducible assumption | exact fr_d1 _ _ | exact fr_d2 _ _ _ | exact D0)) ?_; intro v5 w5 ho5 hg5 hl5; obtain ⟨z5, f5⟩ := GR.out _ _ _ _ _ (by first | with_reducible assumption | exact fr_d1 _ _ | exact fr_d2 _ _ _ | exact D0) (by first | exact row_d0 _ | exact row_d1 _ _ | exact row_d2 _ _) hg5; have hz5 := And.intro z5 f5)
            | (refine step_append_names rfl (.tmp 148) (.tmp 151) rfl rfl (base := WA.heap.size) (B := _) (n := 0 + nm.length) (xs := [] ++ nm.map .string) (l := [t.name]) rfl rfl (by first | exact ho5 | exact ho5.alloc _) (by first | exact one_name HX.out (heap_alloc_new _ _) | exact one_name HX.out (src_two' _ _ _ hg5) | exact one_name HX.out (src_three' _ _ _ hg5)) (by show 0 + nm.length + 1 ≤ _; omega) (by first | exact f5.size | exact (f5.alloc _).size) ?_; intro v6 w6 ho6 hg6 hl6; obtain ⟨z6, f6⟩ := GR.out _ _ _ _ _ (by first | exact f5 | exact f5.alloc _) (by first | exact ho5 | exact ho5.alloc _) hg6; have hz6 := And.intro z6 f6))
        all_goals
          have hnm6 : Names w6.heap.size w6 v6 (nm ++ [t.name]) := names_of_rowL (b := WA.heap.size) (by simpa using ho6) (fun y hy => by
            rcases List.mem_append.1 hy with h | h
            · exact HNM.out.2 y h
            · simp at h; subst h; exact HX.out)
          obtain ⟨a6, n6, c6, hv6⟩ : ∃ a n c, v6 = .slice a n c := by obtain ⟨a, c, h⟩ := row_form ho6; exact ⟨a, _, c, h⟩
          subst hv6
          have q6 := cell_of_heap (fr_heap cA.out f6 (fun e => e))
          have CN6 := hide (CN.out w6 _ _ (FA.out.trans f6) hnm6)
          have F6 := hide f6
          clear CN ho5 hg5 hl5 z5 f5 hz5 ho6 hg6 hl6 z6 f6 hz6 hnm6
          go_wp2_with fail
          refine CN6.out.mono ?_
          rintro e w2 ⟨rfl, hf2⟩
          have F2 := hide ((FA.out.trans F6.out).trans hf2)
          clear hf2 CN6 q6
          by_cases h0 : er = 0
          · subst h0
            go_wp2_with fail
            go_roundw
            case rel => exact ⟨i + 1, by omega, by go_num, HFR.out.trans F2.out, fr_heap HBX.out F2.out (fun e => e), by rw [HCH.out, HST.out]; first | exact if_pos rfl | exact if_pos trivial⟩
            case measure => simp [intOf]; omega
          · have hE : Pu.term fns (k + 1) c t d = er := by rw [HV.out, HCH.out, HST.out, if_neg h0, if_neg h0]
            have HEE := hide hE
            clear hE
            go_wp2_with fail
            go_ret
            rw [HEE.out]
            exact ⟨rfl, HFR.out.trans F2.out⟩
      · have hi1' : ((i : Int) == 1) = false := by simp; omega
        have han : Pu.argNames true t.name i = [] := by unfold Pu.argNames; rw [if_neg (fun e => hi1 e.2)]
        have HI1 := hide hi1
        clear hi1
        have CN : Hid (∀ W, Fr No wr W → Calls Tryz.prog 26 #[.map (some m), .agg #[.int .i64 kd', .int .i64 n', .string x', .string y', .slice b0 n0 e0, .slice b1 n1 e1, .slice b2 n2 e2], .slice an0 nm.length cn0, .int .i64 ((d : Int) + 1)] W fun e w' => e = .returned (.int .i64 er) ∧ Fr No W w') := fun W hW =>
          CG.out W Bn _ [] hW (by rw [List.append_nil]; exact (HNM.out.fr HFR.out).fr hW) (han.symm) (by simp)
        clear CG han
        go_wp2_with fail
        refine (CN.out _ ?_).mono ?_
        · repeat (first | exact Fr.refl _ _ | apply Fr.alloc)
        rintro e w2 ⟨rfl, hf2⟩
        have F2 := hide (((Fr.refl No wr).alloc _).trans hf2)
        clear hf2 CN k0 q0 q1 q2 q3 q4 q5 q6
        by_cases h0 : er = 0
        · subst h0
          go_wp2_with fail
          go_roundw
          case rel => exact ⟨i + 1, by omega, by go_num, HFR.out.trans F2.out, fr_heap HBX.out F2.out (fun e => e), by rw [HCH.out, HST.out]; first | exact if_pos rfl | exact if_pos trivial⟩
          case measure => simp [intOf]; omega
        · have hE : Pu.term fns (k + 1) c t d = er := by rw [HV.out, HCH.out, HST.out, if_neg h0, if_neg h0]
          have HEE := hide hE
          clear hE
          go_wp2_with fail
          go_ret
          rw [HEE.out]
          exact ⟨rfl, HFR.out.trans F2.out⟩

    · have hil : i = 2 := by omega
      subst hil
      have hE : Pu.term fns (k + 1) c t d = 0 := by
        rw [HV.out, HCH.out, HNA.out, List.drop_length]
        show (if (0 : Int) = 0 then (if t.kind = 7 then _ else (0 : Int)) else 0) = 0
        have e := HKD.out
        rw [show t.kind = 6 from e]; rfl
      have HEE := hide hE
      clear hE hfr hbx hch
      go_wp2_with fail
      go_ret
      rw [HEE.out]
      exact ⟨rfl, HFR.out⟩
end Go.Proofs.YtomahbdidlglfacGreatDoor
