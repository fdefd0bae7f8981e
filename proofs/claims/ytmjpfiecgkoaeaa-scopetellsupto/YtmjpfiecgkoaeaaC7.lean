/- The check: a term. -/
import Derived.Test.YtmjpfiecgkoaeaaC6
namespace Go.Proofs.Ytmjpfiecgkoaeaa
open Go.RowKit Go.Maps Go.WideMaps

theorem chkArgs_step {α : Type} (F : Pu.Cnt → α → Nat → Int) (c : Pu.Cnt) (l6 : Bool) (x : ByteArray) (d : Nat) (l : List α) (i : Nat) (h : i < l.length) : Pu.chkArgs F c l6 x d i (l.drop i) =
    if F (Pu.with' c (Pu.argNames l6 x i)) l[i] d = 0 then Pu.chkArgs F c l6 x d (i + 1) (l.drop (i + 1)) else F (Pu.with' c (Pu.argNames l6 x i)) l[i] d := by
  rw [List.drop_eq_getElem_cons h]
  rfl

/-- One more for a let's name, behind its second argument. -/
def two (i : Nat) : Nat := if 2 ≤ i then 2 else 0
theorem two_mono (i : Nat) : two i ≤ two (i + 1) := by unfold two; split <;> split <;> omega
theorem two_le (i : Nat) : two i ≤ 2 := by unfold two; split <;> omega

/-- A name in a list of its own, new. -/
theorem one_name {w' : World} {x : ByteArray} {R : Nat} (hx : x.size ≤ maxLen) (h : w'.heap[R]? = some (.cells #[.string x] 9 (0, 0))) : Names (R + 1) w' (.slice (some ⟨R, 0, none⟩) 1 1) [x] :=
  ⟨⟨_, _, rfl, Nat.le_refl _, by unfold maxLen; decide, fun _ => ⟨_, _, rfl, Nat.lt_succ_self _, lt_of_heap h, fun i hi => by
    have : i = 0 := by simp at hi; omega
    subst this
    rw [cell_of_heap h]; rfl⟩⟩, fun y hy => by simp at hy; subst hy; exact hx⟩
theorem one_A {A R : Nat} {x : ByteArray} (hne : R ≠ A) : ∀ u u', Names (R + 1) u (.slice (some ⟨R, 0, none⟩) 1 1) [x] → Fr (· = A) u u' → Names (R + 1) u' (.slice (some ⟨R, 0, none⟩) 1 1) [x] := by
  intro u u' h hfr
  have hsz := hfr.size
  refine ⟨?_, h.2⟩
  obtain ⟨a, cap, h1, h2, h3, h4⟩ := h.1
  refine ⟨a, cap, h1, h2, h3, fun hn => ?_⟩
  obtain ⟨g, o, h5, h6, h7, h8⟩ := h4 hn
  injection h1 with h1 _ _
  rw [h5] at h1
  injection h1 with h1
  injection h1 with h1 h1' _
  subst h1 h1'
  refine ⟨_, _, h5, h6, by omega, fun i hi => ?_⟩
  rw [show u'.cell? ⟨R, 0 + i, none⟩ = u.cell? ⟨R, 0 + i, none⟩ from by simp only [World.cell?, hfr.block _ h7 hne]]
  exact h8 i hi

set_option maxHeartbeats 4000000 in
theorem term_node (k : Nat) (hT : TermC k) : TermC (k + 1) := by
  intro B P Pm A K w fns c d cs t ht hs hB hd hc hK
  obtain ⟨vv, av, cv, acs, ccs, rfl, hx, hn, hvars, hr, he, hq, hf⟩ := ht
  obtain ⟨a0, d0, rfl, _⟩ := hvars.1.form
  obtain ⟨a1, d1, rfl, hd1, hd1'⟩ := hr.form
  obtain ⟨a2, d2, rfl, hd2, hd2'⟩ := hq.form
  have hwt : Pu.wt (k + 1) t = 1 + t.vars.length + (t.args.map (Pu.wt k)).sum + (t.cases.map fun c => 1 + c.2.1.length + Pu.wt k c.2.2).sum := rfl
  obtain ⟨kd, hkd⟩ : ∃ kd, kd = t.kind := ⟨_, rfl⟩
  obtain ⟨l6, hl6d⟩ : ∃ l6 : Bool, l6 = decide (kd = 6) := ⟨_, rfl⟩
  have hdef : Pu.term fns (k + 1) c t d = if Pu.own fns c t d = 0 then
    (if Pu.chkArgs (Pu.term fns k) c l6 t.name (d + 1) 0 t.args = 0 then (if kd = 7 then Pu.cases' (Pu.term fns k) c (d + 1) t.cases else 0)
    else Pu.chkArgs (Pu.term fns k) c l6 t.name (d + 1) 0 t.args)
    else Pu.own fns c t d := by rw [hl6d, hkd]; rfl
  obtain ⟨csv, hcsv⟩ : ∃ csv : Array Value, csv = #[.int .i64 kd, .int .i64 t.n, .string t.name, .string t.token, .slice a0 t.vars.length d0, .slice a1 t.args.length d1, .slice a2 t.cases.length d2] := ⟨_, rfl⟩
  obtain ⟨W, hW⟩ : ∃ W, W = (w.alloc (.cells (CkA P Pm A) 67)).alloc (.cells #[.int .i64 kd, .int .i64 t.n, .string t.name, .string t.token, .slice a0 t.vars.length d0, .slice a1 t.args.length d1, .slice a2 t.cases.length d2] 27) := ⟨_, rfl⟩
  have fW : Fr No w W := by rw [hW]; exact fr2 _ _ _
  have g0 : W.heap[w.heap.size]? = some (.cells (CkA P Pm A) 67 (0, 0)) := by
    rw [hW]; exact fr_heap (heap_alloc_new _ _) ((Fr.refl No _).alloc _) (fun e => e)
  have g1 : W.heap[w.heap.size + 1]? = some (.cells csv 27 (0, 0)) := by
    rw [hW, hcsv]
    have := heap_alloc_new (w.alloc (.cells (CkA P Pm A) 67)) (.cells #[.int .i64 kd, .int .i64 t.n, .string t.name, .string t.token, .slice a0 t.vars.length d0, .slice a1 t.args.length d1, .slice a2 t.cases.length d2] 27)
    rw [World.size_alloc] at this
    exact this
  have hAl := hs.a.lt
  have hBA := hs.hA
  have CF : Hid (∀ u, Calls Try.prog 56 #[.agg #[.int .i64 kd, .int .i64 t.n, .string t.name, .string t.token, .slice a0 t.vars.length d0, .slice a1 t.args.length d1, .slice a2 t.cases.length d2]] u fun r w' => r = .returned (.bool (Pu.fits t)) ∧ Fr No u w') := fun u => by
    rw [hkd]; exact fits_any t t.n t.name t.token _ a1 a2 d1 d2 u (by omega) (by omega)
  have CA : Hid (∀ u, Fr No w u → Calls Try.prog 57 #[Ck P Pm A, .agg #[.int .i64 kd, .int .i64 t.n, .string t.name, .string t.token, .slice a0 t.vars.length d0, .slice a1 t.args.length d1, .slice a2 t.cases.length d2]] u fun e w' => e = .returned (.int .i64 (Pu.alone fns c t)) ∧ Fr No u w') := fun u hu => by
    rw [hkd]; exact alone_any B P Pm A K u fns c t t.token _ _ a1 d1 (hs.no hu) hx hn (by omega)
  have HX := hide hx
  have HC := hide hc
  have HWT := hide hwt
  have HR := hide hr
  have HE := hide he
  have HQ := hide hq
  have HF := hide hf
  have HS := hide hs
  have HT := hide hT
  have HKD := hide hkd
  have HL6D := hide hl6d
  have HDEF := hide hdef
  have HCSV := hide hcsv
  have FW := hide fW
  have G0 := hide g0
  have G1 := hide g1
  unfold maxLen at hd1' hd2'
  show Calls Try.prog 54 #[.agg #[.func (.func 49) #[] #[.pointer (some ⟨P, 0, none⟩)], .map (some Pm), .map (some A)], .agg #[.int .i64 t.kind, .int .i64 t.n, .string t.name, .string t.token, .slice a0 t.vars.length d0, .slice a1 t.args.length d1, .slice a2 t.cases.length d2], .int .i64 d] w _
  rw [← hkd]
  clear hc hwt hr he hq hf hs hvars hT hx hn hdef hcsv hkd fW g0 g1 hl6d
  rw [hW] at FW G0 G1
  clear hW
  by_cases h24 : 24 < d
  · have h24' : 24 < (d : Int) := by omega
    have hv : Pu.term fns (k + 1) c t d = 9 := by
      have : Pu.own fns c t d = 9 := by unfold Pu.own; rw [if_pos h24]
      rw [HDEF.out, this]; rfl
    rw [hv]
    go_enter Try.func54, Try.ntmps54
    go_wp2_with fail
    go_ret
    exact ⟨rfl, (HS.out.no FW.out).mono (by omega), FW.out.mono (fun _ _ e => e.elim)⟩
  have h24' : ¬ 24 < (d : Int) := by omega
  by_cases hk1 : kd < 1
  · have hv : Pu.term fns (k + 1) c t d = 1 := by
      have : Pu.own fns c t d = 1 := by unfold Pu.own; rw [if_neg h24, ← HKD.out, if_pos (.inl hk1)]
      rw [HDEF.out, this]; rfl
    rw [hv]
    go_enter Try.func54, Try.ntmps54
    go_wp2_with fail
    go_ret
    exact ⟨rfl, (HS.out.no FW.out).mono (by omega), FW.out.mono (fun _ _ e => e.elim)⟩
  by_cases hk7 : 7 < kd
  · have hv : Pu.term fns (k + 1) c t d = 1 := by
      have : Pu.own fns c t d = 1 := by unfold Pu.own; rw [if_neg h24, ← HKD.out, if_pos (.inr hk7)]
      rw [HDEF.out, this]; rfl
    rw [hv]
    go_enter Try.func54, Try.ntmps54
    go_wp2_with fail
    go_ret
    exact ⟨rfl, (HS.out.no FW.out).mono (by omega), FW.out.mono (fun _ _ e => e.elim)⟩
  go_enter Try.func54, Try.ntmps54
  go_wp2_with fail
  refine (CF.out _).mono ?_
  obtain ⟨fb, hfb⟩ : ∃ fb, Pu.fits t = fb := ⟨_, rfl⟩
  rw [hfb]
  have HFB := hide hfb
  clear hfb CF
  rintro e w1 ⟨rfl, hf1⟩
  have F1 := hide (FW.out.trans hf1)
  have g0 := fr_heap G0.out hf1 (fun e => e)
  have g1 := fr_heap G1.out hf1 (fun e => e)
  have b0 := cell_of_heap g0
  have b1 := cell_of_heap g1
  rw [HCSV.out] at b1
  have G0' := hide g0
  have G1' := hide g1
  clear hf1 g0 g1 G0 G1
  cases fb with
  | false =>
    go_wp2_with fail
    go_ret
    have hv : Pu.term fns (k + 1) c t d = 5 := by
      have : Pu.own fns c t d = 5 := by unfold Pu.own; rw [if_neg h24, ← HKD.out, if_neg (by omega), HFB.out, if_pos rfl]
      rw [HDEF.out, this]; rfl
    rw [hv]
    exact ⟨rfl, (HS.out.no F1.out).mono (by omega), F1.out.mono (fun _ _ e => e.elim)⟩
  | true =>
    have hown : Pu.own fns c t d = Pu.alone fns c t := by unfold Pu.own; rw [if_neg h24, ← HKD.out, if_neg (by omega), HFB.out, if_neg (by decide)]
    have HOWN := hide hown
    clear hown
    go_wp2_with fail
    refine (CA.out _ F1.out).mono ?_
    obtain ⟨er, her⟩ : ∃ er, Pu.alone fns c t = er := ⟨_, rfl⟩
    rw [her]
    have HER := hide her
    clear her CA
    rintro e w2 ⟨rfl, hf2⟩
    have F2 := hide (F1.out.trans hf2)
    have g0 := fr_heap G0'.out hf2 (fun e => e)
    have g1 := fr_heap G1'.out hf2 (fun e => e)
    clear b0 b1
    have b0 := cell_of_heap g0
    have b1 := cell_of_heap g1
    rw [HCSV.out] at b1
    have G0 := hide g0
    have G1 := hide g1
    clear hf2 g0 g1 G0' G1' F1
    by_cases h0 : er = 0
    · subst h0
      have hv : Pu.term fns (k + 1) c t d = (if Pu.chkArgs (Pu.term fns k) c l6 t.name (d + 1) 0 t.args = 0 then (if kd = 7 then Pu.cases' (Pu.term fns k) c (d + 1) t.cases else 0)
          else Pu.chkArgs (Pu.term fns k) c l6 t.name (d + 1) 0 t.args) := by rw [HDEF.out, HOWN.out, HER.out, if_pos rfl]
      have HV := hide hv
      clear hv
      go_wp2_with fail
      clear b0 b1
      have hd' : d + 1 ≤ 25 := by omega
      go_loopw [37] (fun q wr => ∃ i : Nat, i ≤ t.args.length ∧ q = .int .i64 i ∧ Fr (· = A) w wr ∧ CkS B P Pm A (K + 2 * sumW (Pu.wt k) t.args i + two i) wr fns c ∧ wr.heap[w.heap.size]? = some (.cells (CkA P Pm A) 67 (0, 0)) ∧ wr.heap[w.heap.size + 1]? = some (.cells csv 27 (0, 0)) ∧
        Pu.chkArgs (Pu.term fns k) c l6 t.name (d + 1) 0 t.args = Pu.chkArgs (Pu.term fns k) c l6 t.name (d + 1) i (t.args.drop i)) (fun q _ => t.args.length - (intOf q).toNat)
      case atStart => exact ⟨0, Nat.zero_le _, rfl, F2.out.mono (fun _ _ e => e.elim), HS.out.no F2.out, G0.out, G1.out, rfl⟩
      case round =>
        clear F2 G0 G1
        obtain ⟨i, hi, rfl, hfr, hcs, hbx, hbt, hch⟩ := hrel
        have hbs1 : w.heap.size + 1 < wr.heap.size := lt_of_heap hbt
        have hbs : w.heap.size < wr.heap.size := by omega
        by_cases hlt : i < t.args.length
        · have ho : Old B w wr := hfr.old hB (fun i hi e => by have e : i = A := e; omega)
          have hszw := hfr.size
          obtain ⟨g, o, cap1, kd', n', x', y', b0, n0, e0, b1, n1, e1, b2, n2, e2, hav, hcap, hg, hgw, hrt, hcell⟩ := args_at HR.out HE.out i hlt
          injection hav with hav1 _ hav2
          subst hav1 hav2
          have hcw : ∀ j, j < 7 → wr.cell? ⟨g, o + i * 7 + j, none⟩ = [Value.int .i64 kd', .int .i64 n', .string x', .string y', .slice b0 n0 e0, .slice b1 n1 e1, .slice b2 n2 e2][j]? := fun j hj => by
            rw [ho.cell (a := ⟨g, o + i * 7 + j, none⟩) hg]; exact hcell j hj
          have q0 : wr.cell? ⟨g, o + i * 7, none⟩ = some (.int .i64 kd') := hcw 0 (by omega)
          have q1 := hcw 1 (by omega)
          have q2 := hcw 2 (by omega)
          have q3 := hcw 3 (by omega)
          have q4 := hcw 4 (by omega)
          have q5 := hcw 5 (by omega)
          have q6 := hcw 6 (by omega)
          have hgl : g < wr.heap.size := by omega
          have hss := sumW_succ (Pu.wt k) t.args i hlt
          have hsl := sumW_le (Pu.wt k) t.args (i + 1)
          have hst := chkArgs_step (Pu.term fns k) c l6 t.name (d + 1) t.args i hlt
          have hwb := HWT.out
          have htw := two_mono i
          have htw2 := two_le (i + 1)
          obtain ⟨ti, hti⟩ : ∃ ti, ti = t.args[i] := ⟨_, rfl⟩
          rw [← hti] at hss hst hrt
          have hcast : ((d + 1 : Nat) : Int) = (d : Int) + 1 := by omega
          have k0 := cell_of_heap hbx
          have k1 := cell_of_heap hbt
          rw [HCSV.out] at k1
          have HST := hide hst
          have HCH := hide hch
          have HFR := hide hfr
          have HCS := hide hcs
          have HBX := hide hbx
          have HBT := hide hbt
          have i1 : (i : Int) < (t.args.length : Int) := by omega
          have i0 : (0 : Int) ≤ (i : Int) := by omega
          have CNg : Hid (∀ W Bn v l, Fr No wr W → Names Bn W v l → (∀ w w', Names Bn w v l → Fr (· = A) w w' → Names Bn w' v l) → Bn ≤ W.heap.size → l = Pu.argNames l6 t.name i → two i + 2 * l.length ≤ two (i + 1) → Calls Try.prog 40 #[Ck P Pm A, v, .agg #[.int .i64 kd', .int .i64 n', .string x', .string y', .slice b0 n0 e0, .slice b1 n1 e1, .slice b2 n2 e2], .int .i64 ((d : Int) + 1)] W fun e w' => e = .returned (.int .i64 (Pu.term fns k (Pu.with' c (Pu.argNames l6 t.name i)) ti (d + 1))) ∧
              CkS B P Pm A (K + 2 * sumW (Pu.wt k) t.args (i + 1) + two (i + 1)) w' fns c ∧ Fr (· = A) w w' ∧ w'.heap[w.heap.size]? = some (.cells (CkA P Pm A) 67 (0, 0)) ∧ w'.heap[w.heap.size + 1]? = some (.cells csv 27 (0, 0))) := by
            intro W Bn v l hW hl hA hBn hlE h2
            have oW : Old B w W := ho.trans (hW.old (by omega) (fun _ _ e => e))
            have sW : w.heap.size ≤ W.heap.size := Nat.le_trans hszw hW.size
            rw [← hlE, ← hcast]
            refine (under_any k HT.out B Bn P Pm A (K + 2 * sumW (Pu.wt k) t.args i + two i) W fns c (d + 1) _ ti v l hl hA (hrt.old oW sW) (HCS.out.no hW) (by omega) hd' hBn (fun x => by have := HC.out x; omega) (by omega)).mono ?_
            rintro e w' ⟨he, h1, h2⟩
            exact ⟨he, h1.mono (by omega), (HFR.out.no hW).trans h2, fr_heap (fr_heap HBX.out hW (fun e => e)) h2 (by show ¬ w.heap.size = A; omega), fr_heap (fr_heap HBT.out hW (fun e => e)) h2 (by show ¬ w.heap.size + 1 = A; omega)⟩
          have hmsA : A < wr.heap.size := by omega
          clear hcw hcell hrt hss hsl hst hch hfr hcs hbx hbt ho hwb hti
          by_cases hlet : kd = 6 ∧ i = 1
          · obtain ⟨hl6, hl1⟩ := hlet
            have i2 : ((i : Int) == 1) = true := by simp [hl1]
            have CN : Hid (∀ W, Fr No wr W → W.heap[wr.heap.size + 1]? = some (.cells #[.string t.name] 9 (0, 0)) → Calls Try.prog 40 #[Ck P Pm A, .slice (some ⟨wr.heap.size + 1, 0, none⟩) 1 1, .agg #[.int .i64 kd', .int .i64 n', .string x', .string y', .slice b0 n0 e0, .slice b1 n1 e1, .slice b2 n2 e2], .int .i64 ((d : Int) + 1)] W fun e w' => e = .returned (.int .i64 (Pu.term fns k (Pu.with' c (Pu.argNames l6 t.name i)) ti (d + 1))) ∧
                CkS B P Pm A (K + 2 * sumW (Pu.wt k) t.args (i + 1) + two (i + 1)) w' fns c ∧ Fr (· = A) w w' ∧ w'.heap[w.heap.size]? = some (.cells (CkA P Pm A) 67 (0, 0)) ∧ w'.heap[w.heap.size + 1]? = some (.cells csv 27 (0, 0))) := fun W hW hb =>
              CNg.out W (wr.heap.size + 1 + 1) _ [t.name] hW (one_name HX.out hb) (one_A (by omega)) (by have := lt_of_heap hb; omega) (by unfold Pu.argNames; rw [if_pos ⟨by rw [HL6D.out]; simp [hl6], hl1⟩]) (by rw [hl1]; unfold two; simp)
            have HL6 := hide hl6
            subst hl6
            have HL1 := hide hl1
            clear CNg hl1
            go_wp2_with fail
            refine (CN.out _ ?_ ?_).mono ?_
            · exact ((Fr.refl No wr).alloc _).alloc _
            · have := heap_alloc_new (wr.alloc (.cells #[.int .i64 kd', .int .i64 n', .string x', .string y', .slice b0 n0 e0, .slice b1 n1 e1, .slice b2 n2 e2] 27)) (.cells #[.string t.name] 9)
              rw [World.size_alloc] at this
              exact this
            obtain ⟨er, her⟩ : ∃ er, Pu.term fns k (Pu.with' c (Pu.argNames l6 t.name i)) ti (d + 1) = er := ⟨_, rfl⟩
            rw [her]
            have HER2 := hide her
            clear her
            rintro e w4 ⟨rfl, hs4, hf4, hb4, hb5⟩
            have HS4 := hide hs4
            have HF4 := hide hf4
            have HB4 := hide hb4
            have HB5 := hide hb5
            clear hs4 hf4 hb4 hb5
            by_cases h0 : er = 0
            · subst h0
              go_wp2_with fail
              go_roundw
              case rel => exact ⟨i + 1, by omega, by go_num, HF4.out, HS4.out, HB4.out, HB5.out, by rw [HCH.out, HST.out, HER2.out, if_pos rfl]⟩
              case measure => simp [intOf]; omega
            · go_wp2_with fail
              go_ret
              have hv : Pu.term fns (k + 1) c t d = er := by rw [HV.out, HCH.out, HST.out, HER2.out, if_neg h0, if_neg h0]
              rw [hv]
              exact ⟨rfl, HS4.out.mono (by have := HWT.out; have := sumW_le (Pu.wt k) t.args (i + 1); have := two_le (i + 1); omega), HF4.out⟩
          · have CN : Hid (∀ W, Fr No wr W → Calls Try.prog 40 #[Ck P Pm A, .slice none 0 0, .agg #[.int .i64 kd', .int .i64 n', .string x', .string y', .slice b0 n0 e0, .slice b1 n1 e1, .slice b2 n2 e2], .int .i64 ((d : Int) + 1)] W fun e w' => e = .returned (.int .i64 (Pu.term fns k (Pu.with' c (Pu.argNames l6 t.name i)) ti (d + 1))) ∧
                CkS B P Pm A (K + 2 * sumW (Pu.wt k) t.args (i + 1) + two (i + 1)) w' fns c ∧ Fr (· = A) w w' ∧ w'.heap[w.heap.size]? = some (.cells (CkA P Pm A) 67 (0, 0)) ∧ w'.heap[w.heap.size + 1]? = some (.cells csv 27 (0, 0))) := fun W hW =>
              CNg.out W 0 _ [] hW ⟨Row.nil _ _, fun x hx => by simp at hx⟩ (fun _ _ _ _ => ⟨Row.nil _ _, fun x hx => by simp at hx⟩) (by omega) (by unfold Pu.argNames; rw [if_neg (by rw [HL6D.out]; simpa using hlet)]) (by simpa using htw)
            clear CNg
            by_cases hl6 : kd = 6
            · have i2 : ¬ ((i : Int) = 1) := fun e => hlet ⟨hl6, by omega⟩
              subst hl6
              clear hlet
              go_wp2_with fail
              refine (CN.out _ ?_).mono ?_
              · exact (Fr.refl No wr).alloc _
              obtain ⟨er, her⟩ : ∃ er, Pu.term fns k (Pu.with' c (Pu.argNames l6 t.name i)) ti (d + 1) = er := ⟨_, rfl⟩
              rw [her]
              have HER2 := hide her
              clear her
              rintro e w4 ⟨rfl, hs4, hf4, hb4, hb5⟩
              have HS4 := hide hs4
              have HF4 := hide hf4
              have HB4 := hide hb4
              have HB5 := hide hb5
              clear hs4 hf4 hb4 hb5
              by_cases h0 : er = 0
              · subst h0
                go_wp2_with fail
                go_roundw
                case rel => exact ⟨i + 1, by omega, by go_num, HF4.out, HS4.out, HB4.out, HB5.out, by rw [HCH.out, HST.out, HER2.out, if_pos rfl]⟩
                case measure => simp [intOf]; omega
              · go_wp2_with fail
                go_ret
                have hv : Pu.term fns (k + 1) c t d = er := by rw [HV.out, HCH.out, HST.out, HER2.out, if_neg h0, if_neg h0]
                rw [hv]
                exact ⟨rfl, HS4.out.mono (by have := HWT.out; have := sumW_le (Pu.wt k) t.args (i + 1); have := two_le (i + 1); omega), HF4.out⟩
            · clear hlet
              go_wp2_with fail
              refine (CN.out _ ?_).mono ?_
              · exact (Fr.refl No wr).alloc _
              obtain ⟨er, her⟩ : ∃ er, Pu.term fns k (Pu.with' c (Pu.argNames l6 t.name i)) ti (d + 1) = er := ⟨_, rfl⟩
              rw [her]
              have HER2 := hide her
              clear her
              rintro e w4 ⟨rfl, hs4, hf4, hb4, hb5⟩
              have HS4 := hide hs4
              have HF4 := hide hf4
              have HB4 := hide hb4
              have HB5 := hide hb5
              clear hs4 hf4 hb4 hb5
              by_cases h0 : er = 0
              · subst h0
                go_wp2_with fail
                go_roundw
                case rel => exact ⟨i + 1, by omega, by go_num, HF4.out, HS4.out, HB4.out, HB5.out, by rw [HCH.out, HST.out, HER2.out, if_pos rfl]⟩
                case measure => simp [intOf]; omega
              · go_wp2_with fail
                go_ret
                have hv : Pu.term fns (k + 1) c t d = er := by rw [HV.out, HCH.out, HST.out, HER2.out, if_neg h0, if_neg h0]
                rw [hv]
                exact ⟨rfl, HS4.out.mono (by have := HWT.out; have := sumW_le (Pu.wt k) t.args (i + 1); have := two_le (i + 1); omega), HF4.out⟩
        · have hil : i = t.args.length := by omega
          subst hil
          rw [sumW_all] at hcs
          rw [List.drop_length] at hch
          have hch0 : Pu.chkArgs (Pu.term fns k) c l6 t.name (d + 1) 0 t.args = 0 := by rw [hch]; rfl
          have k0 := cell_of_heap hbx
          have k1 := cell_of_heap hbt
          rw [HCSV.out] at k1
          have hszw := hfr.size
          have ho : Old B w wr := hfr.old hB (fun i hi e => by have e : i = A := e; omega)
          have hcast : ((d + 1 : Nat) : Int) = (d : Int) + 1 := by omega
          have hwb := HWT.out
          have htw := two_le t.args.length
          have CC : Hid (Calls Try.prog 58 #[Ck P Pm A, .slice a2 t.cases.length d2, .int .i64 ((d : Int) + 1)] wr fun e w' => e = .returned (.int .i64 (Pu.cases' (Pu.term fns k) c (d + 1) t.cases)) ∧ CkS B P Pm A (K + 2 * Pu.wt (k + 1) t) w' fns c ∧ Fr (· = A) w w') := by
            rw [← hcast]
            refine (cases_any k HT.out B P Pm A _ wr fns c (d + 1) _ ccs t.cases (HQ.out.old ho hszw) (cases_old HF.out ho hszw) hcs (by omega) hd' (fun x => by have := HC.out x; omega) (by omega)).mono ?_
            rintro e w' ⟨he, h1, h2⟩
            exact ⟨he, h1.mono (by omega), hfr.trans h2⟩
          have HFR := hide hfr
          have HCS := hide hcs
          have HC0 := hide hch0
          clear hfr hcs hbx hbt hch ho hch0 hwb htw
          by_cases hm : kd = 7
          · subst hm
            go_wp2_with fail
            refine CC.out.mono ?_
            rintro e w4 ⟨rfl, hs4, hf4⟩
            have HS4 := hide hs4
            have HF4 := hide hf4
            clear hs4 hf4 k0 k1
            go_wp2_with fail
            go_ret
            have hv : Pu.term fns (k + 1) c t d = Pu.cases' (Pu.term fns k) c (d + 1) t.cases := by rw [HV.out, HC0.out]; simp
            rw [hv]
            exact ⟨rfl, HS4.out, HF4.out⟩
          · go_wp2_with fail
            go_ret
            have hv : Pu.term fns (k + 1) c t d = 0 := by rw [HV.out, HC0.out, if_pos rfl, if_neg hm]
            rw [hv]
            exact ⟨rfl, HCS.out.mono (by have := HWT.out; have := two_le t.args.length; omega), HFR.out⟩
    · go_wp2_with fail
      go_ret
      have hv : Pu.term fns (k + 1) c t d = er := by rw [HDEF.out, HOWN.out, HER.out, if_neg h0]
      rw [hv]
      exact ⟨rfl, (HS.out.no F2.out).mono (by omega), F2.out.mono (fun _ _ e => e.elim)⟩
end Go.Proofs.Ytmjpfiecgkoaeaa
