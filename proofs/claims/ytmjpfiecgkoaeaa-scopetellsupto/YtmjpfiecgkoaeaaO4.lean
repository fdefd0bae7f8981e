/- Copies of lists of cases, and of functions. -/
import Derived.Test.YtmjpfiecgkoaeaaO3
import Derived.Test.YtmjpfiecgkoaeaaC9
namespace Go.Proofs.Ytmjpfiecgkoaeaa
open Go.RowKit Go.Maps Go.WideMaps

theorem Try.info48 : (Try.prog.info? 48).map (fun i => (i.zero, i.size, i.bytes)) = some (some (.agg #[.int .i64 0, .slice none 0 0, .int .i64 0, .int .i64 0, .string ⟨#[]⟩, .string ⟨#[]⟩, .slice none 0 0, .slice none 0 0, .slice none 0 0]), 9, 152) := by kernel_rfl
theorem Try.info44 : (Try.prog.info? 44).map (fun i => (i.zero, i.size, i.bytes)) = some (some (.agg #[.string ⟨#[]⟩, .slice none 0 0, .int .i64 0, .int .i64 0, .string ⟨#[]⟩, .string ⟨#[]⟩, .slice none 0 0, .slice none 0 0, .slice none 0 0]), 9, 160) := by kernel_rfl

theorem rcs_kept {k : Nat} {S S' : Nat → Prop} {w w' : World} (hs : Stays S S' w w') {cs : List Value} {c : Int × List ByteArray × Pu.TT k} (h : RCS (RTS k S w) S w cs c) : RCS (RTS k S' w') S' w' cs c := RCS.kept hs (fun _ _ h => RTS.kept hs h) h

set_option maxHeartbeats 2000000 in
theorem copyCases_any (k : Nat) (hO : OwnC k) (B : Nat) (v : Value) (acs : List Value) (l : List (Int × List ByteArray × Pu.TT k)) (w : World) (hr : Row B w v l.length acs) (he : Each 9 (RC (RT k B w) B w) acs l) (hB : B ≤ w.heap.size) (hn : l.length ≤ 1073741824) (hw : ∀ i (h : i < l.length), l[i].2.1.length + Pu.wt k l[i].2.2 ≤ 1073741824) :
    Calls Try.prog 25 #[v, .func (.func 26) #[] #[]] w fun e w' => ∃ a c, e = .returned (.slice a l.length c) ∧ Fr No w w' ∧ ∃ acs', RowS (New w w') w' (.slice a l.length c) l.length acs' ∧ Each 9 (RCS (RTS k (New w w') w') (New w w') w') acs' l := by
  obtain ⟨a0, cp0, rfl, hcp1, hcp2⟩ := hr.form
  unfold maxLen at hcp2
  have HR := hide hr
  have HE := hide he
  clear hr he
  have HW := hide hw
  have HO := hide hO
  clear hw hO
  by_cases h0 : l.length = 0
  · have e0 : l = [] := List.length_eq_zero_iff.1 h0
    subst e0
    go_enter Try.func25, Try.ntmps25
    go_wp2_with fail
    go_ret
    exact ⟨_, _, rfl, Fr.refl _ _, [], ⟨none, 0, rfl, Nat.le_refl _, Nat.zero_le _, fun h => absurd h (by simp)⟩, rfl⟩
  · have h0' : ¬ (l.length : Int) = 0 := by omega
    obtain ⟨i0, hi, hz0, hz1, hz2⟩ := info_parts Try.info48
    have hmk : ∀ u : World, (Instr.makeSlice 25 (.int .i64 (l.length : Int)) (.int .i64 (l.length : Int))).run Try.prog u =
        .ok (.slice (some ⟨u.heap.size, 0, none⟩) l.length l.length) (u.alloc (.cells (madeCells #[.int .i64 0, .slice none 0 0, .int .i64 0, .int .i64 0, .string ⟨#[]⟩, .string ⟨#[]⟩, .slice none 0 0, .slice none 0 0, .slice none 0 0] (l.length * 9)) 48)) := fun u => by
      have h := run_make (P := Try.prog) u 25 48 i0 _ Try.underlying25 hi hz0 .i64 .i64 (l.length : Int) (l.length : Int) (by omega) (Int.le_refl _) (by rw [hz2]; omega) (by omega)
      rw [Int.toNat_natCast] at h
      simpa [hz1, Value.cells] using h
    go_enter Try.func25, Try.ntmps25
    go_wp2_with fail
    clear hmk h0'
    generalize ((l.length : Int) == 0) = bq
    go_loopw [16] (fun q wr => ∃ i : Nat, i ≤ l.length ∧ q = .int .i64 i ∧ Fr No w wr ∧ ∃ cur xs, wr.heap[w.heap.size]? = some (.cells cur 48 (0, 0)) ∧ cur.size = l.length * 9 ∧ xs.length = i * 9 ∧ (∀ j, j < i * 9 → cur[j]? = xs[j]?) ∧
      Each 9 (RCS (RTS k (fun x => w.heap.size < x ∧ x < wr.heap.size) wr) (fun x => w.heap.size < x ∧ x < wr.heap.size) wr) xs (l.take i)) (fun q _ => l.length - (intOf q).toNat)
    case atStart => exact ⟨0, Nat.zero_le _, rfl, (Fr.refl No w).alloc _, _, [], heap_alloc_new _ _, size_madeCells _ _, rfl, fun j hj => absurd hj (by omega), rfl⟩
    case round =>
      obtain ⟨i, hi', rfl, hf, cur, xs, hg, hsz, hxl, hcur, hea⟩ := hrel
      have hbs : w.heap.size < wr.heap.size := lt_of_heap hg
      have hszw := hf.size
      by_cases hlt : i < l.length
      · have ho : Old B w wr := hf.old hB (fun _ _ e => e)
        obtain ⟨g, o, cap, ag, an, ac, kd', n', x', y', b0, n0, e0, b1, n1, e1, b2, n2, e2, hav, hcap, hg', hgw, hnm, han, hrt, hcell⟩ := cases_at HR.out HE.out i hlt
        injection hav with hav1 _ hav2
        subst hav1 hav2
        have hcw : ∀ j, j < 9 → wr.cell? ⟨g, o + i * 9 + j, none⟩ = [Value.int .i64 l[i].1, .slice ag an ac, .int .i64 kd', .int .i64 n', .string x', .string y', .slice b0 n0 e0, .slice b1 n1 e1, .slice b2 n2 e2][j]? := fun j hj => by
          rw [ho.cell (a := ⟨g, o + i * 9 + j, none⟩) hg']; exact hcell j hj
        have q0 : wr.cell? ⟨g, o + i * 9, none⟩ = some (.int .i64 l[i].1) := hcw 0 (by omega)
        have q1 := hcw 1 (by omega)
        have q2 := hcw 2 (by omega)
        have q3 := hcw 3 (by omega)
        have q4 := hcw 4 (by omega)
        have q5 := hcw 5 (by omega)
        have q6 := hcw 6 (by omega)
        have q7 := hcw 7 (by omega)
        have q8 := hcw 8 (by omega)
        have hgl : g < wr.heap.size := by omega
        have hww := HW.out i hlt
        have htk : l.take (i + 1) = l.take i ++ [l[i]] := List.take_succ_eq_append_getElem hlt
        obtain ⟨cse, hcse⟩ : ∃ cse, cse = l[i] := ⟨_, rfl⟩
        rw [← hcse] at hww htk hnm han hrt q0
        subst han
        have CO : Hid (∀ W, Fr No wr W → Calls Try.prog 26 #[.agg #[.int .i64 cse.1, .slice ag cse.2.1.length ac, .int .i64 kd', .int .i64 n', .string x', .string y', .slice b0 n0 e0, .slice b1 n1 e1, .slice b2 n2 e2]] W fun e w' => ∃ va vc cs', e = .returned (.agg (.int .i64 cse.1 :: .slice va cse.2.1.length vc :: cs').toArray) ∧ Fr No W w' ∧ NamesS (New W w') w' (.slice va cse.2.1.length vc) cse.2.1 ∧ RTS k (New W w') w' cs' cse.2.2) := fun W hW =>
          ownCase_any k HO.out B cse.1 cse.2.1 cse.2.2 ag cse.2.1.length ac kd' n' x' y' b0 b1 b2 n0 e0 n1 e1 n2 e2 W (hnm.kept (ho.trans (hW.old (by omega) (fun _ _ e => e))) (Nat.le_refl _) (Nat.le_trans hszw hW.size)) rfl (hrt.old (ho.trans (hW.old (by omega) (fun _ _ e => e))) (Nat.le_trans hszw hW.size)) (by have := hW.size; omega) (by omega) (by omega)
        have HTK := hide htk
        have HF := hide hf
        have HG := hide hg
        have HCUR := hide hcur
        have HEA := hide hea
        skip
        clear hcw hcell hrt hf hg hcur hea htk hcse ho hnm
        have i1 : (i : Int) < (l.length : Int) := by omega
        have i00 : (0 : Int) ≤ (i : Int) := by omega
        have hsize : i * 9 + 9 ≤ cur.size := by omega
        go_wp2_with fail
        refine (CO.out _ ((Fr.refl No wr).alloc _)).mono ?_
        rintro e w1 ⟨va, vc, cs', rfl, hf1, hnm1, hrt1⟩
        obtain ⟨kd2, m2, x2, y2, p0, r0, s0, p1, r1, s1, p2, r2, s2, rfl⟩ := hrt1.form
        have F1 : Fr No wr w1 := ((Fr.refl No wr).alloc _).trans hf1
        have g1 := fr_heap HG.out F1 (fun e => e)
        obtain ⟨u0, hu0⟩ := some_at g1 (o := i * 9) (by omega)
        obtain ⟨u1, hu1⟩ := some_at g1 (o := i * 9 + 1) (by omega)
        obtain ⟨u2, hu2⟩ := some_at g1 (o := i * 9 + 2) (by omega)
        obtain ⟨u3, hu3⟩ := some_at g1 (o := i * 9 + 3) (by omega)
        obtain ⟨u4, hu4⟩ := some_at g1 (o := i * 9 + 4) (by omega)
        obtain ⟨u5, hu5⟩ := some_at g1 (o := i * 9 + 5) (by omega)
        obtain ⟨u6, hu6⟩ := some_at g1 (o := i * 9 + 6) (by omega)
        obtain ⟨u7, hu7⟩ := some_at g1 (o := i * 9 + 7) (by omega)
        obtain ⟨u8, hu8⟩ := some_at g1 (o := i * 9 + 8) (by omega)
        have z1 := frozen_of_heap g1
        have G1 := hide g1
        have HF1 := hide F1
        have hw1s : wr.heap.size < w1.heap.size := by have := hf1.size; simp at this; omega
        have HRT1 := hide hrt1
        have HNM1 := hide hnm1
        clear g1 F1 hf1 hrt1 CO hnm1
        go_wp2_with fail
        go_roundw
        case rel =>
          obtain ⟨cur', c1, c2, c3, c4, c5⟩ := sets_heap w.heap.size 48 (0, 0) [.int .i64 cse.1, .slice va cse.2.1.length vc, .int .i64 kd2, .int .i64 m2, .string x2, .string y2, .slice p0 r0 s0, .slice p1 r1 s1, .slice p2 r2 s2] (i * 9) w1 cur G1.out (by simp; omega)
          refine ⟨i + 1, by omega, by go_num, ?_, cur', xs ++ [.int .i64 cse.1, .slice va cse.2.1.length vc, .int .i64 kd2, .int .i64 m2, .string x2, .string y2, .slice p0 r0 s0, .slice p1 r1 s1, .slice p2 r2 s2], c1, by omega, by simp [hxl]; omega, fun j hj => ?_, ?_⟩
          · exact (HF.out.trans HF1.out).trans' c5 (fun j hj e => by have e : j = w.heap.size := e; omega)
          · by_cases hji : j < i * 9
            · rw [c3 j hji, HCUR.out j hji, List.getElem?_append_left (by omega)]
            · have := c4 (j - i * 9) (by simp; omega)
              rw [show i * 9 + (j - i * 9) = j by omega] at this
              rw [this, List.getElem?_append_right (by omega), hxl]
          · rw [HTK.out]
            have f01 : Fr (· = w.heap.size) wr (setsAt w1 w.heap.size (i * 9) [.int .i64 cse.1, .slice va cse.2.1.length vc, .int .i64 kd2, .int .i64 m2, .string x2, .string y2, .slice p0 r0 s0, .slice p1 r1 s1, .slice p2 r2 s2]) := (HF1.out.mono (fun _ _ e => e.elim)).trans c5
            have stN : Stays (New (wr.alloc (.cells #[.int .i64 cse.1, .slice ag cse.2.1.length ac, .int .i64 kd', .int .i64 n', .string x', .string y', .slice b0 n0 e0, .slice b1 n1 e1, .slice b2 n2 e2] 48)) w1) (fun x => w.heap.size < x ∧ x < (setsAt w1 w.heap.size (i * 9) [.int .i64 cse.1, .slice va cse.2.1.length vc, .int .i64 kd2, .int .i64 m2, .string x2, .string y2, .slice p0 r0 s0, .slice p1 r1 s1, .slice p2 r2 s2]).heap.size) w1 (setsAt w1 w.heap.size (i * 9) [.int .i64 cse.1, .slice va cse.2.1.length vc, .int .i64 kd2, .int .i64 m2, .string x2, .string y2, .slice p0 r0 s0, .slice p1 r1 s1, .slice p2 r2 s2]) :=
              stays_fr c5 (fun g hg _ e => by have e : g = w.heap.size := e; have := hg.1; simp at this; omega) (fun g hg => ⟨by have := hg.1; simp at this; omega, Nat.lt_of_lt_of_le hg.2 c5.size⟩)
            refine Each.snoc (n := 9) rfl ?_ ?_
            rotate_left
            · exact HEA.out.mono fun _ _ h => rcs_kept (stays_fr f01 (fun g hg _ e => by have e : g = w.heap.size := e; omega) (fun g hg => ⟨hg.1, Nat.lt_of_lt_of_le hg.2 f01.size⟩)) h
            exact ⟨_, _, rfl, HNM1.out.kept stN, rfl, HRT1.out.kept stN⟩
        case measure => simp [intOf]; omega
      · have hil : i = l.length := by omega
        subst hil
        have HF := hide hf
        have HG := hide hg
        have HCUR := hide hcur
        rw [List.take_length] at hea
        have HEA := hide hea
        clear hf hg hcur hea
        go_wp2_with fail
        go_ret
        refine ⟨_, _, rfl, HF.out, xs, ⟨_, _, rfl, Nat.le_refl _, by unfold maxLen; omega, fun _ => ⟨_, _, rfl, ⟨Nat.le_refl _, lt_of_heap HG.out⟩, lt_of_heap HG.out, fun j hj => ?_⟩⟩, ?_⟩
        · rw [cell_of_heap HG.out, Nat.zero_add]
          exact HCUR.out j (by omega)
        · exact HEA.out.mono fun _ _ h => rcs_kept ⟨Nat.le_refl _, fun g hg _ => ⟨⟨by omega, hg.2⟩, rfl⟩⟩ h

set_option maxHeartbeats 2000000 in
theorem copyFns_any (k : Nat) (hO : OwnC k) (B : Nat) (v : Value)  (l : List (Pu.Fn k)) (w : World) (hl : Fns k B w v l) (hB : B ≤ w.heap.size) (hn : l.length ≤ 1073741824) (hw : ∀ i (h : i < l.length), l[i].2.1.length + Pu.wt k l[i].2.2 ≤ 1073741824) :
    Calls Try.prog 27 #[v, .func (.func 28) #[] #[]] w fun e w' => ∃ a c, e = .returned (.slice a l.length c) ∧ Fr No w w' ∧ ∃ acs', RowS (New w w') w' (.slice a l.length c) l.length acs' ∧ Each 9 (RFS k (New w w') w') acs' l := by
  have hform : ∃ a cap, v = .slice a l.length cap ∧ l.length ≤ cap ∧ cap ≤ maxLen := by obtain ⟨acs, hr, _⟩ := hl; exact hr.form
  obtain ⟨a0, cp0, rfl, hcp1, hcp2⟩ := hform
  unfold maxLen at hcp2
  have HL := hide hl
  clear hl
  have HW := hide hw
  have HO := hide hO
  clear hw hO
  by_cases h0 : l.length = 0
  · have e0 : l = [] := List.length_eq_zero_iff.1 h0
    subst e0
    go_enter Try.func27, Try.ntmps27
    go_wp2_with fail
    go_ret
    exact ⟨_, _, rfl, Fr.refl _ _, [], ⟨none, 0, rfl, Nat.le_refl _, Nat.zero_le _, fun h => absurd h (by simp)⟩, rfl⟩
  · have h0' : ¬ (l.length : Int) = 0 := by omega
    obtain ⟨i0, hi, hz0, hz1, hz2⟩ := info_parts Try.info44
    have hmk : ∀ u : World, (Instr.makeSlice 22 (.int .i64 (l.length : Int)) (.int .i64 (l.length : Int))).run Try.prog u =
        .ok (.slice (some ⟨u.heap.size, 0, none⟩) l.length l.length) (u.alloc (.cells (madeCells #[.string ⟨#[]⟩, .slice none 0 0, .int .i64 0, .int .i64 0, .string ⟨#[]⟩, .string ⟨#[]⟩, .slice none 0 0, .slice none 0 0, .slice none 0 0] (l.length * 9)) 44)) := fun u => by
      have h := run_make (P := Try.prog) u 22 44 i0 _ Try.underlying22 hi hz0 .i64 .i64 (l.length : Int) (l.length : Int) (by omega) (Int.le_refl _) (by rw [hz2]; omega) (by omega)
      rw [Int.toNat_natCast] at h
      simpa [hz1, Value.cells] using h
    go_enter Try.func27, Try.ntmps27
    go_wp2_with fail
    clear hmk h0'
    generalize ((l.length : Int) == 0) = bq
    go_loopw [16] (fun q wr => ∃ i : Nat, i ≤ l.length ∧ q = .int .i64 i ∧ Fr No w wr ∧ ∃ cur xs, wr.heap[w.heap.size]? = some (.cells cur 44 (0, 0)) ∧ cur.size = l.length * 9 ∧ xs.length = i * 9 ∧ (∀ j, j < i * 9 → cur[j]? = xs[j]?) ∧
      Each 9 (RFS k (fun x => w.heap.size < x ∧ x < wr.heap.size) wr) xs (l.take i)) (fun q _ => l.length - (intOf q).toNat)
    case atStart => exact ⟨0, Nat.zero_le _, rfl, (Fr.refl No w).alloc _, _, [], heap_alloc_new _ _, size_madeCells _ _, rfl, fun j hj => absurd hj (by omega), rfl⟩
    case round =>
      obtain ⟨i, hi', rfl, hf, cur, xs, hg, hsz, hxl, hcur, hea⟩ := hrel
      have hbs : w.heap.size < wr.heap.size := lt_of_heap hg
      have hszw := hf.size
      by_cases hlt : i < l.length
      · have ho : Old B w wr := hf.old hB (fun _ _ e => e)
        obtain ⟨g, o, cap, ag, an, ac, kd', n', x', y', b0, n0, e0, b1, n1, e1, b2, n2, e2, hav, hcap, hg', hgw, hnm, han, hxn, hrt, hcell⟩ := fns_at HL.out i hlt
        injection hav with hav1 _ hav2
        subst hav1 hav2
        have hcw : ∀ j, j < 9 → wr.cell? ⟨g, o + i * 9 + j, none⟩ = [Value.string l[i].1, .slice ag an ac, .int .i64 kd', .int .i64 n', .string x', .string y', .slice b0 n0 e0, .slice b1 n1 e1, .slice b2 n2 e2][j]? := fun j hj => by
          rw [ho.cell (a := ⟨g, o + i * 9 + j, none⟩) hg']; exact hcell j hj
        have q0 : wr.cell? ⟨g, o + i * 9, none⟩ = some (.string l[i].1) := hcw 0 (by omega)
        have q1 := hcw 1 (by omega)
        have q2 := hcw 2 (by omega)
        have q3 := hcw 3 (by omega)
        have q4 := hcw 4 (by omega)
        have q5 := hcw 5 (by omega)
        have q6 := hcw 6 (by omega)
        have q7 := hcw 7 (by omega)
        have q8 := hcw 8 (by omega)
        have hgl : g < wr.heap.size := by omega
        have hww := HW.out i hlt
        have htk : l.take (i + 1) = l.take i ++ [l[i]] := List.take_succ_eq_append_getElem hlt
        obtain ⟨cse, hcse⟩ : ∃ cse, cse = l[i] := ⟨_, rfl⟩
        rw [← hcse] at hww htk hnm han hrt q0 hxn
        subst han
        have CO : Hid (∀ W, Fr No wr W → Calls Try.prog 28 #[.agg #[.string cse.1, .slice ag cse.2.1.length ac, .int .i64 kd', .int .i64 n', .string x', .string y', .slice b0 n0 e0, .slice b1 n1 e1, .slice b2 n2 e2]] W fun e w' => ∃ va vc cs', e = .returned (.agg (.string cse.1 :: .slice va cse.2.1.length vc :: cs').toArray) ∧ Fr No W w' ∧ NamesS (New W w') w' (.slice va cse.2.1.length vc) cse.2.1 ∧ RTS k (New W w') w' cs' cse.2.2) := fun W hW =>
          ownFn_any k HO.out B cse.1 cse.2.1 cse.2.2 ag cse.2.1.length ac kd' n' x' y' b0 b1 b2 n0 e0 n1 e1 n2 e2 W (hnm.kept (ho.trans (hW.old (by omega) (fun _ _ e => e))) (Nat.le_refl _) (Nat.le_trans hszw hW.size)) rfl (hrt.old (ho.trans (hW.old (by omega) (fun _ _ e => e))) (Nat.le_trans hszw hW.size)) (by have := hW.size; omega) (by omega) (by omega)
        have HTK := hide htk
        have HF := hide hf
        have HG := hide hg
        have HCUR := hide hcur
        have HEA := hide hea
        have HXN := hide hxn
        clear hxn
        clear hcw hcell hrt hf hg hcur hea htk hcse ho hnm
        have i1 : (i : Int) < (l.length : Int) := by omega
        have i00 : (0 : Int) ≤ (i : Int) := by omega
        have hsize : i * 9 + 9 ≤ cur.size := by omega
        go_wp2_with fail
        refine (CO.out _ ((Fr.refl No wr).alloc _)).mono ?_
        rintro e w1 ⟨va, vc, cs', rfl, hf1, hnm1, hrt1⟩
        obtain ⟨kd2, m2, x2, y2, p0, r0, s0, p1, r1, s1, p2, r2, s2, rfl⟩ := hrt1.form
        have F1 : Fr No wr w1 := ((Fr.refl No wr).alloc _).trans hf1
        have g1 := fr_heap HG.out F1 (fun e => e)
        obtain ⟨u0, hu0⟩ := some_at g1 (o := i * 9) (by omega)
        obtain ⟨u1, hu1⟩ := some_at g1 (o := i * 9 + 1) (by omega)
        obtain ⟨u2, hu2⟩ := some_at g1 (o := i * 9 + 2) (by omega)
        obtain ⟨u3, hu3⟩ := some_at g1 (o := i * 9 + 3) (by omega)
        obtain ⟨u4, hu4⟩ := some_at g1 (o := i * 9 + 4) (by omega)
        obtain ⟨u5, hu5⟩ := some_at g1 (o := i * 9 + 5) (by omega)
        obtain ⟨u6, hu6⟩ := some_at g1 (o := i * 9 + 6) (by omega)
        obtain ⟨u7, hu7⟩ := some_at g1 (o := i * 9 + 7) (by omega)
        obtain ⟨u8, hu8⟩ := some_at g1 (o := i * 9 + 8) (by omega)
        have z1 := frozen_of_heap g1
        have G1 := hide g1
        have HF1 := hide F1
        have hw1s : wr.heap.size < w1.heap.size := by have := hf1.size; simp at this; omega
        have HRT1 := hide hrt1
        have HNM1 := hide hnm1
        clear g1 F1 hf1 hrt1 CO hnm1
        go_wp2_with fail
        go_roundw
        case rel =>
          obtain ⟨cur', c1, c2, c3, c4, c5⟩ := sets_heap w.heap.size 44 (0, 0) [.string cse.1, .slice va cse.2.1.length vc, .int .i64 kd2, .int .i64 m2, .string x2, .string y2, .slice p0 r0 s0, .slice p1 r1 s1, .slice p2 r2 s2] (i * 9) w1 cur G1.out (by simp; omega)
          refine ⟨i + 1, by omega, by go_num, ?_, cur', xs ++ [.string cse.1, .slice va cse.2.1.length vc, .int .i64 kd2, .int .i64 m2, .string x2, .string y2, .slice p0 r0 s0, .slice p1 r1 s1, .slice p2 r2 s2], c1, by omega, by simp [hxl]; omega, fun j hj => ?_, ?_⟩
          · exact (HF.out.trans HF1.out).trans' c5 (fun j hj e => by have e : j = w.heap.size := e; omega)
          · by_cases hji : j < i * 9
            · rw [c3 j hji, HCUR.out j hji, List.getElem?_append_left (by omega)]
            · have := c4 (j - i * 9) (by simp; omega)
              rw [show i * 9 + (j - i * 9) = j by omega] at this
              rw [this, List.getElem?_append_right (by omega), hxl]
          · rw [HTK.out]
            have f01 : Fr (· = w.heap.size) wr (setsAt w1 w.heap.size (i * 9) [.string cse.1, .slice va cse.2.1.length vc, .int .i64 kd2, .int .i64 m2, .string x2, .string y2, .slice p0 r0 s0, .slice p1 r1 s1, .slice p2 r2 s2]) := (HF1.out.mono (fun _ _ e => e.elim)).trans c5
            have stN : Stays (New (wr.alloc (.cells #[.string cse.1, .slice ag cse.2.1.length ac, .int .i64 kd', .int .i64 n', .string x', .string y', .slice b0 n0 e0, .slice b1 n1 e1, .slice b2 n2 e2] 44)) w1) (fun x => w.heap.size < x ∧ x < (setsAt w1 w.heap.size (i * 9) [.string cse.1, .slice va cse.2.1.length vc, .int .i64 kd2, .int .i64 m2, .string x2, .string y2, .slice p0 r0 s0, .slice p1 r1 s1, .slice p2 r2 s2]).heap.size) w1 (setsAt w1 w.heap.size (i * 9) [.string cse.1, .slice va cse.2.1.length vc, .int .i64 kd2, .int .i64 m2, .string x2, .string y2, .slice p0 r0 s0, .slice p1 r1 s1, .slice p2 r2 s2]) :=
              stays_fr c5 (fun g hg _ e => by have e : g = w.heap.size := e; have := hg.1; simp at this; omega) (fun g hg => ⟨by have := hg.1; simp at this; omega, Nat.lt_of_lt_of_le hg.2 c5.size⟩)
            refine Each.snoc (n := 9) rfl ?_ ?_
            rotate_left
            · exact HEA.out.mono fun _ _ h => RFS.kept (stays_fr f01 (fun g hg _ e => by have e : g = w.heap.size := e; omega) (fun g hg => ⟨hg.1, Nat.lt_of_lt_of_le hg.2 f01.size⟩)) h
            exact ⟨_, _, rfl, HXN.out, HNM1.out.kept stN, rfl, HRT1.out.kept stN⟩
        case measure => simp [intOf]; omega
      · have hil : i = l.length := by omega
        subst hil
        have HF := hide hf
        have HG := hide hg
        have HCUR := hide hcur
        rw [List.take_length] at hea
        have HEA := hide hea
        clear hf hg hcur hea
        go_wp2_with fail
        go_ret
        refine ⟨_, _, rfl, HF.out, xs, ⟨_, _, rfl, Nat.le_refl _, by unfold maxLen; omega, fun _ => ⟨_, _, rfl, ⟨Nat.le_refl _, lt_of_heap HG.out⟩, lt_of_heap HG.out, fun j hj => ?_⟩⟩, ?_⟩
        · rw [cell_of_heap HG.out, Nat.zero_add]
          exact HCUR.out j (by omega)
        · exact HEA.out.mono fun _ _ h => RFS.kept ⟨Nat.le_refl _, fun g hg _ => ⟨⟨by omega, hg.2⟩, rfl⟩⟩ h
end Go.Proofs.Ytmjpfiecgkoaeaa
