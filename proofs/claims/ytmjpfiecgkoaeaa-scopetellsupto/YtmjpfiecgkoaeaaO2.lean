/- Copies of terms' lists. -/
import Derived.Test.YtmjpfiecgkoaeaaO1
namespace Go.Proofs.Ytmjpfiecgkoaeaa
open Go.RowKit Go.Maps Go.WideMaps

/-- What 'Own' does at terms of k levels. -/
def OwnC (k : Nat) : Prop := ∀ (B : Nat) (w : World) (cs : List Value) (t : Pu.TT k), RT k B w cs t → B ≤ w.heap.size → Pu.wt k t ≤ 1073741824 →
  Calls Try.prog 7 #[.agg cs.toArray] w fun e w' => ∃ cs', e = .returned (.agg cs'.toArray) ∧ Fr No w w' ∧ RTS k (New w w') w' cs' t

theorem Try.info27 : (Try.prog.info? 27).map (fun i => (i.zero, i.size, i.bytes)) = some (some (.agg #[.int .i64 0, .int .i64 0, .string ⟨#[]⟩, .string ⟨#[]⟩, .slice none 0 0, .slice none 0 0, .slice none 0 0]), 7, 120) := by kernel_rfl

theorem some_at {cur : Array Value} {w : World} {g o : Nat} {t : TypeId} (h : w.heap[g]? = some (.cells cur t (0, 0))) (ho : o < cur.size) : ∃ u, w.cell? ⟨g, o, none⟩ = some u :=
  ⟨_, by rw [cell_of_heap h o]; exact Array.getElem?_eq_getElem ho⟩

set_option maxHeartbeats 2000000 in
theorem copyTerms_any (k : Nat) (hO : OwnC k) (B : Nat) (v : Value) (acs : List Value) (l : List (Pu.TT k)) (w : World) (hr : Row B w v l.length acs) (he : Each 7 (RT k B w) acs l) (hB : B ≤ w.heap.size) (hn : l.length ≤ 1073741824) (hw : ∀ i (h : i < l.length), Pu.wt k l[i] ≤ 1073741824) :
    Calls Try.prog 24 #[v, .func (.func 7) #[] #[]] w fun e w' => ∃ a c, e = .returned (.slice a l.length c) ∧ Fr No w w' ∧ ∃ acs', RowS (New w w') w' (.slice a l.length c) l.length acs' ∧ Each 7 (RTS k (New w w') w') acs' l := by
  obtain ⟨a0, cp0, rfl, hcp1, hcp2⟩ := hr.form
  unfold maxLen at hcp2
  have HR := hide hr
  have HE := hide he
  have HW := hide hw
  have HO := hide hO
  clear hr he hw hO
  by_cases h0 : l.length = 0
  · have e0 : l = [] := List.length_eq_zero_iff.1 h0
    subst e0
    go_enter Try.func24, Try.ntmps24
    go_wp2_with fail
    go_ret
    exact ⟨_, _, rfl, Fr.refl _ _, [], ⟨none, 0, rfl, Nat.le_refl _, Nat.zero_le _, fun h => absurd h (by simp)⟩, rfl⟩
  · have h0' : ¬ (l.length : Int) = 0 := by omega
    obtain ⟨i0, hi, hz0, hz1, hz2⟩ := info_parts Try.info27
    have hmk : ∀ u : World, (Instr.makeSlice 24 (.int .i64 (l.length : Int)) (.int .i64 (l.length : Int))).run Try.prog u =
        .ok (.slice (some ⟨u.heap.size, 0, none⟩) l.length l.length) (u.alloc (.cells (madeCells #[.int .i64 0, .int .i64 0, .string ⟨#[]⟩, .string ⟨#[]⟩, .slice none 0 0, .slice none 0 0, .slice none 0 0] (l.length * 7)) 27)) := fun u => by
      have h := run_make (P := Try.prog) u 24 27 i0 _ Try.underlying24 hi hz0 .i64 .i64 (l.length : Int) (l.length : Int) (by omega) (Int.le_refl _) (by rw [hz2]; omega) (by omega)
      rw [Int.toNat_natCast] at h
      simpa [hz1, Value.cells] using h
    go_enter Try.func24, Try.ntmps24
    go_wp2_with fail
    clear hmk h0'
    generalize ((l.length : Int) == 0) = bq
    go_loopw [16] (fun q wr => ∃ i : Nat, i ≤ l.length ∧ q = .int .i64 i ∧ Fr No w wr ∧ ∃ cur xs, wr.heap[w.heap.size]? = some (.cells cur 27 (0, 0)) ∧ cur.size = l.length * 7 ∧ xs.length = i * 7 ∧ (∀ j, j < i * 7 → cur[j]? = xs[j]?) ∧
      Each 7 (RTS k (fun x => w.heap.size < x ∧ x < wr.heap.size) wr) xs (l.take i)) (fun q _ => l.length - (intOf q).toNat)
    case atStart => exact ⟨0, Nat.zero_le _, rfl, (Fr.refl No w).alloc _, _, [], heap_alloc_new _ _, size_madeCells _ _, rfl, fun j hj => absurd hj (by omega), rfl⟩
    case round =>
      obtain ⟨i, hi', rfl, hf, cur, xs, hg, hsz, hxl, hcur, hea⟩ := hrel
      have hbs : w.heap.size < wr.heap.size := lt_of_heap hg
      have hszw := hf.size
      by_cases hlt : i < l.length
      · have ho : Old B w wr := hf.old hB (fun _ _ e => e)
        obtain ⟨g, o, cap1, kd', n', x', y', b0, n0, e0, b1, n1, e1, b2, n2, e2, hav, hcap, hg', hgw, hrt, hcell⟩ := args_at HR.out HE.out i hlt
        injection hav with hav1 _ hav2
        subst hav1 hav2
        have hcw : ∀ j, j < 7 → wr.cell? ⟨g, o + i * 7 + j, none⟩ = [Value.int .i64 kd', .int .i64 n', .string x', .string y', .slice b0 n0 e0, .slice b1 n1 e1, .slice b2 n2 e2][j]? := fun j hj => by
          rw [ho.cell (a := ⟨g, o + i * 7 + j, none⟩) hg']; exact hcell j hj
        have q0 : wr.cell? ⟨g, o + i * 7, none⟩ = some (.int .i64 kd') := hcw 0 (by omega)
        have q1 := hcw 1 (by omega)
        have q2 := hcw 2 (by omega)
        have q3 := hcw 3 (by omega)
        have q4 := hcw 4 (by omega)
        have q5 := hcw 5 (by omega)
        have q6 := hcw 6 (by omega)
        have hgl : g < wr.heap.size := by omega
        have CO : Hid (∀ W, Fr No wr W → Calls Try.prog 7 #[.agg #[.int .i64 kd', .int .i64 n', .string x', .string y', .slice b0 n0 e0, .slice b1 n1 e1, .slice b2 n2 e2]] W fun e w' => ∃ cs', e = .returned (.agg cs'.toArray) ∧ Fr No W w' ∧ RTS k (New W w') w' cs' l[i]) := fun W hW =>
          HO.out B W _ l[i] (hrt.old (ho.trans (hW.old (by omega) (fun _ _ e => e))) (Nat.le_trans hszw hW.size)) (by have := hW.size; omega) (HW.out i hlt)
        have htk : l.take (i + 1) = l.take i ++ [l[i]] := List.take_succ_eq_append_getElem hlt
        obtain ⟨ti, hti⟩ : ∃ ti, ti = l[i] := ⟨_, rfl⟩
        rw [← hti] at CO htk
        have HTK := hide htk
        have HF := hide hf
        have HG := hide hg
        have HCUR := hide hcur
        have HEA := hide hea
        clear hcw hcell hrt hf hg hcur hea htk hti ho
        have i1 : (i : Int) < (l.length : Int) := by omega
        have i00 : (0 : Int) ≤ (i : Int) := by omega
        have hsize : i * 7 + 7 ≤ cur.size := by omega
        go_wp2_with fail
        refine (CO.out _ ((Fr.refl No wr).alloc _)).mono ?_
        rintro e w1 ⟨cs', rfl, hf1, hrt1⟩
        obtain ⟨kd2, m2, x2, y2, p0, r0, s0, p1, r1, s1, p2, r2, s2, rfl⟩ := hrt1.form
        have F1 : Fr No wr w1 := ((Fr.refl No wr).alloc _).trans hf1
        have g1 := fr_heap HG.out F1 (fun e => e)
        obtain ⟨u0, hu0⟩ := some_at g1 (o := i * 7) (by omega)
        obtain ⟨u1, hu1⟩ := some_at g1 (o := i * 7 + 1) (by omega)
        obtain ⟨u2, hu2⟩ := some_at g1 (o := i * 7 + 2) (by omega)
        obtain ⟨u3, hu3⟩ := some_at g1 (o := i * 7 + 3) (by omega)
        obtain ⟨u4, hu4⟩ := some_at g1 (o := i * 7 + 4) (by omega)
        obtain ⟨u5, hu5⟩ := some_at g1 (o := i * 7 + 5) (by omega)
        obtain ⟨u6, hu6⟩ := some_at g1 (o := i * 7 + 6) (by omega)
        have z1 := frozen_of_heap g1
        have G1 := hide g1
        have HF1 := hide F1
        have hw1s : wr.heap.size < w1.heap.size := by have := hf1.size; simp at this; omega
        have HRT1 := hide hrt1
        clear g1 F1 hf1 hrt1 CO
        go_wp2_with fail
        go_roundw
        case rel =>
          obtain ⟨cur', c1, c2, c3, c4, c5⟩ := sets_heap w.heap.size 27 (0, 0) [.int .i64 kd2, .int .i64 m2, .string x2, .string y2, .slice p0 r0 s0, .slice p1 r1 s1, .slice p2 r2 s2] (i * 7) w1 cur G1.out (by simp; omega)
          refine ⟨i + 1, by omega, by go_num, ?_, cur', xs ++ [.int .i64 kd2, .int .i64 m2, .string x2, .string y2, .slice p0 r0 s0, .slice p1 r1 s1, .slice p2 r2 s2], c1, by omega, by simp [hxl]; omega, fun j hj => ?_, ?_⟩
          · exact (HF.out.trans HF1.out).trans' c5 (fun j hj e => by have e : j = w.heap.size := e; omega)
          · by_cases hji : j < i * 7
            · rw [c3 j hji, HCUR.out j hji, List.getElem?_append_left (by omega)]
            · have := c4 (j - i * 7) (by simp; omega)
              rw [show i * 7 + (j - i * 7) = j by omega] at this
              rw [this, List.getElem?_append_right (by omega), hxl]
          · rw [HTK.out]
            have f01 : Fr (· = w.heap.size) wr (setsAt w1 w.heap.size (i * 7) [.int .i64 kd2, .int .i64 m2, .string x2, .string y2, .slice p0 r0 s0, .slice p1 r1 s1, .slice p2 r2 s2]) := (HF1.out.mono (fun _ _ e => e.elim)).trans c5
            refine Each.snoc (n := 7) rfl ?_ ?_
            rotate_left
            · exact HEA.out.mono fun _ _ h => h.kept (stays_fr f01 (fun g hg _ e => by have e : g = w.heap.size := e; omega) (fun g hg => ⟨hg.1, Nat.lt_of_lt_of_le hg.2 f01.size⟩))
            exact HRT1.out.kept (stays_fr c5 (fun g hg _ e => by have e : g = w.heap.size := e; have := hg.1; simp at this; omega) (fun g hg => ⟨by have := hg.1; simp at this; omega, Nat.lt_of_lt_of_le hg.2 c5.size⟩))
        case measure => simp [intOf]; omega
      · have hil : i = l.length := by omega
        subst hil
        have HF := hide hf
        have HG := hide hg
        have HCUR := hide hcur
        rw [List.take_length] at hea
        have HEA := hide hea
        clear hf hg hcur hea
        go_wp2_with fail
        go_ret
        refine ⟨_, _, rfl, HF.out, xs, ⟨_, _, rfl, Nat.le_refl _, by unfold maxLen; omega, fun _ => ⟨_, _, rfl, ⟨Nat.le_refl _, lt_of_heap HG.out⟩, lt_of_heap HG.out, fun j hj => ?_⟩⟩, ?_⟩
        · rw [cell_of_heap HG.out, Nat.zero_add]
          exact HCUR.out j (by omega)
        · exact HEA.out.mono fun _ _ h => h.kept ⟨Nat.le_refl _, fun g hg _ => ⟨⟨by omega, hg.2⟩, rfl⟩⟩
end Go.Proofs.Ytmjpfiecgkoaeaa
