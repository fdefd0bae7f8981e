/- 'Own', walked for elements of any sort: what it answers lies apart, if it does so for the elements. -/
import Derived.Test.YtomahbdidlglfacGreatDoorOc2DkDpOc3Oc4Er1
namespace Go.Proofs.YtomahbdidlglfacGreatDoor
set_option maxRecDepth 100000
open Go.RowKit Go.Maps Go.WideMaps
/-- Elements of a term that 'Own' copies: how they lie, how the copies lie. -/
structure Elm {α : Type} (P : Nat → World → List Value → α → Prop) (D : World → (Nat → Prop) → List Value → α → Prop) : Prop where
  form : ∀ {B : Nat} {w : World} {cs : List Value} {a : α}, P B w cs a → ∃ kd n x y a0 n0 c0 a1 n1 c1 a2 n2 c2, cs = [.int .i64 kd, .int .i64 n, .string x, .string y, .slice a0 n0 c0, .slice a1 n1 c1, .slice a2 n2 c2]
  old : ∀ {B : Nat} {w w' : World} {cs : List Value} {a : α}, P B w cs a → Old B w w' → w.heap.size ≤ w'.heap.size → P B w' cs a
  dform : ∀ {w : World} {V : Nat → Prop} {cs : List Value} {a : α}, D w V cs a → ∃ kd n x y a0 n0 c0 a1 n1 c1 a2 n2 c2, cs = [.int .i64 kd, .int .i64 n, .string x, .string y, .slice a0 n0 c0, .slice a1 n1 c1, .slice a2 n2 c2]
  dkept : ∀ {w w' : World} {V : Nat → Prop} {cs : List Value} {a : α}, D w V cs a → Stays V V w w' → D w' V cs a
  own : ∀ (B : Nat) (w : World) (cs : List Value) (a : α), P B w cs a → B ≤ w.heap.size → Calls Tryz.prog 40 #[.agg cs.toArray] w fun e w' => ∃ cs', e = .returned (.agg cs'.toArray) ∧ Fr No w w' ∧ D w' (New w w') cs' a
theorem args_atG {α : Type} {P : Nat → World → List Value → α → Prop} {B : Nat} {w : World} (hfm : ∀ {cs : List Value} {a : α}, P B w cs a → ∃ kd n x y a0 n0 c0 a1 n1 c1 a2 n2 c2, cs = [.int .i64 kd, .int .i64 n, .string x, .string y, .slice a0 n0 c0, .slice a1 n1 c1, .slice a2 n2 c2]) {av : Value} {acs : List Value} {args : List α} (hr : Row B w av args.length acs) (he : Each 7 (P B w) acs args) (i : Nat) (hi : i < args.length) :
    ∃ g o cap kd n x y a0 n0 c0 a1 n1 c1 a2 n2 c2, av = .slice (some ⟨g, o, none⟩) args.length cap ∧ cap ≤ maxLen ∧ g < B ∧ g < w.heap.size ∧
      P B w [.int .i64 kd, .int .i64 n, .string x, .string y, .slice a0 n0 c0, .slice a1 n1 c1, .slice a2 n2 c2] args[i] ∧
      ∀ j, j < 7 → w.cell? ⟨g, o + i * 7 + j, none⟩ = [Value.int .i64 kd, .int .i64 n, .string x, .string y, .slice a0 n0 c0, .slice a1 n1 c1, .slice a2 n2 c2][j]? := by
  obtain ⟨g, o, cap, h1, h2, h3, h4, h5, h6⟩ := hr.at (by omega)
  obtain ⟨ck, hl, hrt, hxs⟩ := he.get i _ (List.getElem?_eq_getElem hi)
  obtain ⟨kd, n, x, y, a0, n0, c0, a1, n1, c1, a2, n2, c2, rfl⟩ := hfm hrt
  refine ⟨g, o, cap, kd, n, x, y, a0, n0, c0, a1, n1, c1, a2, n2, c2, h1, h3, h4, h5, hrt, fun j hj => ?_⟩
  have hlen := he.length
  rw [Nat.add_assoc, h6 _ (by rw [hlen]; have := Nat.mul_le_mul_right 7 (show i + 1 ≤ args.length by omega); omega), hxs j hj]
theorem cases_atG {α : Type} {P : Nat → World → List Value → α → Prop} {B : Nat} {w : World} (hfm : ∀ {cs : List Value} {a : α}, P B w cs a → ∃ kd n x y a0 n0 c0 a1 n1 c1 a2 n2 c2, cs = [.int .i64 kd, .int .i64 n, .string x, .string y, .slice a0 n0 c0, .slice a1 n1 c1, .slice a2 n2 c2]) {av : Value} {acs : List Value} {l : List (Int × List ByteArray × α)} (hr : Row B w av l.length acs) (he : Each 9 (RC (P B w) B w) acs l) (i : Nat) (hi : i < l.length) :
    ∃ g o cap ag av0 ac kd n x y a0 n0 c0 a1 n1 c1 a2 n2 c2, av = .slice (some ⟨g, o, none⟩) l.length cap ∧ cap ≤ maxLen ∧ g < B ∧ g < w.heap.size ∧ Names B w (.slice ag av0 ac) l[i].2.1 ∧ av0 = l[i].2.1.length ∧
      P B w [.int .i64 kd, .int .i64 n, .string x, .string y, .slice a0 n0 c0, .slice a1 n1 c1, .slice a2 n2 c2] l[i].2.2 ∧
      ∀ j, j < 9 → w.cell? ⟨g, o + i * 9 + j, none⟩ = [Value.int .i64 l[i].1, .slice ag av0 ac, Value.int .i64 kd, .int .i64 n, .string x, .string y, .slice a0 n0 c0, .slice a1 n1 c1, .slice a2 n2 c2][j]? := by
  obtain ⟨g, o, cap, h1, h2, h3, h4, h5, h6⟩ := hr.at (by omega)
  obtain ⟨ck, hl, ⟨vv, b, rfl, hnm, _, hrt⟩, hxs⟩ := he.get i _ (List.getElem?_eq_getElem hi)
  obtain ⟨kd, n, x, y, a0, n0, c0, a1, n1, c1, a2, n2, c2, rfl⟩ := hfm hrt
  obtain ⟨ag, ac, rfl, _⟩ := hnm.1.form
  refine ⟨g, o, cap, ag, _, ac, kd, n, x, y, a0, n0, c0, a1, n1, c1, a2, n2, c2, h1, h3, h4, h5, hnm, rfl, hrt, fun j hj => ?_⟩
  have hlen := he.length
  rw [Nat.add_assoc, h6 _ (by rw [hlen]; have := Nat.mul_le_mul_right 9 (show i + 1 ≤ l.length by omega); omega), hxs j hj]
set_option maxHeartbeats 2000000 in
theorem copyTermsG_any {α : Type} {P : Nat → World → List Value → α → Prop} {D : World → (Nat → Prop) → List Value → α → Prop} (hO : Elm P D) (B : Nat) (v : Value) (acs : List Value) (l : List (α)) (w : World) (hr : Row B w v l.length acs) (he : Each 7 (P B w) acs l) (hB : B ≤ w.heap.size) (hn : l.length ≤ 1073741824) :
    Calls Tryz.prog 77 #[v, .func (.func 40) #[] #[]] w fun e w' => ∃ a c, e = .returned (.slice a l.length c) ∧ Fr No w w' ∧ ∃ acs' V1 V2, Part (New w w') [V1, V2] ∧ RowS V1 w' (.slice a l.length c) l.length acs' ∧ EachD 7 (D w') V2 acs' l := by
  obtain ⟨a0, cp0, rfl, hcp1, hcp2⟩ := hr.form
  unfold maxLen at hcp2
  have HR := hide hr
  have HE := hide he
  have HO := hide hO
  clear hr he hO
  by_cases h0 : l.length = 0
  · have e0 : l = [] := List.length_eq_zero_iff.1 h0
    subst e0
    go_enter Tryz.func77, Tryz.ntmps77
    go_wp2_with fail
    go_ret
    exact ⟨_, _, rfl, Fr.refl _ _, [], fun _ => False, fun _ => False, part_none _, ⟨none, 0, rfl, Nat.le_refl _, Nat.zero_le _, fun h => absurd h (by simp)⟩, rfl⟩
  · have h0' : ¬ (l.length : Int) = 0 := by omega
    obtain ⟨i0, hi, hz0, hz1, hz2⟩ := info_parts Tryz.info32
    have hmk : ∀ u : World, (Instr.makeSlice 29 (.int .i64 (l.length : Int)) (.int .i64 (l.length : Int))).run Tryz.prog u =
        .ok (.slice (some ⟨u.heap.size, 0, none⟩) l.length l.length) (u.alloc (.cells (madeCells #[.int .i64 0, .int .i64 0, .string ⟨#[]⟩, .string ⟨#[]⟩, .slice none 0 0, .slice none 0 0, .slice none 0 0] (l.length * 7)) 32)) := fun u => by
      have h := run_make (P := Tryz.prog) u 29 32 i0 _ Tryz.underlying29 hi hz0 .i64 .i64 (l.length : Int) (l.length : Int) (by omega) (Int.le_refl _) (by rw [hz2]; omega) (by omega)
      rw [Int.toNat_natCast] at h
      simpa [hz1, Value.cells] using h
    go_enter Tryz.func77, Tryz.ntmps77
    go_wp2_with fail
    clear hmk h0'
    generalize ((l.length : Int) == 0) = bq
    go_loopw [16] (fun q wr => ∃ i : Nat, i ≤ l.length ∧ q = .int .i64 i ∧ Fr No w wr ∧ ∃ cur xs, wr.heap[w.heap.size]? = some (.cells cur 32 (0, 0)) ∧ cur.size = l.length * 7 ∧ xs.length = i * 7 ∧ (∀ j, j < i * 7 → cur[j]? = xs[j]?) ∧
      EachD 7 (D wr) (fun x => w.heap.size < x ∧ x < wr.heap.size) xs (l.take i)) (fun q _ => l.length - (intOf q).toNat)
    case atStart => exact ⟨0, Nat.zero_le _, rfl, (Fr.refl No w).alloc _, _, [], heap_alloc_new _ _, size_madeCells _ _, rfl, fun j hj => absurd hj (by omega), rfl⟩
    case round =>
      obtain ⟨i, hi', rfl, hf, cur, xs, hg, hsz, hxl, hcur, hea⟩ := hrel
      have hbs : w.heap.size < wr.heap.size := lt_of_heap hg
      have hszw := hf.size
      by_cases hlt : i < l.length
      · have ho : Old B w wr := hf.old hB (fun _ _ e => e)
        obtain ⟨g, o, cap1, kd', n', x', y', b0, n0, e0, b1, n1, e1, b2, n2, e2, hav, hcap, hg', hgw, hrt, hcell⟩ := args_atG HO.out.form HR.out HE.out i hlt
        injection hav with hav1 _ hav2
        subst hav1 hav2
        have hcw : ∀ j, j < 7 → wr.cell? ⟨g, o + i * 7 + j, none⟩ = [Value.int .i64 kd', .int .i64 n', .string x', .string y', .slice b0 n0 e0, .slice b1 n1 e1, .slice b2 n2 e2][j]? := fun j hj => by
          rw [ho.cell (a := ⟨g, o + i * 7 + j, none⟩) hg']; exact hcell j hj
        have q0 : wr.cell? ⟨g, o + i * 7, none⟩ = some (.int .i64 kd') := hcw 0 (by omega)
        have q1 := hcw 1 (by omega)
        have q2 := hcw 2 (by omega)
        have q3 := hcw 3 (by omega)
        have q4 := hcw 4 (by omega)
        have q5 := hcw 5 (by omega)
        have q6 := hcw 6 (by omega)
        have hgl : g < wr.heap.size := by omega
        have CO : Hid (∀ W, Fr No wr W → Calls Tryz.prog 40 #[.agg #[.int .i64 kd', .int .i64 n', .string x', .string y', .slice b0 n0 e0, .slice b1 n1 e1, .slice b2 n2 e2]] W fun e w' => ∃ cs', e = .returned (.agg cs'.toArray) ∧ Fr No W w' ∧ D w' (New W w') cs' l[i]) := fun W hW =>
          HO.out.own B W _ l[i] (HO.out.old hrt (ho.trans (hW.old (by omega) (fun _ _ e => e))) (Nat.le_trans hszw hW.size)) (by have := hW.size; omega)
        have htk : l.take (i + 1) = l.take i ++ [l[i]] := List.take_succ_eq_append_getElem hlt
        obtain ⟨ti, hti⟩ : ∃ ti, ti = l[i] := ⟨_, rfl⟩
        rw [← hti] at CO htk
        have HTK := hide htk
        have HF := hide hf
        have HG := hide hg
        have HCUR := hide hcur
        have HEA := hide hea
        clear hcw hcell hrt hf hg hcur hea htk hti ho
        have i1 : (i : Int) < (l.length : Int) := by omega
        have i00 : (0 : Int) ≤ (i : Int) := by omega
        have hsize : i * 7 + 7 ≤ cur.size := by omega
        go_wp2_with fail
        refine (CO.out _ ((Fr.refl No wr).alloc _)).mono ?_
        rintro e w1 ⟨cs', rfl, hf1, hrt1⟩
        obtain ⟨kd2, m2, x2, y2, p0, r0, s0, p1, r1, s1, p2, r2, s2, rfl⟩ := HO.out.dform hrt1
        have F1 : Fr No wr w1 := ((Fr.refl No wr).alloc _).trans hf1
        have g1 := fr_heap HG.out F1 (fun e => e)
        obtain ⟨u0, hu0⟩ := some_at g1 (o := i * 7) (by omega)
        obtain ⟨u1, hu1⟩ := some_at g1 (o := i * 7 + 1) (by omega)
        obtain ⟨u2, hu2⟩ := some_at g1 (o := i * 7 + 2) (by omega)
        obtain ⟨u3, hu3⟩ := some_at g1 (o := i * 7 + 3) (by omega)
        obtain ⟨u4, hu4⟩ := some_at g1 (o := i * 7 + 4) (by omega)
        obtain ⟨u5, hu5⟩ := some_at g1 (o := i * 7 + 5) (by omega)
        obtain ⟨u6, hu6⟩ := some_at g1 (o := i * 7 + 6) (by omega)
        have z1 := frozen_of_heap g1
        have G1 := hide g1
        have HF1 := hide F1
        have hw1s : wr.heap.size < w1.heap.size := by have := hf1.size; simp at this; omega
        have HRT1 := hide hrt1
        clear g1 F1 hf1 hrt1 CO
        go_wp2_with fail
        go_roundw
        case rel =>
          obtain ⟨cur', c1, c2, c3, c4, c5⟩ := sets_heap w.heap.size 32 (0, 0) [.int .i64 kd2, .int .i64 m2, .string x2, .string y2, .slice p0 r0 s0, .slice p1 r1 s1, .slice p2 r2 s2] (i * 7) w1 cur G1.out (by simp; omega)
          refine ⟨i + 1, by omega, by go_num, ?_, cur', xs ++ [.int .i64 kd2, .int .i64 m2, .string x2, .string y2, .slice p0 r0 s0, .slice p1 r1 s1, .slice p2 r2 s2], c1, by omega, by simp [hxl]; omega, fun j hj => ?_, ?_⟩
          · exact (HF.out.trans HF1.out).trans' c5 (fun j hj e => by have e : j = w.heap.size := e; omega)
          · by_cases hji : j < i * 7
            · rw [c3 j hji, HCUR.out j hji, List.getElem?_append_left (by omega)]
            · have := c4 (j - i * 7) (by simp; omega)
              rw [show i * 7 + (j - i * 7) = j by omega] at this
              rw [this, List.getElem?_append_right (by omega), hxl]
          · rw [HTK.out]
            have f01 : Fr (· = w.heap.size) wr (setsAt w1 w.heap.size (i * 7) [.int .i64 kd2, .int .i64 m2, .string x2, .string y2, .slice p0 r0 s0, .slice p1 r1 s1, .slice p2 r2 s2]) := (HF1.out.mono (fun _ _ e => e.elim)).trans c5
            have hfs := f01.size
            have c5s := c5.size
            have hs1 : wr.heap.size < w1.heap.size := hw1s
            refine EachD.sub ?_ (EachD.snoc (n := 7) (U := New (wr.alloc (.cells #[.int .i64 kd', .int .i64 n', .string x', .string y', .slice b0 n0 e0, .slice b1 n1 e1, .slice b2 n2 e2] 32)) w1) rfl ?_ ?_ (EachD.mono (fun U _ _ hU h => HO.out.dkept h (stays_fr f01 (fun g hg _ e => by have e : g = w.heap.size := e; have := hU g hg; omega) (fun _ h => h))) HEA.out))
            · intro g hg
              rcases hg with h | h
              · exact ⟨h.1, Nat.lt_of_lt_of_le h.2 hfs⟩
              · exact ⟨by have := h.1; simp at this; omega, Nat.lt_of_lt_of_le h.2 c5s⟩
            · exact HO.out.dkept HRT1.out (stays_fr c5 (fun g hg _ e => by have e : g = w.heap.size := e; have := hg.1; simp at this; omega) (fun _ h => h))
            · exact fun g h h' => by have := h.2; have := h'.1; simp at this; omega
        case measure => simp [intOf]; omega
      · have hil : i = l.length := by omega
        subst hil
        have HF := hide hf
        have HG := hide hg
        have HCUR := hide hcur
        rw [List.take_length] at hea
        have HEA := hide hea
        clear hf hg hcur hea
        go_wp2_with fail
        go_ret
        refine ⟨_, _, rfl, HF.out, xs, fun g => g = w.heap.size, fun x => w.heap.size < x ∧ x < wr.heap.size, part_two (fun g e => ⟨Nat.le_of_eq e.symm, by rw [e]; exact lt_of_heap HG.out⟩) (fun g h => ⟨Nat.le_of_lt h.1, h.2⟩) (fun g e h => by have := h.1; omega), ⟨_, _, rfl, Nat.le_refl _, by unfold maxLen; omega, fun _ => ⟨_, _, rfl, rfl, lt_of_heap HG.out, fun j _ => frozen_of_heap HG.out _, fun j hj => ?_⟩⟩, HEA.out⟩
        rw [cell_of_heap HG.out, Nat.zero_add]
        exact HCUR.out j (by omega)
set_option maxHeartbeats 4000000 in
theorem ownCaseG_any {α : Type} {P : Nat → World → List Value → α → Prop} {D : World → (Nat → Prop) → List Value → α → Prop} (hO : Elm P D) (B : Nat) (tg : Int) (l : List ByteArray) (t : α) (ag : Option Addr) (an ac : Nat) (kd n : Int) (x y : ByteArray) (a0 a1 a2 : Option Addr) (n0 c0 n1 c1 n2 c2 : Nat) (w : World)  (hnm : Names B w (.slice ag an ac) l) (han : an = l.length) (hrt : P B w [.int .i64 kd, .int .i64 n, .string x, .string y, .slice a0 n0 c0, .slice a1 n1 c1, .slice a2 n2 c2] t) (hB : B ≤ w.heap.size) (hn : l.length ≤ 1073741824) :
    Calls Tryz.prog 79 #[.agg #[.int .i64 tg, .slice ag an ac, .int .i64 kd, .int .i64 n, .string x, .string y, .slice a0 n0 c0, .slice a1 n1 c1, .slice a2 n2 c2]] w fun e w' => ∃ va vc cs' U0 U1, e = .returned (.agg (.int .i64 tg :: .slice va an vc :: cs').toArray) ∧ Fr No w w' ∧ Part (New w w') [U0, U1] ∧ NamesS U0 w' (.slice va an vc) l ∧ D w' U1 cs' t := by
  obtain ⟨w0, hw0⟩ : ∃ w0, w0 = (w.alloc (.cells #[.int .i64 tg, .slice ag an ac, .int .i64 kd, .int .i64 n, .string x, .string y, .slice a0 n0 c0, .slice a1 n1 c1, .slice a2 n2 c2] 58)).alloc (.cells #[.int .i64 0, .slice none 0 0, .int .i64 0, .int .i64 0, .string ⟨#[]⟩, .string ⟨#[]⟩, .slice none 0 0, .slice none 0 0, .slice none 0 0] 58) := ⟨_, rfl⟩
  have f0 : Fr No w w0 := by rw [hw0]; exact ((Fr.refl No w).alloc _).alloc _
  have hs0 : w0.heap.size = w.heap.size + 2 := by rw [hw0]; simp
  have g0 : w0.heap[w.heap.size]? = some (.cells #[.int .i64 tg, .slice ag an ac, .int .i64 kd, .int .i64 n, .string x, .string y, .slice a0 n0 c0, .slice a1 n1 c1, .slice a2 n2 c2] 58 (0, 0)) := by
    rw [hw0]; exact fr_heap (heap_alloc_new _ _) ((Fr.refl No _).alloc _) (fun e => e)
  have g1 : w0.heap[w.heap.size + 1]? = some (.cells #[.int .i64 0, .slice none 0 0, .int .i64 0, .int .i64 0, .string ⟨#[]⟩, .string ⟨#[]⟩, .slice none 0 0, .slice none 0 0, .slice none 0 0] 58 (0, 0)) := by
    rw [hw0]
    have := heap_alloc_new (w.alloc (.cells #[.int .i64 tg, .slice ag an ac, .int .i64 kd, .int .i64 n, .string x, .string y, .slice a0 n0 c0, .slice a1 n1 c1, .slice a2 n2 c2] 58)) (.cells #[.int .i64 0, .slice none 0 0, .int .i64 0, .int .i64 0, .string ⟨#[]⟩, .string ⟨#[]⟩, .slice none 0 0, .slice none 0 0, .slice none 0 0] 58)
    rw [World.size_alloc] at this; exact this
  have SA : Hid (∀ W, Fr No w0 W → (W.cell? ⟨w.heap.size, 0, none⟩ = some (.int .i64 tg) ∧ W.cell? ⟨w.heap.size, 1, none⟩ = some (.slice ag an ac) ∧ W.cell? ⟨w.heap.size, 2, none⟩ = some (.int .i64 kd) ∧ W.cell? ⟨w.heap.size, 3, none⟩ = some (.int .i64 n) ∧ W.cell? ⟨w.heap.size, 4, none⟩ = some (.string x) ∧ W.cell? ⟨w.heap.size, 5, none⟩ = some (.string y) ∧ W.cell? ⟨w.heap.size, 6, none⟩ = some (.slice a0 n0 c0) ∧ W.cell? ⟨w.heap.size, 7, none⟩ = some (.slice a1 n1 c1) ∧ W.cell? ⟨w.heap.size, 8, none⟩ = some (.slice a2 n2 c2)) ∧ (W.cell? ⟨w.heap.size + 1, 0, none⟩ = some (.int .i64 0) ∧ W.cell? ⟨w.heap.size + 1, 1, none⟩ = some (.slice none 0 0) ∧ W.cell? ⟨w.heap.size + 1, 2, none⟩ = some (.int .i64 0) ∧ W.cell? ⟨w.heap.size + 1, 3, none⟩ = some (.int .i64 0) ∧ W.cell? ⟨w.heap.size + 1, 4, none⟩ = some (.string ⟨#[]⟩) ∧ W.cell? ⟨w.heap.size + 1, 5, none⟩ = some (.string ⟨#[]⟩) ∧ W.cell? ⟨w.heap.size + 1, 6, none⟩ = some (.slice none 0 0) ∧ W.cell? ⟨w.heap.size + 1, 7, none⟩ = some (.slice none 0 0) ∧ W.cell? ⟨w.heap.size + 1, 8, none⟩ = some (.slice none 0 0) ∧ (∀ o, W.frozen? ⟨w.heap.size + 1, o, none⟩ = false))) := by
    intro W hW
    have c0 := cell_of_heap (fr_heap g0 hW (fun e => e))
    have c1 := cell_of_heap (fr_heap g1 hW (fun e => e))
    have z1 := frozen_of_heap (fr_heap g1 hW (fun e => e))
    exact ⟨⟨c0 0, c0 1, c0 2, c0 3, c0 4, c0 5, c0 6, c0 7, c0 8⟩, c1 0, c1 1, c1 2, c1 3, c1 4, c1 5, c1 6, c1 7, c1 8, z1⟩
  have A22 : Hid (∀ W, Fr No w0 W → Calls Tryz.prog 69 #[.slice ag an ac, .func (.func 70) #[] #[]] W fun e w' => (∃ a c, e = .returned (.slice a an c) ∧ Fr No W w' ∧ Fr No w0 w' ∧ NamesS (New w0 w') w' (.slice a an c) l) ∧ (w'.cell? ⟨w.heap.size, 0, none⟩ = some (.int .i64 tg) ∧ w'.cell? ⟨w.heap.size, 1, none⟩ = some (.slice ag an ac) ∧ w'.cell? ⟨w.heap.size, 2, none⟩ = some (.int .i64 kd) ∧ w'.cell? ⟨w.heap.size, 3, none⟩ = some (.int .i64 n) ∧ w'.cell? ⟨w.heap.size, 4, none⟩ = some (.string x) ∧ w'.cell? ⟨w.heap.size, 5, none⟩ = some (.string y) ∧ w'.cell? ⟨w.heap.size, 6, none⟩ = some (.slice a0 n0 c0) ∧ w'.cell? ⟨w.heap.size, 7, none⟩ = some (.slice a1 n1 c1) ∧ w'.cell? ⟨w.heap.size, 8, none⟩ = some (.slice a2 n2 c2)) ∧ (w'.cell? ⟨w.heap.size + 1, 0, none⟩ = some (.int .i64 0) ∧ w'.cell? ⟨w.heap.size + 1, 1, none⟩ = some (.slice none 0 0) ∧ w'.cell? ⟨w.heap.size + 1, 2, none⟩ = some (.int .i64 0) ∧ w'.cell? ⟨w.heap.size + 1, 3, none⟩ = some (.int .i64 0) ∧ w'.cell? ⟨w.heap.size + 1, 4, none⟩ = some (.string ⟨#[]⟩) ∧ w'.cell? ⟨w.heap.size + 1, 5, none⟩ = some (.string ⟨#[]⟩) ∧ w'.cell? ⟨w.heap.size + 1, 6, none⟩ = some (.slice none 0 0) ∧ w'.cell? ⟨w.heap.size + 1, 7, none⟩ = some (.slice none 0 0) ∧ w'.cell? ⟨w.heap.size + 1, 8, none⟩ = some (.slice none 0 0) ∧ (∀ o, w'.frozen? ⟨w.heap.size + 1, o, none⟩ = false))) := by
    intro W hW
    have := copyNames_any B _ l W (hnm.kept ((f0.trans hW).old hB (fun _ _ e => e)) (Nat.le_refl _) (Nat.le_trans f0.size hW.size)) hn
    rw [← han] at this
    refine this.mono ?_
    rintro e w' ⟨a, c, he, h1, h2⟩
    exact ⟨⟨a, c, he, h1, hW.trans h1, h2.kept ⟨Nat.le_refl _, fun g hg _ => ⟨⟨Nat.le_trans hW.size hg.1, hg.2⟩, rfl⟩⟩⟩, SA.out w' (hW.trans h1)⟩
  have A7 : Hid (∀ W, Fr No w0 W → Calls Tryz.prog 40 #[.agg #[.int .i64 kd, .int .i64 n, .string x, .string y, .slice a0 n0 c0, .slice a1 n1 c1, .slice a2 n2 c2]] W fun e w' => (∃ kd' n' x' y' a0' n0' c0' a1' n1' c1' a2' n2' c2', e = .returned (.agg #[.int .i64 kd', .int .i64 n', .string x', .string y', .slice a0' n0' c0', .slice a1' n1' c1', .slice a2' n2' c2']) ∧ Fr No W w' ∧ Fr No w0 w' ∧
      D w' (New W w') [.int .i64 kd', .int .i64 n', .string x', .string y', .slice a0' n0' c0', .slice a1' n1' c1', .slice a2' n2' c2'] t) ∧ (w'.cell? ⟨w.heap.size, 0, none⟩ = some (.int .i64 tg) ∧ w'.cell? ⟨w.heap.size, 1, none⟩ = some (.slice ag an ac) ∧ w'.cell? ⟨w.heap.size, 2, none⟩ = some (.int .i64 kd) ∧ w'.cell? ⟨w.heap.size, 3, none⟩ = some (.int .i64 n) ∧ w'.cell? ⟨w.heap.size, 4, none⟩ = some (.string x) ∧ w'.cell? ⟨w.heap.size, 5, none⟩ = some (.string y) ∧ w'.cell? ⟨w.heap.size, 6, none⟩ = some (.slice a0 n0 c0) ∧ w'.cell? ⟨w.heap.size, 7, none⟩ = some (.slice a1 n1 c1) ∧ w'.cell? ⟨w.heap.size, 8, none⟩ = some (.slice a2 n2 c2)) ∧ (w'.cell? ⟨w.heap.size + 1, 0, none⟩ = some (.int .i64 0) ∧ w'.cell? ⟨w.heap.size + 1, 1, none⟩ = some (.slice none 0 0) ∧ w'.cell? ⟨w.heap.size + 1, 2, none⟩ = some (.int .i64 0) ∧ w'.cell? ⟨w.heap.size + 1, 3, none⟩ = some (.int .i64 0) ∧ w'.cell? ⟨w.heap.size + 1, 4, none⟩ = some (.string ⟨#[]⟩) ∧ w'.cell? ⟨w.heap.size + 1, 5, none⟩ = some (.string ⟨#[]⟩) ∧ w'.cell? ⟨w.heap.size + 1, 6, none⟩ = some (.slice none 0 0) ∧ w'.cell? ⟨w.heap.size + 1, 7, none⟩ = some (.slice none 0 0) ∧ w'.cell? ⟨w.heap.size + 1, 8, none⟩ = some (.slice none 0 0) ∧ (∀ o, w'.frozen? ⟨w.heap.size + 1, o, none⟩ = false))) := by
    intro W hW
    refine (hO.own B W _ t (hO.old hrt ((f0.trans hW).old hB (fun _ _ e => e)) (Nat.le_trans f0.size hW.size)) (Nat.le_trans hB (Nat.le_trans f0.size hW.size))).mono ?_
    rintro e w' ⟨cs', he, h1, h2⟩
    obtain ⟨kd', n', x', y', a0', n0', c0', a1', n1', c1', a2', n2', c2', rfl⟩ := hO.dform h2
    exact ⟨⟨kd', n', x', y', a0', n0', c0', a1', n1', c1', a2', n2', c2', he, h1, hW.trans h1, h2⟩, SA.out w' (hW.trans h1)⟩
  have K9 : Hid (∀ (W : World) (u0 u1 u2 u3 u4 u5 u6 u7 u8 : Value), (W.cell? ⟨w.heap.size, 0, none⟩ = some (.int .i64 tg) ∧ W.cell? ⟨w.heap.size, 1, none⟩ = some (.slice ag an ac) ∧ W.cell? ⟨w.heap.size, 2, none⟩ = some (.int .i64 kd) ∧ W.cell? ⟨w.heap.size, 3, none⟩ = some (.int .i64 n) ∧ W.cell? ⟨w.heap.size, 4, none⟩ = some (.string x) ∧ W.cell? ⟨w.heap.size, 5, none⟩ = some (.string y) ∧ W.cell? ⟨w.heap.size, 6, none⟩ = some (.slice a0 n0 c0) ∧ W.cell? ⟨w.heap.size, 7, none⟩ = some (.slice a1 n1 c1) ∧ W.cell? ⟨w.heap.size, 8, none⟩ = some (.slice a2 n2 c2)) → ((((((((((W.setCell ⟨w.heap.size + 1, 0, none⟩ u0).setCell ⟨w.heap.size + 1, 1, none⟩ u1).setCell ⟨w.heap.size + 1, 2, none⟩ u2).setCell ⟨w.heap.size + 1, 3, none⟩ u3).setCell ⟨w.heap.size + 1, 4, none⟩ u4).setCell ⟨w.heap.size + 1, 5, none⟩ u5).setCell ⟨w.heap.size + 1, 6, none⟩ u6).setCell ⟨w.heap.size + 1, 7, none⟩ u7).setCell ⟨w.heap.size + 1, 8, none⟩ u8).cell? ⟨w.heap.size, 0, none⟩ = some (.int .i64 tg) ∧ (((((((((W.setCell ⟨w.heap.size + 1, 0, none⟩ u0).setCell ⟨w.heap.size + 1, 1, none⟩ u1).setCell ⟨w.heap.size + 1, 2, none⟩ u2).setCell ⟨w.heap.size + 1, 3, none⟩ u3).setCell ⟨w.heap.size + 1, 4, none⟩ u4).setCell ⟨w.heap.size + 1, 5, none⟩ u5).setCell ⟨w.heap.size + 1, 6, none⟩ u6).setCell ⟨w.heap.size + 1, 7, none⟩ u7).setCell ⟨w.heap.size + 1, 8, none⟩ u8).cell? ⟨w.heap.size, 1, none⟩ = some (.slice ag an ac) ∧ (((((((((W.setCell ⟨w.heap.size + 1, 0, none⟩ u0).setCell ⟨w.heap.size + 1, 1, none⟩ u1).setCell ⟨w.heap.size + 1, 2, none⟩ u2).setCell ⟨w.heap.size + 1, 3, none⟩ u3).setCell ⟨w.heap.size + 1, 4, none⟩ u4).setCell ⟨w.heap.size + 1, 5, none⟩ u5).setCell ⟨w.heap.size + 1, 6, none⟩ u6).setCell ⟨w.heap.size + 1, 7, none⟩ u7).setCell ⟨w.heap.size + 1, 8, none⟩ u8).cell? ⟨w.heap.size, 2, none⟩ = some (.int .i64 kd) ∧ (((((((((W.setCell ⟨w.heap.size + 1, 0, none⟩ u0).setCell ⟨w.heap.size + 1, 1, none⟩ u1).setCell ⟨w.heap.size + 1, 2, none⟩ u2).setCell ⟨w.heap.size + 1, 3, none⟩ u3).setCell ⟨w.heap.size + 1, 4, none⟩ u4).setCell ⟨w.heap.size + 1, 5, none⟩ u5).setCell ⟨w.heap.size + 1, 6, none⟩ u6).setCell ⟨w.heap.size + 1, 7, none⟩ u7).setCell ⟨w.heap.size + 1, 8, none⟩ u8).cell? ⟨w.heap.size, 3, none⟩ = some (.int .i64 n) ∧ (((((((((W.setCell ⟨w.heap.size + 1, 0, none⟩ u0).setCell ⟨w.heap.size + 1, 1, none⟩ u1).setCell ⟨w.heap.size + 1, 2, none⟩ u2).setCell ⟨w.heap.size + 1, 3, none⟩ u3).setCell ⟨w.heap.size + 1, 4, none⟩ u4).setCell ⟨w.heap.size + 1, 5, none⟩ u5).setCell ⟨w.heap.size + 1, 6, none⟩ u6).setCell ⟨w.heap.size + 1, 7, none⟩ u7).setCell ⟨w.heap.size + 1, 8, none⟩ u8).cell? ⟨w.heap.size, 4, none⟩ = some (.string x) ∧ (((((((((W.setCell ⟨w.heap.size + 1, 0, none⟩ u0).setCell ⟨w.heap.size + 1, 1, none⟩ u1).setCell ⟨w.heap.size + 1, 2, none⟩ u2).setCell ⟨w.heap.size + 1, 3, none⟩ u3).setCell ⟨w.heap.size + 1, 4, none⟩ u4).setCell ⟨w.heap.size + 1, 5, none⟩ u5).setCell ⟨w.heap.size + 1, 6, none⟩ u6).setCell ⟨w.heap.size + 1, 7, none⟩ u7).setCell ⟨w.heap.size + 1, 8, none⟩ u8).cell? ⟨w.heap.size, 5, none⟩ = some (.string y) ∧ (((((((((W.setCell ⟨w.heap.size + 1, 0, none⟩ u0).setCell ⟨w.heap.size + 1, 1, none⟩ u1).setCell ⟨w.heap.size + 1, 2, none⟩ u2).setCell ⟨w.heap.size + 1, 3, none⟩ u3).setCell ⟨w.heap.size + 1, 4, none⟩ u4).setCell ⟨w.heap.size + 1, 5, none⟩ u5).setCell ⟨w.heap.size + 1, 6, none⟩ u6).setCell ⟨w.heap.size + 1, 7, none⟩ u7).setCell ⟨w.heap.size + 1, 8, none⟩ u8).cell? ⟨w.heap.size, 6, none⟩ = some (.slice a0 n0 c0) ∧ (((((((((W.setCell ⟨w.heap.size + 1, 0, none⟩ u0).setCell ⟨w.heap.size + 1, 1, none⟩ u1).setCell ⟨w.heap.size + 1, 2, none⟩ u2).setCell ⟨w.heap.size + 1, 3, none⟩ u3).setCell ⟨w.heap.size + 1, 4, none⟩ u4).setCell ⟨w.heap.size + 1, 5, none⟩ u5).setCell ⟨w.heap.size + 1, 6, none⟩ u6).setCell ⟨w.heap.size + 1, 7, none⟩ u7).setCell ⟨w.heap.size + 1, 8, none⟩ u8).cell? ⟨w.heap.size, 7, none⟩ = some (.slice a1 n1 c1) ∧ (((((((((W.setCell ⟨w.heap.size + 1, 0, none⟩ u0).setCell ⟨w.heap.size + 1, 1, none⟩ u1).setCell ⟨w.heap.size + 1, 2, none⟩ u2).setCell ⟨w.heap.size + 1, 3, none⟩ u3).setCell ⟨w.heap.size + 1, 4, none⟩ u4).setCell ⟨w.heap.size + 1, 5, none⟩ u5).setCell ⟨w.heap.size + 1, 6, none⟩ u6).setCell ⟨w.heap.size + 1, 7, none⟩ u7).setCell ⟨w.heap.size + 1, 8, none⟩ u8).cell? ⟨w.heap.size, 8, none⟩ = some (.slice a2 n2 c2))) := by
    intro W u0 u1 u2 u3 u4 u5 u6 u7 u8 ⟨h0, h1, h2, h3, h4, h5, h6, h7, h8⟩
    have ho : ∀ o, (((((((((W.setCell ⟨w.heap.size + 1, 0, none⟩ u0).setCell ⟨w.heap.size + 1, 1, none⟩ u1).setCell ⟨w.heap.size + 1, 2, none⟩ u2).setCell ⟨w.heap.size + 1, 3, none⟩ u3).setCell ⟨w.heap.size + 1, 4, none⟩ u4).setCell ⟨w.heap.size + 1, 5, none⟩ u5).setCell ⟨w.heap.size + 1, 6, none⟩ u6).setCell ⟨w.heap.size + 1, 7, none⟩ u7).setCell ⟨w.heap.size + 1, 8, none⟩ u8).cell? ⟨w.heap.size, o, none⟩ = W.cell? ⟨w.heap.size, o, none⟩ := fun o => by
      have hne : w.heap.size ≠ w.heap.size + 1 := by omega
      rw [cell_set_other hne, cell_set_other hne, cell_set_other hne, cell_set_other hne, cell_set_other hne, cell_set_other hne, cell_set_other hne, cell_set_other hne, cell_set_other hne]
    exact ⟨(ho 0).trans h0, (ho 1).trans h1, (ho 2).trans h2, (ho 3).trans h3, (ho 4).trans h4, (ho 5).trans h5, (ho 6).trans h6, (ho 7).trans h7, (ho 8).trans h8⟩
  have HZ := hide (SA.out w0.drew (Fr.refl No w0).drew).1
  have F0 := hide f0
  have HS0 := hide hs0
  have D0 : Fr No w0 w0.drew := (Fr.refl No w0).drew
  have G1 := hide g1
  have hszW : w.heap.size + 1 < w0.heap.size := by omega
  have HO := hide hO
  clear hnm hrt hO hB hn g0 g1 f0 han
  go_enter Tryz.func79, Tryz.ntmps79
  go_wp2_with fail
  rw [← hw0]
  clear hw0
  go_region_held3 (fun w' : World => w'.cell? ⟨w.heap.size, 0, none⟩ = some (.int .i64 tg) ∧ w'.cell? ⟨w.heap.size, 1, none⟩ = some (.slice ag an ac) ∧ w'.cell? ⟨w.heap.size, 2, none⟩ = some (.int .i64 kd) ∧ w'.cell? ⟨w.heap.size, 3, none⟩ = some (.int .i64 n) ∧ w'.cell? ⟨w.heap.size, 4, none⟩ = some (.string x) ∧ w'.cell? ⟨w.heap.size, 5, none⟩ = some (.string y) ∧ w'.cell? ⟨w.heap.size, 6, none⟩ = some (.slice a0 n0 c0) ∧ w'.cell? ⟨w.heap.size, 7, none⟩ = some (.slice a1 n1 c1) ∧ w'.cell? ⟨w.heap.size, 8, none⟩ = some (.slice a2 n2 c2)) (first | with_reducible assumption | with_reducible exact HZ.out | with_reducible exact K9.out _ _ _ _ _ _ _ _ _ _ (by with_reducible assumption))
    (first
      | (go_at_call 69; refine (A22.out _ ?_).mono ?_; (first | exact HFB.out | exact D0); rintro e w1 ⟨⟨va, vc, rfl, hfW1, hf1, hn1⟩, hz1, ra0, ra1, ra2, ra3, ra4, ra5, ra6, ra7, ra8, raz⟩; have HFA := hide hf1; have HFWA := hide hfW1; have HNA := hide hn1; clear hf1 hfW1 hn1)
      | (go_at_call 40; refine (A7.out _ ?_).mono ?_; (first | exact HFA.out | exact D0); rintro e w2 ⟨⟨kd', n', x', y', a0', n0', c0', a1', n1', c1', a2', n2', c2', rfl, hfW2, hf2, hn2⟩, hz2, rb0, rb1, rb2, rb3, rb4, rb5, rb6, rb7, rb8, rbz⟩; have HFB := hide hf2; have HFWB := hide hfW2; have HNB := hide hn2; clear hf2 hfW2 hn2))
  clear ra0 ra1 ra2 ra3 ra4 ra5 ra6 ra7 ra8 raz rb0 rb1 rb2 rb3 rb4 rb5 rb6 rb7 rb8 rbz hz1 hz2 A22 A7 K9 SA HZ
  obtain ⟨cur', d1, d2, d3, d4, d5⟩ := sets_heap (w.heap.size + 1) 58 (0, 0) [.int .i64 tg, .slice va an vc, .int .i64 kd', .int .i64 n', .string x', .string y', .slice a0' n0' c0', .slice a1' n1' c1', .slice a2' n2' c2'] 0 w2 _ (fr_heap G1.out HFB.out (fun e => e)) (by simp)
  obtain ⟨W9, hW9⟩ : ∃ W9, W9 = setsAt w2 (w.heap.size + 1) 0 [.int .i64 tg, .slice va an vc, .int .i64 kd', .int .i64 n', .string x', .string y', .slice a0' n0' c0', .slice a1' n1' c1', .slice a2' n2' c2'] := ⟨_, rfl⟩
  rw [← hW9] at d1 d5
  have D1 : ∀ j, j < 9 → W9.cell? ⟨w.heap.size + 1, j, none⟩ = [.int .i64 tg, Value.slice va an vc, .int .i64 kd', .int .i64 n', .string x', .string y', .slice a0' n0' c0', .slice a1' n1' c1', .slice a2' n2' c2'][j]? := fun j hj => by
    rw [cell_of_heap d1]
    have := d4 j (by simpa using hj)
    rw [Nat.zero_add] at this
    exact this
  have r0 := D1 0 (by omega)
  have r1 := D1 1 (by omega)
  have r2 := D1 2 (by omega)
  have r3 := D1 3 (by omega)
  have r4 := D1 4 (by omega)
  have r5 := D1 5 (by omega)
  have r6 := D1 6 (by omega)
  have r7 := D1 7 (by omega)
  have r8 := D1 8 (by omega)
  clear D1 d1 d2 d3 d4
  show Exit.then _ _ Exit.normal _ (setsAt w2 (w.heap.size + 1) 0 [.int .i64 tg, .slice va an vc, .int .i64 kd', .int .i64 n', .string x', .string y', .slice a0' n0' c0', .slice a1' n1' c1', .slice a2' n2' c2'])
  rw [← hW9]
  have D5 := hide d5
  clear hW9 d5
  go_wp2_with fail
  refine bodyPost_ret (v := .agg #[.int .i64 tg, .slice va an vc, .int .i64 kd', .int .i64 n', .string x', .string y', .slice a0' n0' c0', .slice a1' n1' c1', .slice a2' n2' c2']) (by simp [results, Tryz.results79, go_sem, r0, r1, r2, r3, r4, r5, r6, r7, r8]) rfl ⟨va, vc, [.int .i64 kd', .int .i64 n', .string x', .string y', .slice a0' n0' c0', .slice a1' n1' c1', .slice a2' n2' c2'], New w0 w1, _, rfl, (F0.out.trans HFB.out).trans' D5.out (fun i hi e => by have e : i = w.heap.size + 1 := e; omega), part_two ?_ ?_ ?_,
    (HNA.out.kept (stays_fr HFWB.out (fun _ _ _ e => e) (fun _ h => h))).kept (stays_fr D5.out (fun i hi _ e => by have e : i = w.heap.size + 1 := e; have := hi.1; have := HS0.out; omega) (fun _ h => h)),
    HO.out.dkept HNB.out (stays_fr D5.out ?_ (fun _ h => h))⟩
  · exact fun i hi => ⟨by have := hi.1; have := HS0.out; omega, Nat.lt_of_lt_of_le (Nat.lt_of_lt_of_le hi.2 HFWB.out.size) D5.out.size⟩
  · exact fun i hi => ⟨Nat.le_trans (Nat.le_trans F0.out.size HFA.out.size) hi.1, Nat.lt_of_lt_of_le hi.2 D5.out.size⟩
  · exact fun i h h' => absurd (Nat.lt_of_lt_of_le h.2 h'.1) (Nat.lt_irrefl _)
  · intro i hi _ e
    have e : i = w.heap.size + 1 := e
    have h1 : w1.heap.size ≤ i := hi.1
    have := HFA.out.size
    have := HS0.out
    omega
set_option maxHeartbeats 2000000 in
theorem copyCasesG_any {α : Type} {P : Nat → World → List Value → α → Prop} {D : World → (Nat → Prop) → List Value → α → Prop} (hO : Elm P D) (B : Nat) (v : Value) (acs : List Value) (l : List (Int × List ByteArray × α)) (w : World) (hr : Row B w v l.length acs) (he : Each 9 (RC (P B w) B w) acs l) (hB : B ≤ w.heap.size) (hn : l.length ≤ 1073741824) (hw : ∀ i (h : i < l.length), l[i].2.1.length ≤ 1073741824) :
    Calls Tryz.prog 78 #[v, .func (.func 79) #[] #[]] w fun e w' => ∃ a c, e = .returned (.slice a l.length c) ∧ Fr No w w' ∧ ∃ acs' V1 V2, Part (New w w') [V1, V2] ∧ RowS V1 w' (.slice a l.length c) l.length acs' ∧ EachD 9 (RCD (D w') w') V2 acs' l := by
  obtain ⟨a0, cp0, rfl, hcp1, hcp2⟩ := hr.form
  unfold maxLen at hcp2
  have HR := hide hr
  have HE := hide he
  clear hr he
  have HW := hide hw
  have HO := hide hO
  clear hw hO
  by_cases h0 : l.length = 0
  · have e0 : l = [] := List.length_eq_zero_iff.1 h0
    subst e0
    go_enter Tryz.func78, Tryz.ntmps78
    go_wp2_with fail
    go_ret
    exact ⟨_, _, rfl, Fr.refl _ _, [], fun _ => False, fun _ => False, part_none _, ⟨none, 0, rfl, Nat.le_refl _, Nat.zero_le _, fun h => absurd h (by simp)⟩, rfl⟩
  · have h0' : ¬ (l.length : Int) = 0 := by omega
    obtain ⟨i0, hi, hz0, hz1, hz2⟩ := info_parts Tryz.info58
    have hmk : ∀ u : World, (Instr.makeSlice 30 (.int .i64 (l.length : Int)) (.int .i64 (l.length : Int))).run Tryz.prog u =
        .ok (.slice (some ⟨u.heap.size, 0, none⟩) l.length l.length) (u.alloc (.cells (madeCells #[.int .i64 0, .slice none 0 0, .int .i64 0, .int .i64 0, .string ⟨#[]⟩, .string ⟨#[]⟩, .slice none 0 0, .slice none 0 0, .slice none 0 0] (l.length * 9)) 58)) := fun u => by
      have h := run_make (P := Tryz.prog) u 30 58 i0 _ Tryz.underlying30 hi hz0 .i64 .i64 (l.length : Int) (l.length : Int) (by omega) (Int.le_refl _) (by rw [hz2]; omega) (by omega)
      rw [Int.toNat_natCast] at h
      simpa [hz1, Value.cells] using h
    go_enter Tryz.func78, Tryz.ntmps78
    go_wp2_with fail
    clear hmk h0'
    generalize ((l.length : Int) == 0) = bq
    go_loopw [16] (fun q wr => ∃ i : Nat, i ≤ l.length ∧ q = .int .i64 i ∧ Fr No w wr ∧ ∃ cur xs, wr.heap[w.heap.size]? = some (.cells cur 58 (0, 0)) ∧ cur.size = l.length * 9 ∧ xs.length = i * 9 ∧ (∀ j, j < i * 9 → cur[j]? = xs[j]?) ∧
      EachD 9 (RCD (D wr) wr) (fun x => w.heap.size < x ∧ x < wr.heap.size) xs (l.take i)) (fun q _ => l.length - (intOf q).toNat)
    case atStart => exact ⟨0, Nat.zero_le _, rfl, (Fr.refl No w).alloc _, _, [], heap_alloc_new _ _, size_madeCells _ _, rfl, fun j hj => absurd hj (by omega), rfl⟩
    case round =>
      obtain ⟨i, hi', rfl, hf, cur, xs, hg, hsz, hxl, hcur, hea⟩ := hrel
      have hbs : w.heap.size < wr.heap.size := lt_of_heap hg
      have hszw := hf.size
      by_cases hlt : i < l.length
      · have ho : Old B w wr := hf.old hB (fun _ _ e => e)
        obtain ⟨g, o, cap, ag, an, ac, kd', n', x', y', b0, n0, e0, b1, n1, e1, b2, n2, e2, hav, hcap, hg', hgw, hnm, han, hrt, hcell⟩ := cases_atG HO.out.form HR.out HE.out i hlt
        injection hav with hav1 _ hav2
        subst hav1 hav2
        have hcw : ∀ j, j < 9 → wr.cell? ⟨g, o + i * 9 + j, none⟩ = [Value.int .i64 l[i].1, .slice ag an ac, .int .i64 kd', .int .i64 n', .string x', .string y', .slice b0 n0 e0, .slice b1 n1 e1, .slice b2 n2 e2][j]? := fun j hj => by
          rw [ho.cell (a := ⟨g, o + i * 9 + j, none⟩) hg']; exact hcell j hj
        have q0 : wr.cell? ⟨g, o + i * 9, none⟩ = some (.int .i64 l[i].1) := hcw 0 (by omega)
        have q1 := hcw 1 (by omega)
        have q2 := hcw 2 (by omega)
        have q3 := hcw 3 (by omega)
        have q4 := hcw 4 (by omega)
        have q5 := hcw 5 (by omega)
        have q6 := hcw 6 (by omega)
        have q7 := hcw 7 (by omega)
        have q8 := hcw 8 (by omega)
        have hgl : g < wr.heap.size := by omega
        have hww := HW.out i hlt
        have htk : l.take (i + 1) = l.take i ++ [l[i]] := List.take_succ_eq_append_getElem hlt
        obtain ⟨cse, hcse⟩ : ∃ cse, cse = l[i] := ⟨_, rfl⟩
        rw [← hcse] at hww htk hnm han hrt q0
        subst han
        have CO : Hid (∀ W, Fr No wr W → Calls Tryz.prog 79 #[.agg #[.int .i64 cse.1, .slice ag cse.2.1.length ac, .int .i64 kd', .int .i64 n', .string x', .string y', .slice b0 n0 e0, .slice b1 n1 e1, .slice b2 n2 e2]] W fun e w' => ∃ va vc cs' U0 U1, e = .returned (.agg (.int .i64 cse.1 :: .slice va cse.2.1.length vc :: cs').toArray) ∧ Fr No W w' ∧ Part (New W w') [U0, U1] ∧ NamesS U0 w' (.slice va cse.2.1.length vc) cse.2.1 ∧ D w' U1 cs' cse.2.2) := fun W hW =>
          ownCaseG_any HO.out B cse.1 cse.2.1 cse.2.2 ag cse.2.1.length ac kd' n' x' y' b0 b1 b2 n0 e0 n1 e1 n2 e2 W (hnm.kept (ho.trans (hW.old (by omega) (fun _ _ e => e))) (Nat.le_refl _) (Nat.le_trans hszw hW.size)) rfl (HO.out.old hrt (ho.trans (hW.old (by omega) (fun _ _ e => e))) (Nat.le_trans hszw hW.size)) (by have := hW.size; omega) (by omega)
        have HTK := hide htk
        have HF := hide hf
        have HG := hide hg
        have HCUR := hide hcur
        have HEA := hide hea
        skip
        clear hcw hcell hrt hf hg hcur hea htk hcse ho hnm
        have i1 : (i : Int) < (l.length : Int) := by omega
        have i00 : (0 : Int) ≤ (i : Int) := by omega
        have hsize : i * 9 + 9 ≤ cur.size := by omega
        go_wp2_with fail
        refine (CO.out _ ((Fr.refl No wr).alloc _)).mono ?_
        rintro e w1 ⟨va, vc, cs', U0, U1, rfl, hf1, hpt1, hnm1, hrt1⟩
        obtain ⟨kd2, m2, x2, y2, p0, r0, s0, p1, r1, s1, p2, r2, s2, rfl⟩ := HO.out.dform hrt1
        have F1 : Fr No wr w1 := ((Fr.refl No wr).alloc _).trans hf1
        have g1 := fr_heap HG.out F1 (fun e => e)
        obtain ⟨u0, hu0⟩ := some_at g1 (o := i * 9) (by omega)
        obtain ⟨u1, hu1⟩ := some_at g1 (o := i * 9 + 1) (by omega)
        obtain ⟨u2, hu2⟩ := some_at g1 (o := i * 9 + 2) (by omega)
        obtain ⟨u3, hu3⟩ := some_at g1 (o := i * 9 + 3) (by omega)
        obtain ⟨u4, hu4⟩ := some_at g1 (o := i * 9 + 4) (by omega)
        obtain ⟨u5, hu5⟩ := some_at g1 (o := i * 9 + 5) (by omega)
        obtain ⟨u6, hu6⟩ := some_at g1 (o := i * 9 + 6) (by omega)
        obtain ⟨u7, hu7⟩ := some_at g1 (o := i * 9 + 7) (by omega)
        obtain ⟨u8, hu8⟩ := some_at g1 (o := i * 9 + 8) (by omega)
        have z1 := frozen_of_heap g1
        have G1 := hide g1
        have HF1 := hide F1
        have hw1s : wr.heap.size < w1.heap.size := by have := hf1.size; simp at this; omega
        have HRT1 := hide hrt1
        have HNM1 := hide hnm1
        have HPT1 := hide hpt1
        clear g1 F1 hf1 hrt1 CO hnm1 hpt1
        go_wp2_with fail
        go_roundw
        case rel =>
          obtain ⟨cur', c1, c2, c3, c4, c5⟩ := sets_heap w.heap.size 58 (0, 0) [.int .i64 cse.1, .slice va cse.2.1.length vc, .int .i64 kd2, .int .i64 m2, .string x2, .string y2, .slice p0 r0 s0, .slice p1 r1 s1, .slice p2 r2 s2] (i * 9) w1 cur G1.out (by simp; omega)
          refine ⟨i + 1, by omega, by go_num, ?_, cur', xs ++ [.int .i64 cse.1, .slice va cse.2.1.length vc, .int .i64 kd2, .int .i64 m2, .string x2, .string y2, .slice p0 r0 s0, .slice p1 r1 s1, .slice p2 r2 s2], c1, by omega, by simp [hxl]; omega, fun j hj => ?_, ?_⟩
          · exact (HF.out.trans HF1.out).trans' c5 (fun j hj e => by have e : j = w.heap.size := e; omega)
          · by_cases hji : j < i * 9
            · rw [c3 j hji, HCUR.out j hji, List.getElem?_append_left (by omega)]
            · have := c4 (j - i * 9) (by simp; omega)
              rw [show i * 9 + (j - i * 9) = j by omega] at this
              rw [this, List.getElem?_append_right (by omega), hxl]
          · rw [HTK.out]
            have f01 : Fr (· = w.heap.size) wr (setsAt w1 w.heap.size (i * 9) [.int .i64 cse.1, .slice va cse.2.1.length vc, .int .i64 kd2, .int .i64 m2, .string x2, .string y2, .slice p0 r0 s0, .slice p1 r1 s1, .slice p2 r2 s2]) := (HF1.out.mono (fun _ _ e => e.elim)).trans c5
            have hfs := f01.size
            have c5s := c5.size
            have hin : ∀ g, New (wr.alloc (.cells #[.int .i64 cse.1, .slice ag cse.2.1.length ac, .int .i64 kd', .int .i64 n', .string x', .string y', .slice b0 n0 e0, .slice b1 n1 e1, .slice b2 n2 e2] 58)) w1 g → wr.heap.size + 1 ≤ g := fun g hg => by have := hg.1; simp at this; omega
            have stN0 := stays_fr (S := U0) (S' := U0) c5 (fun g hg _ e => by have e : g = w.heap.size := e; have := hin g (HPT1.out.1 U0 (by simp) g hg); omega) (fun _ h => h)
            have stN1 := stays_fr (S := U1) (S' := U1) c5 (fun g hg _ e => by have e : g = w.heap.size := e; have := hin g (HPT1.out.1 U1 (by simp) g hg); omega) (fun _ h => h)
            refine EachD.sub ?_ (EachD.snoc (n := 9) (U := New (wr.alloc (.cells #[.int .i64 cse.1, .slice ag cse.2.1.length ac, .int .i64 kd', .int .i64 n', .string x', .string y', .slice b0 n0 e0, .slice b1 n1 e1, .slice b2 n2 e2] 58)) w1) rfl ?_ ?_ (EachD.mono (fun U _ _ hU h => RCD.mono (stays_fr f01 (fun g hg _ e => by have e : g = w.heap.size := e; have := hU g hg; omega) (fun _ h => h)) (fun U' _ _ hU' h => HO.out.dkept h (stays_fr f01 (fun g hg _ e => by have e : g = w.heap.size := e; have := hU g (hU' g hg); omega) (fun _ h => h))) h) HEA.out))
            · intro g hg
              rcases hg with h | h
              · exact ⟨h.1, Nat.lt_of_lt_of_le h.2 hfs⟩
              · exact ⟨by have := hin g h; omega, Nat.lt_of_lt_of_le h.2 c5s⟩
            · exact ⟨_, _, U0, U1, rfl, HPT1.out, HNM1.out.kept stN0, rfl, HO.out.dkept HRT1.out stN1⟩
            · exact fun g h h' => by have := h.2; have := hin g h'; omega
        case measure => simp [intOf]; omega
      · have hil : i = l.length := by omega
        subst hil
        have HF := hide hf
        have HG := hide hg
        have HCUR := hide hcur
        rw [List.take_length] at hea
        have HEA := hide hea
        clear hf hg hcur hea
        go_wp2_with fail
        go_ret
        refine ⟨_, _, rfl, HF.out, xs, fun g => g = w.heap.size, fun x => w.heap.size < x ∧ x < wr.heap.size, part_two (fun g e => ⟨Nat.le_of_eq e.symm, by rw [e]; exact lt_of_heap HG.out⟩) (fun g h => ⟨Nat.le_of_lt h.1, h.2⟩) (fun g e h => by have := h.1; omega), ⟨_, _, rfl, Nat.le_refl _, by unfold maxLen; omega, fun _ => ⟨_, _, rfl, rfl, lt_of_heap HG.out, fun j _ => frozen_of_heap HG.out _, fun j hj => ?_⟩⟩, HEA.out⟩
        rw [cell_of_heap HG.out, Nat.zero_add]
        exact HCUR.out j (by omega)
set_option maxHeartbeats 4000000 in
theorem own_nodeG {α : Type} {P : Nat → World → List Value → α → Prop} {D : World → (Nat → Prop) → List Value → α → Prop} (hO : Elm P D) (B : Nat) (w : World) (cs : List Value) (t : Pu.Node α) (ht : RN (P B w) B w cs t) (hB : B ≤ w.heap.size) (hlv : t.vars.length ≤ 1073741824) (hla : t.args.length ≤ 1073741824) (hlc : t.cases.length ≤ 1073741824) (hlw : ∀ i (h : i < t.cases.length), t.cases[i].2.1.length ≤ 1073741824) :
    Calls Tryz.prog 40 #[.agg cs.toArray] w fun e w' => ∃ cs', e = .returned (.agg cs'.toArray) ∧ Fr No w w' ∧ RND (D w') w' (New w w') cs' t := by
  obtain ⟨vv, av, cv, acs, ccs, rfl, hx, hn, hvars, hr, he, hq, hf⟩ := ht
  obtain ⟨a0, d0, rfl, _⟩ := hvars.1.form
  obtain ⟨a1, d1, rfl, hd1, hd1'⟩ := hr.form
  obtain ⟨a2, d2, rfl, hd2, hd2'⟩ := hq.form
  have C22 : Hid (∀ W, Fr No w W → Calls Tryz.prog 69 #[.slice a0 t.vars.length d0, .func (.func 70) #[] #[]] W fun e w' => ∃ a c, e = .returned (.slice a t.vars.length c) ∧ Fr No W w' ∧ NamesS (New W w') w' (.slice a t.vars.length c) t.vars) := fun W hW =>
    copyNames_any B _ t.vars W (hvars.kept (hW.old hB (fun _ _ e => e)) (Nat.le_refl _) hW.size) (by omega)
  have C24 : Hid (∀ W, Fr No w W → Calls Tryz.prog 77 #[.slice a1 t.args.length d1, .func (.func 40) #[] #[]] W fun e w' => ∃ a c, e = .returned (.slice a t.args.length c) ∧ Fr No W w' ∧ ∃ acs' V1 V2, Part (New W w') [V1, V2] ∧ RowS V1 w' (.slice a t.args.length c) t.args.length acs' ∧ EachD 7 (D w') V2 acs' t.args) := fun W hW =>
    copyTermsG_any hO B _ acs t.args W (hr.old (hW.old hB (fun _ _ e => e)) hW.size) (he.mono fun _ _ h => hO.old h (hW.old hB (fun _ _ e => e)) hW.size) (Nat.le_trans hB hW.size) (by omega)
  have C25 : Hid (∀ W, Fr No w W → Calls Tryz.prog 78 #[.slice a2 t.cases.length d2, .func (.func 79) #[] #[]] W fun e w' => ∃ a c, e = .returned (.slice a t.cases.length c) ∧ Fr No W w' ∧ ∃ acs' V1 V2, Part (New W w') [V1, V2] ∧ RowS V1 w' (.slice a t.cases.length c) t.cases.length acs' ∧ EachD 9 (RCD (D w') w') V2 acs' t.cases) := fun W hW =>
    copyCasesG_any hO B _ ccs t.cases W (hq.old (hW.old hB (fun _ _ e => e)) hW.size) (hf.mono fun _ _ h => RC.kept (hW.old hB (fun _ _ e => e)) (Nat.le_refl _) hW.size (fun _ _ h => hO.old h (hW.old hB (fun _ _ e => e)) hW.size) h) (Nat.le_trans hB hW.size) (by omega) hlw
  have HX := hide hx
  have HN := hide hn
  have HO := hide hO
  clear hx hn hvars hr he hq hf hO hlv hla hlc hlw
  obtain ⟨w0, hw0⟩ : ∃ w0, w0 = (w.alloc (.cells #[.int .i64 t.kind, .int .i64 t.n, .string t.name, .string t.token, .slice a0 t.vars.length d0, .slice a1 t.args.length d1, .slice a2 t.cases.length d2] 32)).alloc (.cells #[.int .i64 0, .int .i64 0, .string ⟨#[]⟩, .string ⟨#[]⟩, .slice none 0 0, .slice none 0 0, .slice none 0 0] 32) := ⟨_, rfl⟩
  have f0 : Fr No w w0 := by rw [hw0]; exact ((Fr.refl No w).alloc _).alloc _
  have hs0 : w0.heap.size = w.heap.size + 2 := by rw [hw0]; simp
  have g0 : w0.heap[w.heap.size]? = some (.cells #[.int .i64 t.kind, .int .i64 t.n, .string t.name, .string t.token, .slice a0 t.vars.length d0, .slice a1 t.args.length d1, .slice a2 t.cases.length d2] 32 (0, 0)) := by
    rw [hw0]; exact fr_heap (heap_alloc_new _ _) ((Fr.refl No _).alloc _) (fun e => e)
  have g1 : w0.heap[w.heap.size + 1]? = some (.cells #[.int .i64 0, .int .i64 0, .string ⟨#[]⟩, .string ⟨#[]⟩, .slice none 0 0, .slice none 0 0, .slice none 0 0] 32 (0, 0)) := by
    rw [hw0]
    have := heap_alloc_new (w.alloc (.cells #[.int .i64 t.kind, .int .i64 t.n, .string t.name, .string t.token, .slice a0 t.vars.length d0, .slice a1 t.args.length d1, .slice a2 t.cases.length d2] 32)) (.cells #[.int .i64 0, .int .i64 0, .string ⟨#[]⟩, .string ⟨#[]⟩, .slice none 0 0, .slice none 0 0, .slice none 0 0] 32)
    rw [World.size_alloc] at this; exact this
  have F0 := hide f0
  have HS0 := hide hs0
  have G0 := hide g0
  have G1 := hide g1
  rw [hw0] at F0 HS0 G0 G1
  clear f0 hs0 g0 g1 hw0
  show Calls Tryz.prog 40 #[.agg #[.int .i64 t.kind, .int .i64 t.n, .string t.name, .string t.token, .slice a0 t.vars.length d0, .slice a1 t.args.length d1, .slice a2 t.cases.length d2]] w _
  go_enter Tryz.func40, Tryz.ntmps40
  go_wp2_with fail
  refine (C22.out _ F0.out).mono ?_
  rintro e w1 ⟨va, vc, rfl, hf1, hn1⟩
  have g01 := fr_heap G0.out hf1 (fun e => e)
  have g11 := fr_heap G1.out hf1 (fun e => e)
  have b0 := cell_of_heap g01
  have z0 := frozen_of_heap g01
  have F1 := hide (F0.out.trans hf1)
  have N1 := hide hn1
  have G01 := hide g01
  have G11 := hide g11
  have S1 := hide (Nat.le_trans (Nat.le_of_eq HS0.out.symm) hf1.size)
  clear hf1 hn1 g01 g11 C22
  go_wp2_with fail
  obtain ⟨X1, hX1⟩ : ∃ X1, X1 = w1.setCell ⟨w.heap.size, 4, none⟩ (.slice va t.vars.length vc) := ⟨_, rfl⟩
  rw [← hX1]
  have fx1 : Fr (· = w.heap.size) w1 X1 := by rw [hX1]; exact (Fr.refl (· = w.heap.size) w1).setCell (.inl rfl) _
  have gx1 : X1.heap[w.heap.size]? = some (.cells #[.int .i64 t.kind, .int .i64 t.n, .string t.name, .string t.token, .slice va t.vars.length vc, .slice a1 t.args.length d1, .slice a2 t.cases.length d2] 32 (0, 0)) := by rw [hX1]; exact heap_set G01.out
  have hx1 : X1.heap[w.heap.size + 1]? = some (.cells #[.int .i64 0, .int .i64 0, .string ⟨#[]⟩, .string ⟨#[]⟩, .slice none 0 0, .slice none 0 0, .slice none 0 0] 32 (0, 0)) := fr_heap G11.out fx1 (fun e => by have e : w.heap.size + 1 = w.heap.size := e; omega)
  have FX1 := hide (F1.out.trans' fx1 (fun i hi e => by have e : i = w.heap.size := e; omega))
  have NX1 := hide (N1.out.kept (stays_fr (S' := fun g => w.heap.size + 2 ≤ g ∧ g < X1.heap.size) fx1 (fun g hg _ e => by have e : g = w.heap.size := e; have := hg.1; rw [HS0.out] at this; omega) (fun g hg => ⟨by have := hg.1; rw [HS0.out] at this; exact this, Nat.lt_of_lt_of_le hg.2 fx1.size⟩)))
  have hsx1 : w.heap.size + 2 ≤ X1.heap.size := Nat.le_trans S1.out fx1.size
  have GX1 := hide gx1
  have HX1 := hide hx1
  clear hX1 fx1 gx1 hx1 b0 z0 G01 G11 N1 F1 S1
  refine (C24.out _ FX1.out).mono ?_
  rintro e w2 ⟨ua, uc, rfl, hf2, acs', V1, V2, hpt2, hrow2, hea2⟩
  have g02 := fr_heap GX1.out hf2 (fun e => e)
  have g12 := fr_heap HX1.out hf2 (fun e => e)
  have b0 := cell_of_heap g02
  have z0 := frozen_of_heap g02
  have F2 := hide (FX1.out.trans hf2)
  have N2 := hide (NX1.out.kept (stays_fr (S' := fun g => w.heap.size + 2 ≤ g ∧ g < X1.heap.size) hf2 (fun _ _ _ e => e) (fun _ h => h)))
  have R2 := hide hrow2
  have E2 := hide hea2
  have P2 := hide hpt2
  have hz1 : X1.heap.size ≤ w2.heap.size := hf2.size
  have hsx2 : w.heap.size + 2 ≤ w2.heap.size := Nat.le_trans hsx1 hf2.size
  have G02 := hide g02
  have G12 := hide g12
  clear hf2 g02 g12 hrow2 hea2 hpt2 NX1 GX1 HX1 FX1 C24
  go_wp2_with fail
  obtain ⟨X2, hX2⟩ : ∃ X2, X2 = w2.setCell ⟨w.heap.size, 5, none⟩ (.slice ua t.args.length uc) := ⟨_, rfl⟩
  rw [← hX2]
  have fx2 : Fr (· = w.heap.size) w2 X2 := by rw [hX2]; exact (Fr.refl (· = w.heap.size) w2).setCell (.inl rfl) _
  have gx2 : X2.heap[w.heap.size]? = some (.cells #[.int .i64 t.kind, .int .i64 t.n, .string t.name, .string t.token, .slice va t.vars.length vc, .slice ua t.args.length uc, .slice a2 t.cases.length d2] 32 (0, 0)) := by rw [hX2]; exact heap_set G02.out
  have hx2 : X2.heap[w.heap.size + 1]? = some (.cells #[.int .i64 0, .int .i64 0, .string ⟨#[]⟩, .string ⟨#[]⟩, .slice none 0 0, .slice none 0 0, .slice none 0 0] 32 (0, 0)) := fr_heap G12.out fx2 (fun e => by have e : w.heap.size + 1 = w.heap.size := e; omega)
  have FX2 := hide (F2.out.trans' fx2 (fun i hi e => by have e : i = w.heap.size := e; omega))
  have st2 : ∀ U : Nat → Prop, (∀ g, U g → w.heap.size + 2 ≤ g) → Stays U U w2 X2 := fun U hU => stays_fr fx2 (fun g hg _ e => by have e : g = w.heap.size := e; have := hU g hg; omega) (fun _ h => h)
  have hv1 : ∀ U, U ∈ [V1, V2] → ∀ g, U g → w.heap.size + 2 ≤ g := fun U hU g hg => Nat.le_trans hsx1 (P2.out.1 U hU g hg).1
  have NX2 := hide (N2.out.kept (st2 _ (fun g h => h.1)))
  have RX2 := hide (R2.out.kept (st2 _ (hv1 V1 (by simp))))
  have EX2 := hide (E2.out.mono fun U _ _ hU h => HO.out.dkept h (st2 U (fun g hg => hv1 V2 (by simp) g (hU g hg))))
  have hz2 : w2.heap.size ≤ X2.heap.size := fx2.size
  have hsx3 : w.heap.size + 2 ≤ X2.heap.size := Nat.le_trans hsx2 fx2.size
  have GX2 := hide gx2
  have HX2 := hide hx2
  clear hX2 fx2 gx2 hx2 b0 z0 G02 G12 N2 R2 E2 F2 hsx2 st2 hv1
  refine (C25.out _ FX2.out).mono ?_
  rintro e w3 ⟨ta, tc, rfl, hf3, ccs', V3, V4, hpt3, hrow3, hea3⟩
  have g03 := fr_heap GX2.out hf3 (fun e => e)
  have g13 := fr_heap HX2.out hf3 (fun e => e)
  have b0 := cell_of_heap g03
  have z0 := frozen_of_heap g03
  have F3 := hide (FX2.out.trans hf3)
  have st3 : ∀ U : Nat → Prop, Stays U U X2 w3 := fun U => stays_fr hf3 (fun _ _ _ e => e) (fun _ h => h)
  have N3 := hide (NX2.out.kept (st3 _))
  have R3 := hide (RX2.out.kept (st3 _))
  have E3 := hide (EX2.out.mono fun U _ _ _ h => HO.out.dkept h (st3 U))
  have Q3 := hide hrow3
  have L3 := hide hea3
  have P3 := hide hpt3
  have hz3 : X2.heap.size ≤ w3.heap.size := hf3.size
  have hsx4 : w.heap.size + 2 ≤ w3.heap.size := Nat.le_trans hsx3 hf3.size
  have G03 := hide g03
  have G13 := hide g13
  clear hf3 g03 hrow3 hea3 hpt3 st3 NX2 RX2 EX2 GX2 HX2 FX2 C25
  have c1 := cell_of_heap g13
  have z1 := frozen_of_heap g13
  clear g13
  go_wp2_with fail
  clear b0 z0 c1 z1
  obtain ⟨Y, hY⟩ : ∃ Y, Y = w3.setCell ⟨w.heap.size, 6, none⟩ (.slice ta t.cases.length tc) := ⟨_, rfl⟩
  have fy : Fr (· = w.heap.size) w3 Y := by rw [hY]; exact (Fr.refl (· = w.heap.size) w3).setCell (.inl rfl) _
  have gy : Y.heap[w.heap.size + 1]? = some (.cells #[.int .i64 0, .int .i64 0, .string ⟨#[]⟩, .string ⟨#[]⟩, .slice none 0 0, .slice none 0 0, .slice none 0 0] 32 (0, 0)) := fr_heap G13.out fy (fun e => by have e : w.heap.size + 1 = w.heap.size := e; omega)
  obtain ⟨cur', e1, e2, e3, e4, e5⟩ := sets_heap (w.heap.size + 1) 32 (0, 0) [.int .i64 t.kind, .int .i64 t.n, .string t.name, .string t.token, .slice va t.vars.length vc, .slice ua t.args.length uc, .slice ta t.cases.length tc] 0 Y _ gy (by simp)
  obtain ⟨Z, hZ⟩ : ∃ Z, Z = setsAt Y (w.heap.size + 1) 0 [.int .i64 t.kind, .int .i64 t.n, .string t.name, .string t.token, .slice va t.vars.length vc, .slice ua t.args.length uc, .slice ta t.cases.length tc] := ⟨_, rfl⟩
  rw [← hZ] at e1 e5
  have D1 : ∀ j, j < 7 → Z.cell? ⟨w.heap.size + 1, j, none⟩ = [Value.int .i64 t.kind, .int .i64 t.n, .string t.name, .string t.token, .slice va t.vars.length vc, .slice ua t.args.length uc, .slice ta t.cases.length tc][j]? := fun j hj => by
    rw [cell_of_heap e1]
    have := e4 j (by simpa using hj)
    rw [Nat.zero_add] at this
    exact this
  have r0 := D1 0 (by omega)
  have r1 := D1 1 (by omega)
  have r2 := D1 2 (by omega)
  have r3 := D1 3 (by omega)
  have r4 := D1 4 (by omega)
  have r5 := D1 5 (by omega)
  have r6 := D1 6 (by omega)
  have fz : Fr (fun i => i = w.heap.size ∨ i = w.heap.size + 1) w3 Z := (fy.mono (fun _ _ e => .inl e)).trans (e5.mono (fun _ _ e => .inr e))
  have st : ∀ U : Nat → Prop, (∀ g, U g → w.heap.size + 2 ≤ g) → Stays U U w3 Z := fun U hU => stays_fr fz (fun g hg _ e => by have := hU g hg; rcases e with e | e <;> omega) (fun _ h => h)
  have hv1 : ∀ U, U ∈ [V1, V2] → ∀ g, U g → w.heap.size + 2 ≤ g := fun U hU g hg => Nat.le_trans hsx1 (P2.out.1 U hU g hg).1
  have hv3 : ∀ U, U ∈ [V3, V4] → ∀ g, U g → w.heap.size + 2 ≤ g := fun U hU g hg => Nat.le_trans hsx3 (P3.out.1 U hU g hg).1
  have hz4 : w3.heap.size ≤ Z.heap.size := fz.size
  have ew : ((((((((w3.setCell ⟨w.heap.size, 6, none⟩ (.slice ta t.cases.length tc)).setCell ⟨w.heap.size + 1, 0, none⟩ (.int .i64 t.kind)).setCell ⟨w.heap.size + 1, 1, none⟩ (.int .i64 t.n)).setCell ⟨w.heap.size + 1, 2, none⟩ (.string t.name)).setCell ⟨w.heap.size + 1, 3, none⟩ (.string t.token)).setCell ⟨w.heap.size + 1, 4, none⟩ (.slice va t.vars.length vc)).setCell ⟨w.heap.size + 1, 5, none⟩ (.slice ua t.args.length uc)).setCell ⟨w.heap.size + 1, 6, none⟩ (.slice ta t.cases.length tc)) = Z := by rw [hZ, hY]; rfl
  rw [ew]
  refine bodyPost_ret (v := .agg #[.int .i64 t.kind, .int .i64 t.n, .string t.name, .string t.token, .slice va t.vars.length vc, .slice ua t.args.length uc, .slice ta t.cases.length tc]) (by simp [results, Tryz.results40, go_sem, r0, r1, r2, r3, r4, r5, r6]) rfl ⟨[.int .i64 t.kind, .int .i64 t.n, .string t.name, .string t.token, .slice va t.vars.length vc, .slice ua t.args.length uc, .slice ta t.cases.length tc], rfl, ?_, ?_⟩
  · exact F3.out.trans' fz (fun i hi e => by rcases e with e | e <;> omega)
  · exact ⟨_, _, _, acs', ccs', fun g => w.heap.size + 2 ≤ g ∧ g < X1.heap.size, V1, V2, V3, V4, rfl, HX.out, HN.out,
      part_five (a := w.heap.size + 2) (fun _ h => h) P2.out P3.out hsx1 hz1 hz2 hz3 (fun g h h' => ⟨by omega, Nat.lt_of_lt_of_le h' hz4⟩),
      N3.out.kept (st _ (fun _ h => h.1)), R3.out.kept (st _ (hv1 V1 (by simp))), E3.out.mono (fun U _ _ hU h => HO.out.dkept h (st U (fun g hg => hv1 V2 (by simp) g (hU g hg)))),
      Q3.out.kept (st _ (hv3 V3 (by simp))), L3.out.mono (fun U _ _ hU h => RCD.mono (st U (fun g hg => hv3 V4 (by simp) g (hU g hg))) (fun U' _ _ hU' h => HO.out.dkept h (st U' (fun g hg => hv3 V4 (by simp) g (hU g (hU' g hg))))) h)⟩
end Go.Proofs.YtomahbdidlglfacGreatDoor
