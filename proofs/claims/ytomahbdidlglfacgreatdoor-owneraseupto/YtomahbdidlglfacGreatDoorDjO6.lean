/- Terms that lie apart: each list in a block of its own. No walk in it. -/
import Derived.Test.YtomahbdidlglfacGreatDoorO1O2O3C9O4O5W6Rs
namespace Go.Proofs.YtomahbdidlglfacGreatDoor
open Go.RowKit Go.Maps Go.WideMaps

abbrev Sub (A V : Nat → Prop) : Prop := ∀ g, A g → V g
abbrev Dis (A B : Nat → Prop) : Prop := ∀ g, A g → ¬ B g
/-- A list of elements, each so many cells, each in a set of its own. -/
def EachD {α : Type} (n : Nat) (P : (Nat → Prop) → List Value → α → Prop) : (Nat → Prop) → List Value → List α → Prop
  | _, xs, [] => xs = []
  | V, xs, a :: l => ∃ (A B : Nat → Prop) (ck rest : List Value), xs = ck ++ rest ∧ ck.length = n ∧ Sub A V ∧ Sub B V ∧ Dis A B ∧ P A ck a ∧ EachD n P B rest l
theorem EachD.sub {α : Type} {n : Nat} {P : (Nat → Prop) → List Value → α → Prop} {V V' : Nat → Prop} (h : Sub V V') : ∀ {l : List α} {xs : List Value}, EachD n P V xs l → EachD n P V' xs l
  | [], _, e => e
  | _ :: _, _, ⟨A, B, ck, rest, h1, h2, h3, h4, h5, h6, h7⟩ => ⟨A, B, ck, rest, h1, h2, fun g hg => h g (h3 g hg), fun g hg => h g (h4 g hg), h5, h6, h7⟩
theorem EachD.mono {α : Type} {n : Nat} {P Q : (Nat → Prop) → List Value → α → Prop} : ∀ {l : List α} {V : Nat → Prop} {xs : List Value}, (∀ U c a, Sub U V → P U c a → Q U c a) → EachD n P V xs l → EachD n Q V xs l
  | [], _, _, _, e => e
  | _ :: _, _, _, h, ⟨A, B, ck, rest, h1, h2, h3, h4, h5, h6, h7⟩ => ⟨A, B, ck, rest, h1, h2, h3, h4, h5, h _ _ _ h3 h6, EachD.mono (fun U c a hU hp => h U c a (fun g hg => h4 g (hU g hg)) hp) h7⟩
theorem EachD.snoc {α : Type} {n : Nat} {P : (Nat → Prop) → List Value → α → Prop} {a : α} {c : List Value} {U : Nat → Prop} (hc : c.length = n) (hp : P U c a) : ∀ {l : List α} {V : Nat → Prop} {xs : List Value}, Dis V U → EachD n P V xs l → EachD n P (fun g => V g ∨ U g) (xs ++ c) (l ++ [a])
  | [], _, xs, _, e => ⟨U, fun _ => False, c, [], by rw [show xs = [] from e]; simp, hc, fun _ h => .inr h, fun _ h => h.elim, fun _ _ h => h, hp, rfl⟩
  | _ :: _, _, xs, hd, ⟨A, B, ck, rest, h1, h2, h3, h4, h5, h6, h7⟩ => ⟨A, fun g => B g ∨ U g, ck, rest ++ c, by rw [h1, List.append_assoc], h2, fun g h => .inl (h3 g h), fun g h => h.imp (h4 g) (fun h => h),
      fun g hA h => h.elim (h5 g hA) (hd g (h3 g hA)), h6, EachD.snoc hc hp (fun g hB => hd g (h4 g hB)) h7⟩
theorem EachD.each {α : Type} {n : Nat} {P : (Nat → Prop) → List Value → α → Prop} {Q : List Value → α → Prop} : ∀ {l : List α} {V : Nat → Prop} {xs : List Value}, (∀ U c a, Sub U V → P U c a → Q c a) → EachD n P V xs l → Each n Q xs l
  | [], _, _, _, e => e
  | _ :: _, _, _, h, ⟨_, _, ck, rest, h1, h2, h3, h4, _, h6, h7⟩ => ⟨ck, rest, h1, h2, h _ _ _ h3 h6, EachD.each (fun U c a hU hp => h U c a (fun g hg => h4 g (hU g hg)) hp) h7⟩
theorem EachD.length {α : Type} {n : Nat} {P : (Nat → Prop) → List Value → α → Prop} {l : List α} {V : Nat → Prop} {xs : List Value} (h : EachD n P V xs l) : xs.length = l.length * n :=
  Each.length (P := fun _ _ => True) (h.each fun _ _ _ _ _ => trivial)
/-- Parts of a set, apart from each other. -/
def Part (V : Nat → Prop) (l : List (Nat → Prop)) : Prop := (∀ U, U ∈ l → Sub U V) ∧ l.Pairwise Dis
theorem Part.sub {V V' : Nat → Prop} {l : List (Nat → Prop)} (h : Part V l) (hs : Sub V V') : Part V' l := ⟨fun U hU g hg => hs g (h.1 U hU g hg), h.2⟩

def RCD {α : Type} (P : (Nat → Prop) → List Value → α → Prop) (w : World) (V : Nat → Prop) (cs : List Value) (c : Int × List ByteArray × α) : Prop :=
  ∃ vv b U0 U1, cs = .int .i64 c.1 :: vv :: b ∧ Part V [U0, U1] ∧ NamesS U0 w vv c.2.1 ∧ b.length = 7 ∧ P U1 b c.2.2
def RND {α : Type} (P : (Nat → Prop) → List Value → α → Prop) (w : World) (V : Nat → Prop) (cs : List Value) (t : Pu.Node α) : Prop :=
  ∃ vv av cv acs ccs V0 V1 V2 V3 V4, cs = [.int .i64 t.kind, .int .i64 t.n, .string t.name, .string t.token, vv, av, cv] ∧ t.name.size ≤ maxLen ∧ (Lit.int .i64 t.n).wf = true ∧
    Part V [V0, V1, V2, V3, V4] ∧ NamesS V0 w vv t.vars ∧ RowS V1 w av t.args.length acs ∧ EachD 7 P V2 acs t.args ∧ RowS V3 w cv t.cases.length ccs ∧ EachD 9 (RCD P w) V4 ccs t.cases
/-- A term that lies apart, all in V. -/
def RTD : (k : Nat) → World → (V : Nat → Prop) → List Value → Pu.TT k → Prop
  | 0, _, _, _, _ => False
  | k + 1, w, V, cs, t => RND (RTD k w) w V cs t

theorem RCD.mono {α : Type} {P P' : (Nat → Prop) → List Value → α → Prop} {w w' : World} {V : Nat → Prop} (hs : Stays V V w w') (hp : ∀ U c a, Sub U V → P U c a → P' U c a) {cs : List Value} {c : Int × List ByteArray × α} (h : RCD P w V cs c) : RCD P' w' V cs c := by
  obtain ⟨vv, b, U0, U1, h1, h2, h3, h4, h5⟩ := h
  exact ⟨vv, b, U0, U1, h1, h2, h3.kept ⟨hs.1, fun g hg hl => ⟨hg, (hs.2 g (h2.1 U0 (by simp) g hg) hl).2⟩⟩, h4, hp _ _ _ (h2.1 U1 (by simp)) h5⟩
theorem RND.mono {α : Type} {P P' : (Nat → Prop) → List Value → α → Prop} {w w' : World} {V : Nat → Prop} (hs : Stays V V w w') (hp : ∀ U c a, Sub U V → P U c a → P' U c a) {cs : List Value} {t : Pu.Node α} (h : RND P w V cs t) : RND P' w' V cs t := by
  obtain ⟨vv, av, cv, acs, ccs, V0, V1, V2, V3, V4, h1, h2, h3, h4, h5, h6, h7, h8, h9⟩ := h
  have st : ∀ U, U ∈ [V0, V1, V2, V3, V4] → Stays U U w w' := fun U hU => ⟨hs.1, fun g hg hl => ⟨hg, (hs.2 g (h4.1 U hU g hg) hl).2⟩⟩
  exact ⟨vv, av, cv, acs, ccs, V0, V1, V2, V3, V4, h1, h2, h3, h4, h5.kept (st _ (by simp)), h6.kept (st _ (by simp)), h7.mono (fun U c a hU => hp U c a (fun g hg => h4.1 V2 (by simp) g (hU g hg))), h8.kept (st _ (by simp)),
    h9.mono (fun U c a hU h => RCD.mono ⟨hs.1, fun g hg hl => ⟨hg, (hs.2 g (h4.1 V4 (by simp) g (hU g hg)) hl).2⟩⟩ (fun U' c a hU' => hp U' c a (fun g hg => h4.1 V4 (by simp) g (hU g (hU' g hg)))) h)⟩
theorem RTD.kept {w w' : World} : ∀ {k : Nat} {V : Nat → Prop} {cs : List Value} {t : Pu.TT k}, Stays V V w w' → RTD k w V cs t → RTD k w' V cs t
  | 0, _, _, _, _, h => h.elim
  | _ + 1, _, _, _, hs, h => RND.mono hs (fun _ _ _ hU h => RTD.kept ⟨hs.1, fun g hg hl => ⟨hg, (hs.2 g (hU g hg) hl).2⟩⟩ h) h
theorem RCD.sub {α : Type} {P : (Nat → Prop) → List Value → α → Prop} {w : World} {V V' : Nat → Prop} (hs : Sub V V') {cs : List Value} {c : Int × List ByteArray × α} (h : RCD P w V cs c) : RCD P w V' cs c := by
  obtain ⟨vv, b, U0, U1, h1, h2, h3⟩ := h
  exact ⟨vv, b, U0, U1, h1, h2.sub hs, h3⟩
theorem RTD.sub {w : World} : ∀ {k : Nat} {V V' : Nat → Prop} {cs : List Value} {t : Pu.TT k}, Sub V V' → RTD k w V cs t → RTD k w V' cs t
  | 0, _, _, _, _, _, h => h.elim
  | _ + 1, _, _, _, _, hs, ⟨vv, av, cv, acs, ccs, V0, V1, V2, V3, V4, h1, h2, h3, h4, h5⟩ => ⟨vv, av, cv, acs, ccs, V0, V1, V2, V3, V4, h1, h2, h3, h4.sub hs, h5⟩
theorem stays_self {S S' : Nat → Prop} {w : World} (h : Sub S S') : Stays S S' w w := ⟨Nat.le_refl _, fun g hg _ => ⟨h g hg, rfl⟩⟩
theorem RTD.rts {w : World} : ∀ {k : Nat} {V : Nat → Prop} {cs : List Value} {t : Pu.TT k}, RTD k w V cs t → RTS k V w cs t
  | 0, _, _, _, h => h.elim
  | _ + 1, _, _, _, ⟨vv, av, cv, acs, ccs, V0, V1, V2, V3, V4, h1, h2, h3, h4, h5, h6, h7, h8, h9⟩ =>
    ⟨vv, av, cv, acs, ccs, h1, h2, h3, h5.kept (stays_self (h4.1 V0 (by simp))), h6.kept (stays_self (h4.1 V1 (by simp))),
      h7.each (fun _ _ _ hU h => (RTD.rts h).kept (stays_self fun g hg => h4.1 V2 (by simp) g (hU g hg))), h8.kept (stays_self (h4.1 V3 (by simp))),
      h9.each (fun U c a hU ⟨vv, b, U0, U1, e1, e2, e3, e4, e5⟩ => ⟨vv, b, e1, e3.kept (stays_self fun g hg => h4.1 V4 (by simp) g (hU g (e2.1 U0 (by simp) g hg))), e4, (RTD.rts e5).kept (stays_self fun g hg => h4.1 V4 (by simp) g (hU g (e2.1 U1 (by simp) g hg)))⟩)⟩
theorem RTD.form {k : Nat} {V : Nat → Prop} {w : World} {cs : List Value} {t : Pu.TT k} (h : RTD k w V cs t) :
    ∃ kd n x y a0 n0 c0 a1 n1 c1 a2 n2 c2, cs = [.int .i64 kd, .int .i64 n, .string x, .string y, .slice a0 n0 c0, .slice a1 n1 c1, .slice a2 n2 c2] := h.rts.form
end Go.Proofs.YtomahbdidlglfacGreatDoor

/- Copies of terms' lists, apart. -/
namespace Go.Proofs.YtomahbdidlglfacGreatDoor
set_option maxRecDepth 100000
open Go.RowKit Go.Maps Go.WideMaps
/-- What 'Own' does at terms of k levels: the copy lies apart. -/
def OwnCD (k : Nat) : Prop := ∀ (B : Nat) (w : World) (cs : List Value) (t : Pu.TT k), RT k B w cs t → B ≤ w.heap.size → Pu.wt k t ≤ 1073741824 →
  Calls Tryz.prog 40 #[.agg cs.toArray] w fun e w' => ∃ cs', e = .returned (.agg cs'.toArray) ∧ Fr No w w' ∧ RTD k w' (New w w') cs' t
theorem part_none (V : Nat → Prop) : Part V [fun _ => False, fun _ => False] := ⟨fun U hU g hg => by simp at hU; rw [hU] at hg; exact hg.elim, by simp⟩
theorem part_two {V A B : Nat → Prop} (hA : Sub A V) (hB : Sub B V) (hd : Dis A B) : Part V [A, B] := ⟨fun U hU => by
  simp at hU
  rcases hU with rfl | rfl
  · exact hA
  · exact hB, by simpa using hd⟩
set_option maxHeartbeats 2000000 in
theorem copyTermsD_any (k : Nat) (hO : OwnCD k) (B : Nat) (v : Value) (acs : List Value) (l : List (Pu.TT k)) (w : World) (hr : Row B w v l.length acs) (he : Each 7 (RT k B w) acs l) (hB : B ≤ w.heap.size) (hn : l.length ≤ 1073741824) (hw : ∀ i (h : i < l.length), Pu.wt k l[i] ≤ 1073741824) :
    Calls Tryz.prog 77 #[v, .func (.func 40) #[] #[]] w fun e w' => ∃ a c, e = .returned (.slice a l.length c) ∧ Fr No w w' ∧ ∃ acs' V1 V2, Part (New w w') [V1, V2] ∧ RowS V1 w' (.slice a l.length c) l.length acs' ∧ EachD 7 (RTD k w') V2 acs' l := by
  obtain ⟨a0, cp0, rfl, hcp1, hcp2⟩ := hr.form
  unfold maxLen at hcp2
  have HR := hide hr
  have HE := hide he
  have HW := hide hw
  have HO := hide hO
  clear hr he hw hO
  by_cases h0 : l.length = 0
  · have e0 : l = [] := List.length_eq_zero_iff.1 h0
    subst e0
    go_enter Tryz.func77, Tryz.ntmps77
    go_wp2_with fail
    go_ret
    exact ⟨_, _, rfl, Fr.refl _ _, [], fun _ => False, fun _ => False, part_none _, ⟨none, 0, rfl, Nat.le_refl _, Nat.zero_le _, fun h => absurd h (by simp)⟩, rfl⟩
  · have h0' : ¬ (l.length : Int) = 0 := by omega
    obtain ⟨i0, hi, hz0, hz1, hz2⟩ := info_parts Tryz.info32
    have hmk : ∀ u : World, (Instr.makeSlice 29 (.int .i64 (l.length : Int)) (.int .i64 (l.length : Int))).run Tryz.prog u =
        .ok (.slice (some ⟨u.heap.size, 0, none⟩) l.length l.length) (u.alloc (.cells (madeCells #[.int .i64 0, .int .i64 0, .string ⟨#[]⟩, .string ⟨#[]⟩, .slice none 0 0, .slice none 0 0, .slice none 0 0] (l.length * 7)) 32)) := fun u => by
      have h := run_make (P := Tryz.prog) u 29 32 i0 _ Tryz.underlying29 hi hz0 .i64 .i64 (l.length : Int) (l.length : Int) (by omega) (Int.le_refl _) (by rw [hz2]; omega) (by omega)
      rw [Int.toNat_natCast] at h
      simpa [hz1, Value.cells] using h
    go_enter Tryz.func77, Tryz.ntmps77
    go_wp2_with fail
    clear hmk h0'
    generalize ((l.length : Int) == 0) = bq
    go_loopw [16] (fun q wr => ∃ i : Nat, i ≤ l.length ∧ q = .int .i64 i ∧ Fr No w wr ∧ ∃ cur xs, wr.heap[w.heap.size]? = some (.cells cur 32 (0, 0)) ∧ cur.size = l.length * 7 ∧ xs.length = i * 7 ∧ (∀ j, j < i * 7 → cur[j]? = xs[j]?) ∧
      EachD 7 (RTD k wr) (fun x => w.heap.size < x ∧ x < wr.heap.size) xs (l.take i)) (fun q _ => l.length - (intOf q).toNat)
    case atStart => exact ⟨0, Nat.zero_le _, rfl, (Fr.refl No w).alloc _, _, [], heap_alloc_new _ _, size_madeCells _ _, rfl, fun j hj => absurd hj (by omega), rfl⟩
    case round =>
      obtain ⟨i, hi', rfl, hf, cur, xs, hg, hsz, hxl, hcur, hea⟩ := hrel
      have hbs : w.heap.size < wr.heap.size := lt_of_heap hg
      have hszw := hf.size
      by_cases hlt : i < l.length
      · have ho : Old B w wr := hf.old hB (fun _ _ e => e)
        obtain ⟨g, o, cap1, kd', n', x', y', b0, n0, e0, b1, n1, e1, b2, n2, e2, hav, hcap, hg', hgw, hrt, hcell⟩ := args_at HR.out HE.out i hlt
        injection hav with hav1 _ hav2
        subst hav1 hav2
        have hcw : ∀ j, j < 7 → wr.cell? ⟨g, o + i * 7 + j, none⟩ = [Value.int .i64 kd', .int .i64 n', .string x', .string y', .slice b0 n0 e0, .slice b1 n1 e1, .slice b2 n2 e2][j]? := fun j hj => by
          rw [ho.cell (a := ⟨g, o + i * 7 + j, none⟩) hg']; exact hcell j hj
        have q0 : wr.cell? ⟨g, o + i * 7, none⟩ = some (.int .i64 kd') := hcw 0 (by omega)
        have q1 := hcw 1 (by omega)
        have q2 := hcw 2 (by omega)
        have q3 := hcw 3 (by omega)
        have q4 := hcw 4 (by omega)
        have q5 := hcw 5 (by omega)
        have q6 := hcw 6 (by omega)
        have hgl : g < wr.heap.size := by omega
        have CO : Hid (∀ W, Fr No wr W → Calls Tryz.prog 40 #[.agg #[.int .i64 kd', .int .i64 n', .string x', .string y', .slice b0 n0 e0, .slice b1 n1 e1, .slice b2 n2 e2]] W fun e w' => ∃ cs', e = .returned (.agg cs'.toArray) ∧ Fr No W w' ∧ RTD k w' (New W w') cs' l[i]) := fun W hW =>
          HO.out B W _ l[i] (hrt.old (ho.trans (hW.old (by omega) (fun _ _ e => e))) (Nat.le_trans hszw hW.size)) (by have := hW.size; omega) (HW.out i hlt)
        have htk : l.take (i + 1) = l.take i ++ [l[i]] := List.take_succ_eq_append_getElem hlt
        obtain ⟨ti, hti⟩ : ∃ ti, ti = l[i] := ⟨_, rfl⟩
        rw [← hti] at CO htk
        have HTK := hide htk
        have HF := hide hf
        have HG := hide hg
        have HCUR := hide hcur
        have HEA := hide hea
        clear hcw hcell hrt hf hg hcur hea htk hti ho
        have i1 : (i : Int) < (l.length : Int) := by omega
        have i00 : (0 : Int) ≤ (i : Int) := by omega
        have hsize : i * 7 + 7 ≤ cur.size := by omega
        go_wp2_with fail
        refine (CO.out _ ((Fr.refl No wr).alloc _)).mono ?_
        rintro e w1 ⟨cs', rfl, hf1, hrt1⟩
        obtain ⟨kd2, m2, x2, y2, p0, r0, s0, p1, r1, s1, p2, r2, s2, rfl⟩ := hrt1.form
        have F1 : Fr No wr w1 := ((Fr.refl No wr).alloc _).trans hf1
        have g1 := fr_heap HG.out F1 (fun e => e)
        obtain ⟨u0, hu0⟩ := some_at g1 (o := i * 7) (by omega)
        obtain ⟨u1, hu1⟩ := some_at g1 (o := i * 7 + 1) (by omega)
        obtain ⟨u2, hu2⟩ := some_at g1 (o := i * 7 + 2) (by omega)
        obtain ⟨u3, hu3⟩ := some_at g1 (o := i * 7 + 3) (by omega)
        obtain ⟨u4, hu4⟩ := some_at g1 (o := i * 7 + 4) (by omega)
        obtain ⟨u5, hu5⟩ := some_at g1 (o := i * 7 + 5) (by omega)
        obtain ⟨u6, hu6⟩ := some_at g1 (o := i * 7 + 6) (by omega)
        have z1 := frozen_of_heap g1
        have G1 := hide g1
        have HF1 := hide F1
        have hw1s : wr.heap.size < w1.heap.size := by have := hf1.size; simp at this; omega
        have HRT1 := hide hrt1
        clear g1 F1 hf1 hrt1 CO
        go_wp2_with fail
        go_roundw
        case rel =>
          obtain ⟨cur', c1, c2, c3, c4, c5⟩ := sets_heap w.heap.size 32 (0, 0) [.int .i64 kd2, .int .i64 m2, .string x2, .string y2, .slice p0 r0 s0, .slice p1 r1 s1, .slice p2 r2 s2] (i * 7) w1 cur G1.out (by simp; omega)
          refine ⟨i + 1, by omega, by go_num, ?_, cur', xs ++ [.int .i64 kd2, .int .i64 m2, .string x2, .string y2, .slice p0 r0 s0, .slice p1 r1 s1, .slice p2 r2 s2], c1, by omega, by simp [hxl]; omega, fun j hj => ?_, ?_⟩
          · exact (HF.out.trans HF1.out).trans' c5 (fun j hj e => by have e : j = w.heap.size := e; omega)
          · by_cases hji : j < i * 7
            · rw [c3 j hji, HCUR.out j hji, List.getElem?_append_left (by omega)]
            · have := c4 (j - i * 7) (by simp; omega)
              rw [show i * 7 + (j - i * 7) = j by omega] at this
              rw [this, List.getElem?_append_right (by omega), hxl]
          · rw [HTK.out]
            have f01 : Fr (· = w.heap.size) wr (setsAt w1 w.heap.size (i * 7) [.int .i64 kd2, .int .i64 m2, .string x2, .string y2, .slice p0 r0 s0, .slice p1 r1 s1, .slice p2 r2 s2]) := (HF1.out.mono (fun _ _ e => e.elim)).trans c5
            have hfs := f01.size
            have c5s := c5.size
            have hs1 : wr.heap.size < w1.heap.size := hw1s
            refine EachD.sub ?_ (EachD.snoc (n := 7) (U := New (wr.alloc (.cells #[.int .i64 kd', .int .i64 n', .string x', .string y', .slice b0 n0 e0, .slice b1 n1 e1, .slice b2 n2 e2] 32)) w1) rfl ?_ ?_ (EachD.mono (fun U _ _ hU h => h.kept (stays_fr f01 (fun g hg _ e => by have e : g = w.heap.size := e; have := hU g hg; omega) (fun _ h => h))) HEA.out))
            · intro g hg
              rcases hg with h | h
              · exact ⟨h.1, Nat.lt_of_lt_of_le h.2 hfs⟩
              · exact ⟨by have := h.1; simp at this; omega, Nat.lt_of_lt_of_le h.2 c5s⟩
            · exact HRT1.out.kept (stays_fr c5 (fun g hg _ e => by have e : g = w.heap.size := e; have := hg.1; simp at this; omega) (fun _ h => h))
            · exact fun g h h' => by have := h.2; have := h'.1; simp at this; omega
        case measure => simp [intOf]; omega
      · have hil : i = l.length := by omega
        subst hil
        have HF := hide hf
        have HG := hide hg
        have HCUR := hide hcur
        rw [List.take_length] at hea
        have HEA := hide hea
        clear hf hg hcur hea
        go_wp2_with fail
        go_ret
        refine ⟨_, _, rfl, HF.out, xs, fun g => g = w.heap.size, fun x => w.heap.size < x ∧ x < wr.heap.size, part_two (fun g e => ⟨Nat.le_of_eq e.symm, by rw [e]; exact lt_of_heap HG.out⟩) (fun g h => ⟨Nat.le_of_lt h.1, h.2⟩) (fun g e h => by have := h.1; omega), ⟨_, _, rfl, Nat.le_refl _, by unfold maxLen; omega, fun _ => ⟨_, _, rfl, rfl, lt_of_heap HG.out, fun j _ => frozen_of_heap HG.out _, fun j hj => ?_⟩⟩, HEA.out⟩
        rw [cell_of_heap HG.out, Nat.zero_add]
        exact HCUR.out j (by omega)
end Go.Proofs.YtomahbdidlglfacGreatDoor
