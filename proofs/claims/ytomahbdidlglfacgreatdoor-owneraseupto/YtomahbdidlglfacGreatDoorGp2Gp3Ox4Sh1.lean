/- The document's reader: 'many' over names. -/
import Derived.Test.YtomahbdidlglfacGreatDoorG2G3Gp4Gp5Gp6FaG4Gp1
import Derived.Test.YtomahbdidlglfacGreatDoorPn6ObOx1Ox2Ox3Pn7
import Derived.Test.YtomahbdidlglfacGreatDoorP1ShelfP2
import Derived.Test.YtomahbdidlglfacGreatDoorO1O2O3C9O4O5W6Rs
import Derived.Lib.ItoaLen
import Derived.DataShut
namespace Go.Proofs.YtomahbdidlglfacGreatDoor
open Go.RowKit Go.Maps Go.WideMaps

/-- From a place the names lie, and a bracket behind them, up to b. -/
def RdN (S : ByteArray) : Nat → List ByteArray → Nat → Prop
  | a, [], b => ∃ c, pkb S a c (c + 1) = true ∧ wd S c (c + 1) = ⟨#[41]⟩ ∧ c + 1 ≤ S.size ∧ b = c + 1
  | a, x :: xs, b => ∃ p, pkb S a p (p + x.size) = true ∧ wd S p (p + x.size) = x ∧ isName x = true ∧ 0 < x.size ∧ ¬ x = ⟨#[41]⟩ ∧ p + x.size ≤ S.size ∧ RdN S (p + x.size) xs b

set_option maxRecDepth 100000 in
set_option maxHeartbeats 4000000 in
theorem manyN_any (base fb pbx pb : Nat) (S nm : ByteArray) (at0 b : Nat) (v : Value) (l : List ByteArray) (w : World) (h : PS pb S at0 0 w) (hS : S.size ≤ 1600) (hr : RdN S at0 l b)
    (hf : w.heap[fb]? = some (.cells (fnCells nm v) 34 (0, 0))) (hx : w.heap[pbx]? = some (.cells #[.pointer (some ⟨pb, 0, none⟩)] 88 (0, 0))) (hown : w.ownsRow base 9 1 v 0 []) (hb : base ≤ w.heap.size) (hfb : fb < base) (hpb : pb < base) (hpx : pbx < base) (h1 : fb ≠ pb) (h2 : pbx ≠ pb) (h3 : fb ≠ pbx) (hll : l.length ≤ 1000) :
    Calls Tryz.prog 59 #[.pointer (some ⟨pb, 0, none⟩), .func (.func 60) #[] #[.pointer (some ⟨fb, 0, none⟩), .pointer (some ⟨pbx, 0, none⟩)]] w fun e w' => e = .returned (.tuple #[]) ∧ Fr (fun i => i = pb ∨ i = fb ∨ base ≤ i) w w' ∧ PS pb S b 0 w' ∧
      ∃ v', w'.heap[fb]? = some (.cells (fnCells nm v') 34 (0, 0)) ∧ w'.ownsRow base 9 1 v' l.length (l.map .string) := by
  have lf := lt_of_heap hf
  have lp := lt_of_heap h
  have lx := lt_of_heap hx
  have H := hide h
  have HR := hide hr
  have HF := hide hf
  have HX := hide hx
  have HO := hide hown
  have HB := hide hb
  have HD := hide (And.intro hfb (And.intro hpb (And.intro hpx (And.intro h1 (And.intro h2 h3)))))
  have HLL := hide hll
  clear h hr hf hx hown hb hfb hpb hpx h1 h2 h3 hll
  go_enter Tryz.func59, Tryz.ntmps59
  go_wp2_with fail
  go_loopg [] (l.length + 1) (fun gn wr => ∃ ys rest at', l = ys ++ rest ∧ gn = rest.length + 1 ∧ PS pb S at' 0 wr ∧ RdN S at' rest b ∧ Fr (fun i => i = pb ∨ i = fb ∨ base ≤ i) w wr ∧ ∃ v, wr.heap[fb]? = some (.cells (fnCells nm v) 34 (0, 0)) ∧ wr.ownsRow base 9 1 v ys.length (ys.map .string))
  case atStart => exact ⟨[], l, at0, rfl, rfl, H.out, HR.out, Fr.refl _ _, v, HF.out, HO.out⟩
  case round =>
    obtain ⟨ys, rest, at', hl, hgn, hps, hrd, hfr, v1, hfb1, hown1⟩ := hrel
    obtain ⟨hfb, hpb, hpx, h1, h2, h3⟩ := HD.out
    have hpx1 : wr.heap[pbx]? = some (.cells #[.pointer (some ⟨pb, 0, none⟩)] 88 (0, 0)) := fr_heap HX.out hfr (fun e => by rcases e with e | e | e <;> omega)
    have c0 := cell_of_heap hps 2
    have lw := lt_of_heap hps
    have hll := HLL.out
    have hbs : base ≤ wr.heap.size := Nat.le_trans HB.out hfr.size
    cases rest with
    | nil =>
      obtain ⟨c, hp2, hb2, hc, rfl⟩ := hrd
      have CP : Hid (Calls Tryz.prog 56 #[.pointer (some ⟨pb, 0, none⟩)] wr fun r w' => r = .returned (.string ⟨#[41]⟩) ∧ Fr (· = pb) wr w' ∧ PS pb S c 0 w') := by rw [← hb2]; exact peek_any pb S at' c (c + 1) 0 wr hps hS hp2
      have CW : Hid (∀ W, PS pb S c 0 W → Calls Tryz.prog 57 #[.pointer (some ⟨pb, 0, none⟩), .string ⟨#[41]⟩] W fun r w' => r = .returned (.tuple #[]) ∧ Fr (· = pb) W w' ∧ PS pb S (c + 1) 0 w') := fun W hps => pwant_any pb S ⟨#[41]⟩ c c (c + 1) 0 W hps hS (pkb_self hp2) (by omega) hc hb2
      rw [List.append_nil] at hl
      have HH := hide (And.intro hl (And.intro hfr (And.intro hfb1 hown1)))
      clear hps hfr hfb1 hown1 hpx1 hl hp2 hb2
      go_wp2_with fail
      refine CP.out.mono ?_
      rintro e w1 ⟨rfl, hf1, ps1⟩
      have F1 := hide hf1
      have PS1 := hide ps1
      clear hf1 ps1 c0 CP
      go_wp2_with fail
      refine (CW.out _ PS1.out).mono ?_
      rintro e w2 ⟨rfl, hf2, ps2⟩
      have F2 := hide (F1.out.trans hf2)
      have PS2 := hide ps2
      clear hf2 ps2 CW
      go_wp2_with fail
      go_end0
      obtain ⟨hl, hfr, hfb1, hown1⟩ := HH.out
      subst hl
      exact ⟨rfl, hfr.trans' F2.out (fun i _ e => .inl e), PS2.out, v1, fr_heap hfb1 F2.out h1, row_fr hown1 F2.out (fun g hg e => by have := (hown1.lt g hg).1; have e : g = pb := e; omega)⟩
    | cons x xs =>
      obtain ⟨p, hp, hwd, hnm, hx0, hne, hks, hrd2⟩ := hrd
      have hne' : (!x.toList == [41]) = true := by
        have h := str_ne hne
        rw [show (⟨#[41]⟩ : ByteArray).toList = [41] from by rw [ByteArray.toList_eq]] at h
        exact h
      have CP : Hid (Calls Tryz.prog 56 #[.pointer (some ⟨pb, 0, none⟩)] wr fun r w' => r = .returned (.string x) ∧ Fr (· = pb) wr w' ∧ PS pb S p 0 w') := by
        have h := peek_any pb S at' p (p + x.size) 0 wr hps hS hp
        rw [hwd] at h
        exact h
      have hyl : ys.length ≤ 1000 := by
        have : l.length = ys.length + (x :: xs).length := by rw [hl, List.length_append]
        omega
      have CL : Hid (∀ W, Fr (· = pb) wr W → PS pb S p 0 W → Calls Tryz.prog 60 #[.pointer (some ⟨fb, 0, none⟩), .pointer (some ⟨pbx, 0, none⟩)] W fun e w' => e = .returned (.tuple #[]) ∧ Fr (fun i => i = pb ∨ i = fb ∨ base ≤ i) W w' ∧ PS pb S (p + x.size) 0 w' ∧
          ∃ v', w'.heap[fb]? = some (.cells (fnCells nm v') 34 (0, 0)) ∧ w'.ownsRow base 9 1 v' (ys ++ [x]).length ((ys ++ [x]).map .string)) := fun W hW hps => by
        have hoW := row_fr hown1 hW (fun g hg e => by have := (hown1.lt g hg).1; have e : g = pb := e; omega)
        have h := parseK_any base fb pbx pb S nm p p (p + x.size) v1 ys W hps hS (pkb_self hp) (by omega) hks (by rw [hwd]; exact hnm) (fr_heap hfb1 hW h1) (fr_heap hpx1 hW h2) hoW (Nat.le_trans hbs hW.size) hfb hpb hpx h1 h2 h3 hyl
        rw [hwd] at h
        exact h.mono fun e w' ⟨h1, h2, h3, h4⟩ => ⟨h1, h2.mono (fun i _ e => e.imp (fun e => e) (fun e => e.imp (fun e => e) (fun e => (hoW.lt i e).1))), h3, h4⟩
      have HH := hide (And.intro hl hfr)
      have HRD := hide hrd2
      have HGN := hide hgn
      clear hps hfr hfb1 hown1 hpx1 hl hrd2 hp hwd hnm hne hgn
      go_wp2_with fail
      refine CP.out.mono ?_
      rintro e w1 ⟨rfl, hf1, ps1⟩
      have F1 := hide hf1
      have PS1 := hide ps1
      clear hf1 ps1 c0 CP
      go_wp2_with fail
      refine (CL.out _ F1.out PS1.out).mono ?_
      rintro e w2 ⟨rfl, hf2, ps2, v2, hfb2, hown2⟩
      have F2 := hide ((F1.out.mono (T' := fun i => i = pb ∨ i = fb ∨ base ≤ i) (fun _ _ e => .inl e)).trans hf2)
      have HH2 := hide (And.intro ps2 (And.intro hfb2 hown2))
      clear hf2 ps2 hfb2 hown2 CL
      go_wp2_with fail
      go_roundg (xs.length + 1)
      case measure => have := HGN.out; simp only [List.length_cons] at this; omega
      case rel => exact ⟨ys ++ [x], xs, p + x.size, by rw [HH.out.1, List.append_assoc]; rfl, rfl, HH2.out.1, HRD.out, HH.out.2.trans F2.out, v2, HH2.out.2.1, HH2.out.2.2⟩
end Go.Proofs.YtomahbdidlglfacGreatDoor

/- The document's reader: a text of one function, of any parameters. -/
namespace Go.Proofs.YtomahbdidlglfacGreatDoor
open Go.RowKit Go.Maps Go.WideMaps

/-- The words of a text of one function. -/
structure OneN (S nm : ByteArray) (xs : List ByteArray) (K b0 b1 b2 b3 b5 c7 b7 : Nat) (t : Pu.TT K) : Prop where
  size : S.size ≤ 1500
  p0 : pkb S 0 b0 (b0 + 1) = true
  x0 : wd S b0 (b0 + 1) = ⟨#[40]⟩
  p1 : pkb S (b0 + 1) b1 (b1 + 2) = true
  x1 : wd S b1 (b1 + 2) = ⟨#[102, 110]⟩
  p2 : pkb S (b1 + 2) b2 (b2 + nm.size) = true
  x2 : wd S b2 (b2 + nm.size) = nm
  n2 : isName nm = true
  m2 : 0 < nm.size
  p3 : pkb S (b2 + nm.size) b3 (b3 + 1) = true
  x3 : wd S b3 (b3 + 1) = ⟨#[40]⟩
  ps : RdN S (b3 + 1) xs b5
  pl : xs.length ≤ 1000
  sh : Short xs
  t6 : ∀ pb, RdT K pb S b5 c7 0 t
  p7 : pkb S c7 b7 (b7 + 1) = true
  x7 : wd S b7 (b7 + 1) = ⟨#[41]⟩
  p8 : pkb S (b7 + 1) S.size S.size = true
  x8 : wd S S.size S.size = ⟨#[]⟩

set_option maxRecDepth 100000 in
set_option maxHeartbeats 4000000 in
theorem parse_fn {S nm : ByteArray} {xs : List ByteArray} {K b0 b1 b2 b3 b5 c7 b7 : Nat} {t : Pu.TT K} (o : OneN S nm xs K b0 b1 b2 b3 b5 c7 b7 t) (w : World) (henv : Env w) (h3 : 3 ≤ w.heap.size) :
    Calls Tryz.prog 31 #[.string S] w fun e w' => ∃ v cs, e = .returned (.tuple #[v, .int .i64 0]) ∧ Fr No w w' ∧ RowS (New w w') w' v 1 cs ∧ cs.length = 9 ∧ RFS K (New w w') w' cs (nm, xs, t) := by
  have h1 : ¬ (1500 : Int) < (S.size : Int) := by have := o.size; omega
  have hS : S.size ≤ 1600 := by have := o.size; omega
  obtain ⟨pb, hpb⟩ : ∃ pb, pb = w.heap.size := ⟨_, rfl⟩
  have CP1 : Hid (∀ W, PS pb S 0 0 W → Calls Tryz.prog 56 #[.pointer (some ⟨pb, 0, none⟩)] W fun r w' => r = .returned (.string ⟨#[40]⟩) ∧ Fr (· = pb) W w' ∧ PS pb S b0 0 w') := fun W h => by rw [← o.x0]; exact peek_any pb S 0 b0 (b0 + 1) 0 W h hS o.p0
  have CW1 : Hid (∀ W, PS pb S b0 0 W → Calls Tryz.prog 57 #[.pointer (some ⟨pb, 0, none⟩), .string ⟨#[40]⟩] W fun r w' => r = .returned (.tuple #[]) ∧ Fr (· = pb) W w' ∧ PS pb S (b0 + 1) 0 w') := fun W h => pwant_any pb S ⟨#[40]⟩ b0 b0 (b0 + 1) 0 W h hS (pkb_self o.p0) (by omega) (by have := pkb_le o.p0; omega) o.x0
  have CW2 : Hid (∀ W, PS pb S (b0 + 1) 0 W → Calls Tryz.prog 57 #[.pointer (some ⟨pb, 0, none⟩), .string ⟨#[102, 110]⟩] W fun r w' => r = .returned (.tuple #[]) ∧ Fr (· = pb) W w' ∧ PS pb S (b1 + 2) 0 w') := fun W h => pwant_any pb S ⟨#[102, 110]⟩ (b0 + 1) b1 (b1 + 2) 0 W h hS o.p1 (by omega) (by have := pkb_le o.p1; omega) o.x1
  have CNM : Hid (∀ W, PS pb S (b1 + 2) 0 W → Calls Tryz.prog 58 #[.pointer (some ⟨pb, 0, none⟩)] W fun r w' => r = .returned (.string nm) ∧ Fr (· = pb) W w' ∧ PS pb S (b2 + nm.size) 0 w') := fun W h => by
    have := pname_any pb S (b1 + 2) b2 (b2 + nm.size) 0 W h hS o.p2 (by have := o.m2; omega) (by have := pkb_le o.p2; omega) (by rw [o.x2]; exact o.n2)
    rw [o.x2] at this
    exact this
  have CW3 : Hid (∀ W, PS pb S (b2 + nm.size) 0 W → Calls Tryz.prog 57 #[.pointer (some ⟨pb, 0, none⟩), .string ⟨#[40]⟩] W fun r w' => r = .returned (.tuple #[]) ∧ Fr (· = pb) W w' ∧ PS pb S (b3 + 1) 0 w') := fun W h => pwant_any pb S ⟨#[40]⟩ (b2 + nm.size) b3 (b3 + 1) 0 W h hS o.p3 (by omega) (by have := pkb_le o.p3; omega) o.x3
  have CM : Hid (∀ W fb pbx, PS pb S (b3 + 1) 0 W → W.heap[fb]? = some (.cells (fnCells nm (.slice none 0 0)) 34 (0, 0)) → W.heap[pbx]? = some (.cells #[.pointer (some ⟨pb, 0, none⟩)] 88 (0, 0)) → fb + 1 ≤ W.heap.size → pb < fb → pbx < fb → pbx ≠ pb → Calls Tryz.prog 59 #[.pointer (some ⟨pb, 0, none⟩), .func (.func 60) #[] #[.pointer (some ⟨fb, 0, none⟩), .pointer (some ⟨pbx, 0, none⟩)]] W fun e w' => e = .returned (.tuple #[]) ∧ Fr (fun i => i = pb ∨ i = fb ∨ fb + 1 ≤ i) W w' ∧ PS pb S b5 0 w' ∧
      ∃ v', w'.heap[fb]? = some (.cells (fnCells nm v') 34 (0, 0)) ∧ w'.ownsRow (fb + 1) 9 1 v' xs.length (xs.map .string)) := fun W fb pbx h hf hx e1 e2 e3 e4 =>
    manyN_any (fb + 1) fb pbx pb S nm (b3 + 1) b5 (.slice none 0 0) xs W h hS o.ps hf hx (World.ownsRow_nil _ _ _ _) e1 (by omega) (by omega) (by omega) (by omega) e4 (by omega) o.pl
  have CT : Hid (∀ W, PS pb S b5 0 W → Env W → 3 ≤ pb → Calls Tryz.prog 61 #[.pointer (some ⟨pb, 0, none⟩), .int .i64 0] W fun e w' => ∃ e0 e1 e2 e3 a4 n4 c4 a5 n5 c5 a6 n6 c6, e = .returned (.agg #[.int .i64 e0, .int .i64 e1, .string e2, .string e3, .slice a4 n4 c4, .slice a5 n5 c5, .slice a6 n6 c6]) ∧ RTS K (New W w') w' [.int .i64 e0, .int .i64 e1, .string e2, .string e3, .slice a4 n4 c4, .slice a5 n5 c5, .slice a6 n6 c6] t ∧ Fr (· = pb) W w' ∧ PS pb S c7 0 w') := fun W hp he h3 => by
    refine (o.t6 pb W hp he h3).mono ?_
    rintro e w' ⟨cs, he, hrt, hf, hp'⟩
    obtain ⟨e0, e1, e2, e3, a4, n4, c4, a5, n5, c5, a6, n6, c6, rfl⟩ := hrt.form
    exact ⟨e0, e1, e2, e3, a4, n4, c4, a5, n5, c5, a6, n6, c6, he, hrt, hf, hp'⟩
  have CW4 : Hid (∀ W, PS pb S c7 0 W → Calls Tryz.prog 57 #[.pointer (some ⟨pb, 0, none⟩), .string ⟨#[41]⟩] W fun r w' => r = .returned (.tuple #[]) ∧ Fr (· = pb) W w' ∧ PS pb S (b7 + 1) 0 w') := fun W h => pwant_any pb S ⟨#[41]⟩ c7 b7 (b7 + 1) 0 W h hS o.p7 (by omega) (by have := pkb_le o.p7; omega) o.x7
  have CP9 : Hid (∀ W, PS pb S (b7 + 1) 0 W → Calls Tryz.prog 56 #[.pointer (some ⟨pb, 0, none⟩)] W fun r w' => r = .returned (.string ⟨#[]⟩) ∧ Fr (· = pb) W w' ∧ PS pb S S.size 0 w') := fun W h => by rw [← o.x8]; exact peek_any pb S (b7 + 1) S.size S.size 0 W h hS o.p8
  have HO := hide o
  have HENV := hide henv
  clear o henv hS
  go_enter Tryz.func31, Tryz.ntmps31
  go_wp2_with fail
  rw [← hpb]
  obtain ⟨W0, hW0⟩ : ∃ W0, W0 = ((w.alloc (.cells #[.string S, .int .i64 0, .int .i64 0] 90)).alloc (.cells #[.pointer (some ⟨pb, 0, none⟩)] 88)) := ⟨_, rfl⟩
  rw [← hW0]
  have f0 : Fr No w W0 := by rw [hW0]; exact ((Fr.refl No w).alloc _).alloc _
  have ps0 : PS pb S 0 0 W0 := by
    rw [hW0, hpb]
    exact fr_heap (heap_alloc_new w _) ((Fr.refl No _).alloc _) (fun e => e)
  have px0 : W0.heap[pb + 1]? = some (.cells #[.pointer (some ⟨pb, 0, none⟩)] 88 (0, 0)) := by
    have h := heap_alloc_new (w.alloc (.cells #[.string S, .int .i64 0, .int .i64 0] 90)) (.cells #[.pointer (some ⟨pb, 0, none⟩)] 88)
    rw [World.size_alloc, ← hpb, ← hW0] at h
    exact h
  have F0 := hide f0
  have PS0 := hide ps0
  have PX0 := hide px0
  have HPB := hide hpb
  have l0 := lt_of_heap px0
  have h3' : 3 ≤ pb := by omega
  clear f0 ps0 px0 hW0 hpb
  go_loopg [5] 2 (fun gn v wr => (gn = 2 ∧ v = .slice none 0 0 ∧ wr = W0) ∨ (gn = 1 ∧ PS pb S (b7 + 1) 0 wr ∧ wr.heap[pb + 1]? = some (.cells #[.pointer (some ⟨pb, 0, none⟩)] 88 (0, 0)) ∧ Fr No w wr ∧ ∃ cs, RowS (fun i => (w.heap.size ≤ i ∧ i < wr.heap.size) ∧ i ≠ pb) wr v 1 cs ∧ cs.length = 9 ∧ RFS K (fun i => (w.heap.size ≤ i ∧ i < wr.heap.size) ∧ i ≠ pb) wr cs (nm, xs, t)))
  case atStart => exact .inl ⟨rfl, rfl, rfl⟩
  case round =>
    rcases hrel with ⟨rfl, rfl, hw⟩ | ⟨rfl, hps, hpx, hfr, cs, hrow, hcl, hrf⟩
    · have hw' := hw.symm
      clear hw
      subst hw'
      have c0 : W0.cell? ⟨pb + 1, 0, none⟩ = some (.pointer (some ⟨pb, 0, none⟩)) := cell_of_heap PX0.out 0
      have c1 : W0.cell? ⟨pb, 2, none⟩ = some (.int .i64 0) := cell_of_heap PS0.out 2
      have l1 := lt_of_heap PS0.out
      go_wp2_with fail
      refine (CP1.out _ PS0.out).mono ?_
      rintro e w1 ⟨rfl, hf1, ps1⟩
      have px1 := fr_heap PX0.out hf1 (fun e => by have e : pb + 1 = pb := e; omega)
      have F1 := hide hf1
      have PS1 := hide ps1
      have PX1 := hide px1
      clear c0 c1 hf1 ps1
      have c0 : w1.cell? ⟨pb + 1, 0, none⟩ = some (.pointer (some ⟨pb, 0, none⟩)) := cell_of_heap px1 0
      have m1 := lt_of_heap px1
      clear px1
      go_wp2_with fail
      refine (CW1.out _ PS1.out).mono ?_
      rintro e w2 ⟨rfl, hf2, ps2⟩
      have px2 := fr_heap PX1.out hf2 (fun e => by have e : pb + 1 = pb := e; omega)
      have F2 := hide (F1.out.trans hf2)
      have PS2 := hide ps2
      have PX2 := hide px2
      clear c0 hf2 ps2
      have c0 : w2.cell? ⟨pb + 1, 0, none⟩ = some (.pointer (some ⟨pb, 0, none⟩)) := cell_of_heap px2 0
      have m2 := lt_of_heap px2
      clear px2
      go_wp2_with fail
      refine (CW2.out _ PS2.out).mono ?_
      rintro e w3 ⟨rfl, hf3, ps3⟩
      have px3 := fr_heap PX2.out hf3 (fun e => by have e : pb + 1 = pb := e; omega)
      have F3 := hide (F2.out.trans hf3)
      have PS3 := hide ps3
      have PX3 := hide px3
      clear c0 hf3 ps3
      have c0 : w3.cell? ⟨pb + 1, 0, none⟩ = some (.pointer (some ⟨pb, 0, none⟩)) := cell_of_heap px3 0
      have m3 := lt_of_heap px3
      clear px3
      go_wp2_with fail
      refine (CNM.out _ PS3.out).mono ?_
      rintro e w4 ⟨rfl, hf4, ps4⟩
      have G4 : Fr No w w4 := (F0.out.trans' F3.out (fun i hi e => by have e : i = pb := e; have := HPB.out; omega)).trans' hf4 (fun i hi e => by have e : i = pb := e; have := HPB.out; omega)
      have px4 := fr_heap PX3.out hf4 (fun e => by have e : pb + 1 = pb := e; omega)
      have H4 := hide (And.intro G4 (And.intro ps4 px4))
      clear c0 hf4 ps4 G4
      have c0 : w4.cell? ⟨pb + 1, 0, none⟩ = some (.pointer (some ⟨pb, 0, none⟩)) := cell_of_heap px4 0
      have m4 := lt_of_heap px4
      clear px4
      go_wp2_with fail
      obtain ⟨W5, hW5⟩ : ∃ W5, W5 = w4.alloc (.cells #[.string nm, .slice none 0 0, .int .i64 0, .int .i64 0, .string ⟨#[]⟩, .string ⟨#[]⟩, .slice none 0 0, .slice none 0 0, .slice none 0 0] 34) := ⟨_, rfl⟩
      rw [← hW5]
      obtain ⟨G4, ps4, px4⟩ := H4.out
      have f45 : Fr No w4 W5 := by rw [hW5]; exact (Fr.refl No w4).alloc _
      have b5 : W5.heap[w4.heap.size]? = some (.cells (fnCells nm (.slice none 0 0)) 34 (0, 0)) := by rw [hW5]; exact heap_alloc_new w4 _
      have px5 := fr_heap px4 f45 (fun e => e)
      refine (CW3.out _ (ps4.fr f45 (fun e => e))).mono ?_
      rintro e w6 ⟨rfl, hf6, ps6⟩
      have G6 : Fr No w w6 := (G4.no f45).trans' hf6 (fun i hi e => by have e : i = pb := e; have := HPB.out; omega)
      have b6 := fr_heap b5 hf6 (fun e => by have e : w4.heap.size = pb := e; omega)
      have px6 := fr_heap px5 hf6 (fun e => by have e : pb + 1 = pb := e; omega)
      have H6 := hide (And.intro G6 (And.intro ps6 (And.intro px6 b6)))
      clear c0 hf6 ps6 G6 b5 px5 hW5 f45 G4 ps4 px4 b6
      have c0 : w6.cell? ⟨pb + 1, 0, none⟩ = some (.pointer (some ⟨pb, 0, none⟩)) := cell_of_heap px6 0
      have m6 := lt_of_heap px6
      clear px6
      go_wp2_with fail
      obtain ⟨G6, ps6, px6, b6⟩ := H6.out
      have lb6 := lt_of_heap b6
      refine (CM.out w6 w4.heap.size (pb + 1) ps6 b6 px6 (by omega) (by omega) (by omega) (by omega)).mono ?_
      rintro e w7 ⟨rfl, hf7, ps7, v7, b7', own7⟩
      obtain ⟨va, vc, rfl⟩ := row_form own7
      have G7 : Fr No w w7 := G6.trans' hf7 (fun i hi e => by
        have := HPB.out
        have := H4.out.1.size
        rcases e with e | e | e <;> omega)
      have px7 := fr_heap px6 hf7 (fun e => by rcases e with e | e | e <;> omega)
      have s7 := hf7.size
      have H7 := hide (And.intro G7 (And.intro ps7 (And.intro px7 (And.intro b7' own7))))
      clear c0 hf7 ps7 G6 ps6 px6 b6 b7' own7
      have c0 : w7.cell? ⟨pb + 1, 0, none⟩ = some (.pointer (some ⟨pb, 0, none⟩)) := cell_of_heap px7 0
      have m7 := lt_of_heap px7
      have env7 := HENV.out.fr G7 h3 (fun i hi e => e)
      have ENV7 := hide env7
      clear px7 G7 env7
      go_wp2_with fail
      refine (CT.out w7 H7.out.2.1 ENV7.out h3').mono ?_
      rintro e w8 ⟨e0, e1, e2, e3, a4, n4, c4, a5, n5, c5, a6, n6, c6, rfl, hrt, hf8, ps8⟩
      obtain ⟨G7, ps7, px7, b7', own7⟩ := H7.out
      have G8 : Fr No w w8 := G7.trans' hf8 (fun i hi e => by have e : i = pb := e; have := HPB.out; omega)
      have b8 := fr_heap b7' hf8 (fun e => by have e : w4.heap.size = pb := e; omega)
      have px8 := fr_heap px7 hf8 (fun e => by have e : pb + 1 = pb := e; omega)
      have own8 := row_fr own7 hf8 (fun g hg e => by have := (own7.lt g hg).1; have := H4.out.1.size; have := HPB.out; have e : g = pb := e; omega)
      have s8 := hf8.size
      have H8 := hide (And.intro G8 (And.intro ps8 (And.intro px8 (And.intro b8 (And.intro own8 hrt)))))
      clear c0 hf8 ps8 G8 px7 b7' own7 ps7 G7 own8 hrt
      have c0 : w8.cell? ⟨pb + 1, 0, none⟩ = some (.pointer (some ⟨pb, 0, none⟩)) := cell_of_heap px8 0
      have m8 := lt_of_heap px8
      have z0 := cell_of_heap b8
      have zf := frozen_of_heap b8
      have lb8 := lt_of_heap b8
      clear px8 b8
      go_wp2_with fail
      obtain ⟨W9, hW9⟩ : ∃ W9, W9 = ((((((w8.setCell ⟨w4.heap.size, 2, none⟩ (.int .i64 e0)).setCell ⟨w4.heap.size, 3, none⟩ (.int .i64 e1)).setCell ⟨w4.heap.size, 4, none⟩ (.string e2)).setCell ⟨w4.heap.size, 5, none⟩ (.string e3)).setCell ⟨w4.heap.size, 6, none⟩ (.slice a4 n4 c4)).setCell ⟨w4.heap.size, 7, none⟩ (.slice a5 n5 c5)).setCell ⟨w4.heap.size, 8, none⟩ (.slice a6 n6 c6) := ⟨_, rfl⟩
      rw [← hW9]
      obtain ⟨G8, ps8, px8, b8, own8, hrt⟩ := H8.out
      have f89 : Fr (· = w4.heap.size) w8 W9 := by
        rw [hW9]
        exact (((((((Fr.refl (· = w4.heap.size) w8).setCell (p := ⟨w4.heap.size, 2, none⟩) (.inl rfl) _).setCell (p := ⟨w4.heap.size, 3, none⟩) (.inl rfl) _).setCell (p := ⟨w4.heap.size, 4, none⟩) (.inl rfl) _).setCell (p := ⟨w4.heap.size, 5, none⟩) (.inl rfl) _).setCell (p := ⟨w4.heap.size, 6, none⟩) (.inl rfl) _).setCell (p := ⟨w4.heap.size, 7, none⟩) (.inl rfl) _).setCell (p := ⟨w4.heap.size, 8, none⟩) (.inl rfl) _
      have b9 : W9.heap[w4.heap.size]? = some (.cells #[.string nm, .slice va xs.length vc, .int .i64 e0, .int .i64 e1, .string e2, .string e3, .slice a4 n4 c4, .slice a5 n5 c5, .slice a6 n6 c6] 34 (0, 0)) := by
        rw [hW9]; simp [World.setCell, Array.getElem?_modify, b8, fnCells]
      have px9 := fr_heap px8 f89 (fun e => by have e : pb + 1 = w4.heap.size := e; omega)
      have own9 := row_fr own8 f89 (fun g hg e => by have := (own8.lt g hg).1; have e : g = w4.heap.size := e; omega)
      have s9 := f89.size
      refine (CW4.out _ (ps8.fr f89 (fun e => by have e : pb = w4.heap.size := e; omega))).mono ?_
      rintro e w10 ⟨rfl, hf10, ps10⟩
      have G10 : Fr No w w10 := (G8.trans' f89 (fun i hi e => by have e : i = w4.heap.size := e; have := H4.out.1.size; omega)).trans' hf10 (fun i hi e => by have e : i = pb := e; have := HPB.out; omega)
      have b10 := fr_heap b9 hf10 (fun e => by have e : w4.heap.size = pb := e; omega)
      have px10 := fr_heap px9 hf10 (fun e => by have e : pb + 1 = pb := e; omega)
      have own10 := row_fr own9 hf10 (fun g hg e => by have := (own9.lt g hg).1; have := H4.out.1.size; have := HPB.out; have e : g = pb := e; omega)
      have s10 := hf10.size
      have rt10 : RTS K (New w7 w10) w10 [.int .i64 e0, .int .i64 e1, .string e2, .string e3, .slice a4 n4 c4, .slice a5 n5 c5, .slice a6 n6 c6] t := hrt.kept ⟨by omega, fun i hi hl => ⟨⟨hi.1, by omega⟩, (hf10.block i (by omega) (fun e => by have e : i = pb := e; omega)).trans (f89.block i hl (fun e => by have e : i = w4.heap.size := e; omega))⟩⟩
      have H10 := hide (And.intro G10 (And.intro ps10 (And.intro px10 (And.intro own10 rt10))))
      have q0 : w10.cell? ⟨w4.heap.size, 0, none⟩ = some (.string nm) := cell_of_heap b10 0
      have q1 : w10.cell? ⟨w4.heap.size, 1, none⟩ = some (.slice va xs.length vc) := cell_of_heap b10 1
      have q2 : w10.cell? ⟨w4.heap.size, 2, none⟩ = some (.int .i64 e0) := cell_of_heap b10 2
      have q3 : w10.cell? ⟨w4.heap.size, 3, none⟩ = some (.int .i64 e1) := cell_of_heap b10 3
      have q4 : w10.cell? ⟨w4.heap.size, 4, none⟩ = some (.string e2) := cell_of_heap b10 4
      have q5 : w10.cell? ⟨w4.heap.size, 5, none⟩ = some (.string e3) := cell_of_heap b10 5
      have q6 : w10.cell? ⟨w4.heap.size, 6, none⟩ = some (.slice a4 n4 c4) := cell_of_heap b10 6
      have q7 : w10.cell? ⟨w4.heap.size, 7, none⟩ = some (.slice a5 n5 c5) := cell_of_heap b10 7
      have q8 : w10.cell? ⟨w4.heap.size, 8, none⟩ = some (.slice a6 n6 c6) := cell_of_heap b10 8
      have lb10 := lt_of_heap b10
      obtain ⟨i0, hi, hz0, hz1, hz2⟩ := info_parts Tryz.infoFn
      clear c0 G8 ps8 px8 b8 own8 hrt f89 b9 px9 own9 hW9 hf10 ps10 G10 b10 px10 own10 rt10 z0 zf
      go_wp2_with fail
      have cap1 := grownCap_ge w10 1 0 34
      have cap2 := grownCap_le_maxLen w10 1 0 34 (by unfold maxLen; decide)
      have cdef : (Question.appendCap 1 0 34).cut (w10.tape w10.drawn (Question.appendCap 1 0 34)) = grownCap w10 1 0 34 := rfl
      rw [cdef]
      generalize grownCap w10 1 0 34 = cp at cap1 cap2
      clear cdef
      obtain ⟨W11, hW11⟩ : ∃ W11, W11 = ((w10.alloc (.cells #[.string nm, .slice va xs.length vc, .int .i64 e0, .int .i64 e1, .string e2, .string e3, .slice a4 n4 c4, .slice a5 n5 c5, .slice a6 n6 c6] 34)).alloc (.cells (#[.string nm, .slice va xs.length vc, .int .i64 e0, .int .i64 e1, .string e2, .string e3, .slice a4 n4 c4, .slice a5 n5 c5, .slice a6 n6 c6] ++ Builtin.zeroCells #[.string ⟨#[]⟩, .slice none 0 0, .int .i64 0, .int .i64 0, .string ⟨#[]⟩, .string ⟨#[]⟩, .slice none 0 0, .slice none 0 0, .slice none 0 0] (cp - 1)) 34)).drew := ⟨_, rfl⟩
      rw [← hW11]
      have f11 : Fr No w10 W11 := by rw [hW11]; exact (((Fr.refl No w10).alloc _).alloc _).drew
      have b11 : W11.heap[w10.heap.size + 1]? = some (.cells (#[.string nm, .slice va xs.length vc, .int .i64 e0, .int .i64 e1, .string e2, .string e3, .slice a4 n4 c4, .slice a5 n5 c5, .slice a6 n6 c6] ++ Builtin.zeroCells #[.string ⟨#[]⟩, .slice none 0 0, .int .i64 0, .int .i64 0, .string ⟨#[]⟩, .string ⟨#[]⟩, .slice none 0 0, .slice none 0 0, .slice none 0 0] (cp - 1)) 34 (0, 0)) := by
        rw [hW11]
        have h := heap_alloc_new (w10.alloc (.cells #[.string nm, .slice va xs.length vc, .int .i64 e0, .int .i64 e1, .string e2, .string e3, .slice a4 n4 c4, .slice a5 n5 c5, .slice a6 n6 c6] 34)) (.cells (#[.string nm, .slice va xs.length vc, .int .i64 e0, .int .i64 e1, .string e2, .string e3, .slice a4 n4 c4, .slice a5 n5 c5, .slice a6 n6 c6] ++ Builtin.zeroCells #[.string ⟨#[]⟩, .slice none 0 0, .int .i64 0, .int .i64 0, .string ⟨#[]⟩, .string ⟨#[]⟩, .slice none 0 0, .slice none 0 0, .slice none 0 0] (cp - 1)) 34)
        rw [World.size_alloc] at h
        exact h
      clear hW11
      have l11 := lt_of_heap b11
      have x1 := H4.out.1.size
      have x2 := H6.out.1.size
      have x3 := H7.out.1.size
      have x4 := HPB.out
      have own11 := row_fr H10.out.2.2.2.1 f11 (fun _ _ e => e)
      have hn1 : nm.size ≤ maxLen := by have := pkb_le HO.out.p2; have := HO.out.size; unfold maxLen; omega
      have hsh := HO.out.sh
      go_roundg 1
      case measure => decide
      case rel =>
        obtain ⟨G10, ps10, px10, own10, rt10⟩ := H10.out
        have z11 := f11.size
        refine .inr ⟨rfl, ps10.fr f11 (fun e => e), fr_heap px10 f11 (fun e => e), G10.no f11, [.string nm, .slice va xs.length vc, .int .i64 e0, .int .i64 e1, .string e2, .string e3, .slice a4 n4 c4, .slice a5 n5 c5, .slice a6 n6 c6], ?_, rfl, ?_⟩
        · refine ⟨some ⟨w10.heap.size + 1, 0, none⟩, cp, rfl, cap1, cap2, fun _ => ⟨w10.heap.size + 1, 0, rfl, ⟨⟨by omega, l11⟩, by omega⟩, l11, fun i _ => frozen_of_heap b11 _, fun i hi => ?_⟩⟩
          rw [Nat.zero_add, cell_of_heap b11 i, Array.getElem?_append_left (by simpa using hi)]
          simp
        · exact ⟨.slice va xs.length vc, [.int .i64 e0, .int .i64 e1, .string e2, .string e3, .slice a4 n4 c4, .slice a5 n5 c5, .slice a6 n6 c6], rfl, hn1, own_namesS own11 rfl hsh (fun g h1 h2 => ⟨⟨by omega, h2⟩, by omega⟩), rfl, rt10.kept ⟨z11, fun i hi hl => ⟨⟨⟨by omega, by omega⟩, by omega⟩, f11.block i hl (fun e => e)⟩⟩⟩
    · have c0 : wr.cell? ⟨pb + 1, 0, none⟩ = some (.pointer (some ⟨pb, 0, none⟩)) := cell_of_heap hpx 0
      have c1 : wr.cell? ⟨pb, 2, none⟩ = some (.int .i64 0) := cell_of_heap hps 2
      have l1 := lt_of_heap hps
      have l2 := lt_of_heap hpx
      have HR := hide (And.intro hps (And.intro hpx (And.intro hfr (And.intro hrow (And.intro hcl hrf)))))
      clear hps hpx hfr hrow hrf
      go_wp2_with fail
      refine (CP9.out _ HR.out.1).mono ?_
      rintro e w1 ⟨rfl, hf1, ps1⟩
      obtain ⟨hps, hpx, hfr, hrow, hcl, hrf⟩ := HR.out
      have px1 := fr_heap hpx hf1 (fun e => by have e : pb + 1 = pb := e; omega)
      have HF1 := hide hf1
      have c2 : w1.cell? ⟨pb + 1, 0, none⟩ = some (.pointer (some ⟨pb, 0, none⟩)) := cell_of_heap px1 0
      have c3 : w1.cell? ⟨pb, 2, none⟩ = some (.int .i64 0) := cell_of_heap ps1 2
      have l3 := lt_of_heap ps1
      have l4 := lt_of_heap px1
      obtain ⟨va, vc, rfl, _, _⟩ := hrow.form
      clear c0 c1 hps hpx hfr hrow hrf hf1 ps1 px1
      go_wp2_with fail
      go_ret2
      obtain ⟨hps, hpx, hfr, hrow, hcl, hrf⟩ := HR.out
      have z1 := HF1.out.size
      have st : Stays (fun i => (w.heap.size ≤ i ∧ i < wr.heap.size) ∧ i ≠ pb) (New w w1) wr w1 := ⟨z1, fun i hi hl => ⟨⟨hi.1.1, by omega⟩, HF1.out.block i hl hi.2⟩⟩
      obtain ⟨pv, bb, hcs, hn, hnames, hb, hrt⟩ := hrf
      exact ⟨_, cs, rfl, hfr.trans' HF1.out (fun i hi e => by have e : i = pb := e; have := HPB.out; omega), hrow.kept st, hcl, pv, bb, hcs, hn, ⟨hnames.1.kept st, hnames.2⟩, hb, hrt.kept st⟩
end Go.Proofs.YtomahbdidlglfacGreatDoor

/- own: 'All' at one function, walked. -/
namespace Go.Proofs.YtomahbdidlglfacGreatDoor
open Go.RowKit Go.Maps Go.WideMaps

set_option maxRecDepth 100000 in
set_option maxHeartbeats 4000000 in
theorem ownAll_one (k : Nat) (f : Pu.Fn k) (t' : Tm) (hst : StepC k f.2.2 t') (B : Nat) (v : Value) (w : World) (hl : Fns k B w v [f]) (hB : B ≤ w.heap.size) (hw : wf f ≤ 1073741824) :
    Calls Tryz.prog 33 #[v] w fun e w' => ∃ a c, e = .returned (.slice a 1 c) ∧ Fr No w w' := by
  have hform : ∃ a cap, v = .slice a 1 cap ∧ 1 ≤ cap ∧ cap ≤ maxLen := by obtain ⟨acs, hr, _⟩ := hl; exact hr.form
  obtain ⟨a0, cp0, rfl, hcp1, hcp2⟩ := hform
  unfold maxLen at hcp2
  obtain ⟨g, o, cap, ag, an, ac, kd', n', x', y', b0, n0, e0, b1, n1, e1, b2, n2, e2, hav, hcap, hg', hgw, hnm, han, hxn, hrt, hcell⟩ := fns_at hl 0 (by simp)
  injection hav with hav1 hle hav2
  clear hle
  subst hav1 hav2
  simp only [List.getElem_cons_zero, Nat.zero_mul, Nat.add_zero] at hnm han hxn hrt hcell
  subst han
  have HRF : RF k B w [.string f.1, .slice ag f.2.1.length ac, .int .i64 kd', .int .i64 n', .string x', .string y', .slice b0 n0 e0, .slice b1 n1 e1, .slice b2 n2 e2] f := ⟨_, _, rfl, hxn, hnm, rfl, hrt⟩
  have CFN : Hid (∀ W, Fr No w W → Calls Tryz.prog 14 #[.agg #[.string f.1, .slice ag f.2.1.length ac, .int .i64 kd', .int .i64 n', .string x', .string y', .slice b0 n0 e0, .slice b1 n1 e1, .slice b2 n2 e2]] W fun e w' => (∃ pa pc kd n x y a0 n0 c0 a1 n1 c1 a2 n2 c2, e = .returned (.agg #[.string f.1, .slice pa f.2.1.length pc, .int .i64 kd, .int .i64 n, .string x, .string y, .slice a0 n0 c0, .slice a1 n1 c1, .slice a2 n2 c2])) ∧ Fr No W w') := fun W hW =>
    (ownFn_any' k f t' hst B W _ (HRF.kept (hW.old hB (fun _ _ e => e)) (Nat.le_refl _) hW.size) (Nat.le_trans hB hW.size) hw).mono fun e w' ⟨pa, pc, kd, n, x, y, a0, n0, c0, a1, n1, c1, a2, n2, c2, he, hf, _⟩ => ⟨⟨pa, pc, kd, n, x, y, a0, n0, c0, a1, n1, c1, a2, n2, c2, he⟩, hf⟩
  obtain ⟨i0, hi, hz0, hz1, hz2⟩ := info_parts Tryz.info34
  obtain ⟨m, hm⟩ : ∃ m : Nat, m = 1 := ⟨_, rfl⟩
  have HM := hide hm
  show Calls Tryz.prog 33 #[.slice (some ⟨g, o, none⟩) 1 cp0] w fun e w' => ∃ a c, e = .returned (.slice a 1 c) ∧ Fr No w w'
  rw [← hm]
  rw [← hm] at hcp1
  have hm0 : ¬ (m : Int) = 0 := by omega
  have hmk : ∀ u : World, (Instr.makeSlice 22 (.int .i64 (m : Int)) (.int .i64 (m : Int))).run Tryz.prog u =
      .ok (.slice (some ⟨u.heap.size, 0, none⟩) m m) (u.alloc (.cells (madeCells #[.string ⟨#[]⟩, .slice none 0 0, .int .i64 0, .int .i64 0, .string ⟨#[]⟩, .string ⟨#[]⟩, .slice none 0 0, .slice none 0 0, .slice none 0 0] (m * 9)) 34)) := fun u => by
    have h := run_make (P := Tryz.prog) u 22 34 i0 _ Tryz.underlying22 hi hz0 .i64 .i64 (m : Int) (m : Int) (by omega) (Int.le_refl _) (by rw [hz2]; omega) (by omega)
    rw [Int.toNat_natCast] at h
    simpa [hz1, Value.cells] using h
  have HC := hide hcell
  clear hl hst hnm hxn hrt HRF hcell hm
  go_enter Tryz.func33, Tryz.ntmps33
  go_wp2_with fail
  clear hmk hm0
  go_loopw [11] (fun q wr => (q = .int .i64 0 ∨ q = .int .i64 1) ∧ Fr No w wr ∧ ∃ cur, wr.heap[w.heap.size]? = some (.cells cur 34 (0, 0)) ∧ cur.size = m * 9) (fun q _ => 1 - (intOf q).toNat)
  case atStart => exact ⟨.inl rfl, (Fr.refl No w).alloc _, _, heap_alloc_new _ _, size_madeCells _ _⟩
  case round =>
    obtain ⟨hq, hf, cur, hg, hsz⟩ := hrel
    rcases hq with rfl | rfl
    · have i1 : (0 : Int) < (m : Int) := by have := HM.out; omega
      have hsz9 : cur.size = 9 := by have := HM.out; omega
      have hcw : ∀ j, j < 9 → wr.cell? ⟨g, o + j, none⟩ = [Value.string f.1, .slice ag f.2.1.length ac, .int .i64 kd', .int .i64 n', .string x', .string y', .slice b0 n0 e0, .slice b1 n1 e1, .slice b2 n2 e2][j]? := fun j hj => by
        rw [show wr.cell? ⟨g, o + j, none⟩ = w.cell? ⟨g, o + j, none⟩ from by simp only [World.cell?, hf.block g hgw (fun e => e)]]; exact HC.out j hj
      have q0 : wr.cell? ⟨g, o, none⟩ = some (.string f.1) := hcw 0 (by omega)
      have q1 := hcw 1 (by omega)
      have q2 := hcw 2 (by omega)
      have q3 := hcw 3 (by omega)
      have q4 := hcw 4 (by omega)
      have q5 := hcw 5 (by omega)
      have q6 := hcw 6 (by omega)
      have q7 := hcw 7 (by omega)
      have q8 := hcw 8 (by omega)
      have hgl : g < wr.heap.size := Nat.lt_of_lt_of_le hgw hf.size
      have HF := hide hf
      have HG := hide hg
      clear hcw hf hg
      go_wp2_with fail
      refine (CFN.out _ (by first | exact HF.out.alloc _ | exact HF.out)).mono ?_
      rintro e w1 ⟨⟨pa, pc, kd2, m2, x2, y2, p0, r0, s0, p1, r1, s1, p2, r2, s2, rfl⟩, hf1⟩
      have F1 : Fr No w w1 := (HF.out.alloc _).trans hf1
      have g1 := fr_heap HG.out (((Fr.refl No wr).alloc _).trans hf1) (fun e => e)
      obtain ⟨u0, hu0⟩ := some_at g1 (o := 0) (by omega)
      obtain ⟨u1, hu1⟩ := some_at g1 (o := 1) (by omega)
      obtain ⟨u2, hu2⟩ := some_at g1 (o := 2) (by omega)
      obtain ⟨u3, hu3⟩ := some_at g1 (o := 3) (by omega)
      obtain ⟨u4, hu4⟩ := some_at g1 (o := 4) (by omega)
      obtain ⟨u5, hu5⟩ := some_at g1 (o := 5) (by omega)
      obtain ⟨u6, hu6⟩ := some_at g1 (o := 6) (by omega)
      obtain ⟨u7, hu7⟩ := some_at g1 (o := 7) (by omega)
      obtain ⟨u8, hu8⟩ := some_at g1 (o := 8) (by omega)
      have z1 := frozen_of_heap g1
      have G1 := hide g1
      have HF1 := hide F1
      have lw := lt_of_heap g1
      clear g1 F1 hf1 CFN q0 q1 q2 q3 q4 q5 q6 q7 q8
      go_wp2_with fail
      go_roundw
      case rel =>
        obtain ⟨cur', c1, c2, c3, c4, c5⟩ := sets_heap w.heap.size 34 (0, 0) [.string f.1, .slice pa f.2.1.length pc, .int .i64 kd2, .int .i64 m2, .string x2, .string y2, .slice p0 r0 s0, .slice p1 r1 s1, .slice p2 r2 s2] 0 w1 cur G1.out (by simp; omega)
        exact ⟨.inr rfl, HF1.out.trans' c5 (fun j hj e => by have e : j = w.heap.size := e; omega), cur', c1, by omega⟩
      case measure => decide
    · have i1 : ¬ (1 : Int) < (m : Int) := by have := HM.out; omega
      have HF := hide hf
      clear hf hg
      go_wp2_with fail
      go_ret
      first
        | exact ⟨_, _, rfl, HF.out⟩
        | exact ⟨⟨_, _, rfl⟩, HF.out⟩
        | (rw [HM.out]; exact ⟨_, _, rfl, HF.out⟩)
end Go.Proofs.YtomahbdidlglfacGreatDoor

/- The document's 'Show', walked: terms without Vars and cases. -/
namespace Go.Proofs.YtomahbdidlglfacGreatDoor
open Go.RowKit Go.Maps Go.WideMaps

/-- t is shown as s. -/
def ShC (k : Nat) (t : Pu.TT k) (s : ByteArray) : Prop := ∀ (B : Nat) (w : World) (cs : List Value), RT k B w cs t → B ≤ w.heap.size → Env w → 3 ≤ w.heap.size →
  Calls Tryz.prog 32 #[.agg cs.toArray] w fun e w' => e = .returned (.string s) ∧ Fr No w w'

/-- What the first arguments are shown as. -/
def asTo (ss : List ByteArray) (i : Nat) : ByteArray := (ss.take i).foldl (fun a s => a ++ ⟨#[32]⟩ ++ s) ⟨#[]⟩
theorem asTo_succ (ss : List ByteArray) (i : Nat) (h : i < ss.length) : asTo ss (i + 1) = asTo ss i ++ ⟨#[32]⟩ ++ ss[i] := by
  unfold asTo
  rw [List.take_succ_eq_append_getElem h, List.foldl_append]
  rfl
def asAll (ss : List ByteArray) : ByteArray := asTo ss ss.length

/-- What a term is shown as. -/
def shown (kd n : Int) (nm az : ByteArray) : ByteArray :=
  if kd = 1 then nm
  else if kd = 2 then ⟨(Lib.itoa n).toArray⟩
  else if kd = 3 then ⟨#[40]⟩ ++ (⟨#[35]⟩ ++ ⟨(Lib.itoa n).toArray⟩) ++ az ++ ⟨#[41]⟩
  else if kd = 4 then ⟨#[40]⟩ ++ nm ++ az ++ ⟨#[41]⟩
  else if kd = 6 then ⟨#[40, 108, 101, 116, 32]⟩ ++ nm ++ az ++ ⟨#[41]⟩
  else if kd = 8 then ⟨#[40, 100, 117, 112, 32]⟩ ++ nm ++ az ++ ⟨#[41]⟩
  else ⟨#[40, 100, 114, 111, 112, 32]⟩ ++ nm ++ az ++ ⟨#[41]⟩

theorem wf_bounds {n : Int} (h : (Lit.int .i64 n).wf = true) : -9223372036854775808 ≤ n ∧ n ≤ 9223372036854775807 := by
  exact (Lit.wf_int_iff .i64 n).1 h
theorem itoa_sizeS {n : Int} (h0 : -9223372036854775808 ≤ n) (h1 : n ≤ 9223372036854775807) : (⟨(Lib.itoa n).toArray⟩ : ByteArray).size ≤ 21 := by
  show (Lib.itoa n).toArray.size ≤ 21
  rw [List.size_toArray]
  exact Lib.itoa_length_le n h0 h1

set_option maxRecDepth 100000 in
set_option maxHeartbeats 4000000 in
theorem show_node (k : Nat) (nd : Pu.Node (Pu.TT k)) (ss : List ByteArray) (hv : nd.vars.length = 0) (hns : nd.name.size ≤ 1000000) (hk : nd.kind = 1 ∨ nd.kind = 2 ∨ nd.kind = 3 ∨ nd.kind = 4 ∨ nd.kind = 6 ∨ nd.kind = 8 ∨ nd.kind = 9) (hl : ss.length = nd.args.length) (hs : ∀ i (h : i < nd.args.length), ShC k nd.args[i] (ss[i]'(by omega)))
    (hsm : ∀ i, i ≤ ss.length → (asTo ss i).size ≤ 1000000) (hss : ∀ x ∈ ss, x.size ≤ 1000000) : ShC (k + 1) nd (shown nd.kind nd.n nd.name (asAll ss)) := by
  intro B w cs ht hB henv h3
  obtain ⟨vv, av, cv, acs, ccs, rfl, hnm, hwf, hvars, hr, he, hq, hf⟩ := ht
  obtain ⟨a0, d0, rfl, _⟩ := hvars.1.form
  obtain ⟨a1, d1, rfl, hd1, hd1'⟩ := hr.form
  obtain ⟨a2, d2, rfl, _, _⟩ := hq.form
  obtain ⟨kd, hkd⟩ : ∃ kd, kd = nd.kind := ⟨_, rfl⟩
  rw [← hkd] at hk ⊢
  have HR := hide hr
  have HE := hide he
  have HS := hide hs
  have HSM := hide hsm
  have HSS := hide hss
  have HENV := hide henv
  have HNM := hide hnm
  have HK := hide hk
  have HWF := hide hwf
  unfold maxLen at hd1'
  clear hr he hq hf hs hsm hss henv hvars hnm hk hwf hkd
  rw [hv]
  obtain ⟨W1, hW1⟩ : ∃ W1, W1 = w.alloc (.cells #[.int .i64 kd, .int .i64 nd.n, .string nd.name, .string nd.token, .slice a0 0 d0, .slice a1 nd.args.length d1, .slice a2 nd.cases.length d2] 32) := ⟨_, rfl⟩
  have hbx : W1.heap[w.heap.size]? = some (.cells #[.int .i64 kd, .int .i64 nd.n, .string nd.name, .string nd.token, .slice a0 0 d0, .slice a1 nd.args.length d1, .slice a2 nd.cases.length d2] 32 (0, 0)) := by rw [hW1]; exact heap_alloc_new _ _
  have HBX := hide hbx
  have FA : Hid (Fr No w W1) := by rw [hW1]; exact (Fr.refl No w).alloc _
  have hb0 := cell_of_heap hbx
  clear hbx
  show Calls Tryz.prog 32 #[.agg #[.int .i64 kd, .int .i64 nd.n, .string nd.name, .string nd.token, .slice a0 0 d0, .slice a1 nd.args.length d1, .slice a2 nd.cases.length d2]] w _
  rw [hW1] at hb0
  go_enter Tryz.func32, Tryz.ntmps32
  go_wp2_with fail
  rw [← hW1]
  clear hW1 hb0
  go_loopw [3, 18] (fun v q wr => ∃ i : Nat, i ≤ nd.args.length ∧ q = .int .i64 i ∧ v = .string (asTo ss i) ∧ Fr No W1 wr) (fun _ q _ => nd.args.length - (intOf q).toNat)
  case atStart => exact ⟨0, Nat.zero_le _, rfl, rfl, Fr.refl _ _⟩
  case round =>
    obtain ⟨i, hi, rfl, rfl, hfr⟩ := hrel
    have hszw := hfr.size
    have hszA := FA.out.size
    have hal := HSM.out i (by omega)
    by_cases hlt : i < nd.args.length
    · have ho : Old B w wr := (FA.out.trans hfr).old hB (fun _ _ e => e)
      obtain ⟨g, o, cap1, kd', n', x', y', b0, n0, e0, b1, n1, e1, b2, n2, e2, hav, hcap, hg, hgw, hrt, hcell⟩ := args_at HR.out HE.out i hlt
      injection hav with hav1 _ hav2
      subst hav1 hav2
      have hcw : ∀ j, j < 7 → wr.cell? ⟨g, o + i * 7 + j, none⟩ = [Value.int .i64 kd', .int .i64 n', .string x', .string y', .slice b0 n0 e0, .slice b1 n1 e1, .slice b2 n2 e2][j]? := fun j hj => by
        rw [ho.cell (a := ⟨g, o + i * 7 + j, none⟩) hg]; exact hcell j hj
      have q0 : wr.cell? ⟨g, o + i * 7, none⟩ = some (.int .i64 kd') := hcw 0 (by omega)
      have q1 := hcw 1 (by omega)
      have q2 := hcw 2 (by omega)
      have q3 := hcw 3 (by omega)
      have q4 := hcw 4 (by omega)
      have q5 := hcw 5 (by omega)
      have q6 := hcw 6 (by omega)
      have hgl : g < wr.heap.size := by omega
      have hsu := asTo_succ ss i (by omega)
      have hsx := HSS.out (ss[i]'(by omega)) (List.getElem_mem _)
      have CALL : Hid (∀ W, Fr No wr W → Calls Tryz.prog 32 #[.agg #[.int .i64 kd', .int .i64 n', .string x', .string y', .slice b0 n0 e0, .slice b1 n1 e1, .slice b2 n2 e2]] W fun e w' => e = .returned (.string (ss[i]'(by omega))) ∧ Fr No W w') := fun W hW =>
        HS.out i hlt B W _ (hrt.old (ho.trans (hW.old (by omega) (fun _ _ e => e))) (by have := hW.size; omega)) (by have := hW.size; omega) (HENV.out.fr ((FA.out.trans hfr).trans hW) h3 (fun _ _ e => e)) (by have := hW.size; omega)
      obtain ⟨s, hs⟩ : ∃ s, s = ss[i]'(by omega) := ⟨_, rfl⟩
      rw [← hs] at hsu hsx CALL
      obtain ⟨az, has⟩ : ∃ az, az = asTo ss i := ⟨_, rfl⟩
      rw [← has] at hsu hal ⊢
      have HSU := hide hsu
      have HFR := hide hfr
      clear hcw hcell hrt hfr ho hs hsu has
      have i1 : (i : Int) < (nd.args.length : Int) := by omega
      have i0 : (0 : Int) ≤ (i : Int) := by omega
      go_wp2_with fail
      refine (CALL.out _ ?_).mono ?_
      · repeat (first | exact Fr.refl _ _ | apply Fr.alloc)
      rintro e w2 ⟨rfl, h4⟩
      have H4 := hide h4
      clear h4
      go_wp2_with fail
      go_roundw
      case rel => exact ⟨i + 1, by omega, by go_num, by rw [HSU.out], (HFR.out.alloc _).trans H4.out⟩
      case measure => simp [intOf]; omega
    · have hil : i = nd.args.length := by omega
      subst hil
      have hb1 := cell_of_heap (fr_heap HBX.out hfr (fun e => e))
      have hlb := lt_of_heap (fr_heap HBX.out hfr (fun e => e))
      have HF := hide (FA.out.trans hfr)
      have HBX2 := hide (fr_heap HBX.out hfr (fun e => e))
      have HAL : Hid (asTo ss nd.args.length = asAll ss) := by unfold asAll; rw [hl]; exact rfl
      rw [HAL.out] at hal ⊢
      obtain ⟨az, has⟩ : ∃ az, az = asAll ss := ⟨_, rfl⟩
      rw [← has] at hal ⊢
      have HAZ := hide has
      clear hfr HAL has
      go_wp2_with fail
      obtain ⟨W2, hW2⟩ : ∃ W2, W2 = wr := ⟨_, rfl⟩
      rw [← hW2] at HF hb1 hlb hszw HBX2 ⊢
      clear hW2 hb1 hlb hszw
      go_loopw [31] (fun q wr' => q = .int .i64 0 ∧ Fr No W2 wr') (fun _ _ => 0)
      case atStart => exact ⟨rfl, Fr.refl _ _⟩
      case round =>
        obtain ⟨rfl, hf2⟩ := hrel
        have hb2 := cell_of_heap (fr_heap HBX2.out hf2 (fun e => e))
        have hlb2 := lt_of_heap (fr_heap HBX2.out hf2 (fun e => e))
        have HF2 := hide (HF.out.trans hf2)
        have HBX3 := hide (fr_heap HBX2.out hf2 (fun e => e))
        have hw64 : -9223372036854775808 ≤ nd.n ∧ nd.n ≤ 9223372036854775807 := wf_bounds HWF.out
        have CI : Hid (∀ W, Fr No w W → Calls Tryz.prog 62 #[.int .i64 nd.n] W fun e w' => e = .returned (.string ⟨(Lib.itoa nd.n).toArray⟩) ∧ Fr No W w') := fun W hW => itoa_any nd.n W hw64.1 hw64.2 (HENV.out.fr hW h3 (fun _ _ e => e))
        have hil : (⟨(Lib.itoa nd.n).toArray⟩ : ByteArray).size ≤ 21 := itoa_sizeS hw64.1 hw64.2
        obtain ⟨it, hit⟩ : ∃ it : ByteArray, it = ⟨(Lib.itoa nd.n).toArray⟩ := ⟨_, rfl⟩
        rw [← hit] at CI hil
        have hnm2 := HNM.out
        have HIT := hide hit
        clear hf2 hw64 hit
        go_wp2_with fail
        refine (CI.out _ HF2.out).mono ?_
        rintro e w3 ⟨rfl, hf3⟩
        have HF3 := hide (HF2.out.trans hf3)
        have hb3 := cell_of_heap (fr_heap HBX3.out hf3 (fun e => e))
        have hlb3 := lt_of_heap (fr_heap HBX3.out hf3 (fun e => e))
        clear hf3 hb2
        have hk := HK.out
        unfold maxLen at hnm2
        rcases hk with h | h | h | h | h | h | h
        · subst h
          go_wp2_with fail
          go_ret
          exact ⟨rfl, HF3.out⟩
        · subst h
          go_wp2_with fail
          refine (CI.out _ HF3.out).mono ?_
          rintro e w4 ⟨rfl, hf4⟩
          have HF4 := hide (HF3.out.trans hf4)
          clear hf4
          go_wp2_with fail
          go_ret
          exact ⟨by rw [HIT.out]; rfl, HF4.out⟩
        · subst h
          go_wp2_with fail
          go_ret
          exact ⟨by rw [HIT.out, HAZ.out]; rfl, HF3.out⟩
        · subst h
          go_wp2_with fail
          go_ret
          exact ⟨by rw [HAZ.out]; rfl, HF3.out⟩
        · subst h
          go_wp2_with fail
          go_ret
          exact ⟨by rw [HAZ.out]; rfl, HF3.out⟩
        · subst h
          go_wp2_with fail
          go_ret
          exact ⟨by rw [HAZ.out]; rfl, HF3.out⟩
        · subst h
          go_wp2_with fail
          go_ret
          exact ⟨by rw [HAZ.out]; rfl, HF3.out⟩
end Go.Proofs.YtomahbdidlglfacGreatDoor
