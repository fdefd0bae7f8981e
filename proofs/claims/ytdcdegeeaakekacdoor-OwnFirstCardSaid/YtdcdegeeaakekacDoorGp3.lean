/- The document's reader: a text of one function, of any parameters. -/
import Derived.Test.YtdcdegeeaakekacDoorG4
import Derived.Test.YtdcdegeeaakekacDoorGp1Gp2
namespace Go.Proofs.YtdcdegeeaakekacDoor
open Go.RowKit Go.Maps Go.WideMaps

/-- The words of a text of one function. -/
structure OneN (S nm : ByteArray) (xs : List ByteArray) (K b0 b1 b2 b3 b5 c7 b7 : Nat) (t : Pu.TT K) : Prop where
  size : S.size ≤ 1500
  p0 : pkb S 0 b0 (b0 + 1) = true
  x0 : wd S b0 (b0 + 1) = ⟨#[40]⟩
  p1 : pkb S (b0 + 1) b1 (b1 + 2) = true
  x1 : wd S b1 (b1 + 2) = ⟨#[102, 110]⟩
  p2 : pkb S (b1 + 2) b2 (b2 + nm.size) = true
  x2 : wd S b2 (b2 + nm.size) = nm
  n2 : isName nm = true
  m2 : 0 < nm.size
  p3 : pkb S (b2 + nm.size) b3 (b3 + 1) = true
  x3 : wd S b3 (b3 + 1) = ⟨#[40]⟩
  ps : RdN S (b3 + 1) xs b5
  pl : xs.length ≤ 1000
  sh : Short xs
  t6 : ∀ pb, RdT K pb S b5 c7 0 t
  p7 : pkb S c7 b7 (b7 + 1) = true
  x7 : wd S b7 (b7 + 1) = ⟨#[41]⟩
  p8 : pkb S (b7 + 1) S.size S.size = true
  x8 : wd S S.size S.size = ⟨#[]⟩

set_option maxRecDepth 100000 in
set_option maxHeartbeats 4000000 in
theorem parse_fn {S nm : ByteArray} {xs : List ByteArray} {K b0 b1 b2 b3 b5 c7 b7 : Nat} {t : Pu.TT K} (o : OneN S nm xs K b0 b1 b2 b3 b5 c7 b7 t) (w : World) (henv : Env w) (h3 : 3 ≤ w.heap.size) :
    Calls Tryd.prog 44 #[.string S] w fun e w' => ∃ v cs, e = .returned (.tuple #[v, .int .i64 0]) ∧ Fr No w w' ∧ RowS (New w w') w' v 1 cs ∧ cs.length = 9 ∧ RFS K (New w w') w' cs (nm, xs, t) := by
  have h1 : ¬ (1500 : Int) < (S.size : Int) := by have := o.size; omega
  have hS : S.size ≤ 1600 := by have := o.size; omega
  obtain ⟨pb, hpb⟩ : ∃ pb, pb = w.heap.size := ⟨_, rfl⟩
  have CP1 : Hid (∀ W, PS pb S 0 0 W → Calls Tryd.prog 70 #[.pointer (some ⟨pb, 0, none⟩)] W fun r w' => r = .returned (.string ⟨#[40]⟩) ∧ Fr (· = pb) W w' ∧ PS pb S b0 0 w') := fun W h => by rw [← o.x0]; exact peek_any pb S 0 b0 (b0 + 1) 0 W h hS o.p0
  have CW1 : Hid (∀ W, PS pb S b0 0 W → Calls Tryd.prog 71 #[.pointer (some ⟨pb, 0, none⟩), .string ⟨#[40]⟩] W fun r w' => r = .returned (.tuple #[]) ∧ Fr (· = pb) W w' ∧ PS pb S (b0 + 1) 0 w') := fun W h => pwant_any pb S ⟨#[40]⟩ b0 b0 (b0 + 1) 0 W h hS (pkb_self o.p0) (by omega) (by have := pkb_le o.p0; omega) o.x0
  have CW2 : Hid (∀ W, PS pb S (b0 + 1) 0 W → Calls Tryd.prog 71 #[.pointer (some ⟨pb, 0, none⟩), .string ⟨#[102, 110]⟩] W fun r w' => r = .returned (.tuple #[]) ∧ Fr (· = pb) W w' ∧ PS pb S (b1 + 2) 0 w') := fun W h => pwant_any pb S ⟨#[102, 110]⟩ (b0 + 1) b1 (b1 + 2) 0 W h hS o.p1 (by omega) (by have := pkb_le o.p1; omega) o.x1
  have CNM : Hid (∀ W, PS pb S (b1 + 2) 0 W → Calls Tryd.prog 72 #[.pointer (some ⟨pb, 0, none⟩)] W fun r w' => r = .returned (.string nm) ∧ Fr (· = pb) W w' ∧ PS pb S (b2 + nm.size) 0 w') := fun W h => by
    have := pname_any pb S (b1 + 2) b2 (b2 + nm.size) 0 W h hS o.p2 (by have := o.m2; omega) (by have := pkb_le o.p2; omega) (by rw [o.x2]; exact o.n2)
    rw [o.x2] at this
    exact this
  have CW3 : Hid (∀ W, PS pb S (b2 + nm.size) 0 W → Calls Tryd.prog 71 #[.pointer (some ⟨pb, 0, none⟩), .string ⟨#[40]⟩] W fun r w' => r = .returned (.tuple #[]) ∧ Fr (· = pb) W w' ∧ PS pb S (b3 + 1) 0 w') := fun W h => pwant_any pb S ⟨#[40]⟩ (b2 + nm.size) b3 (b3 + 1) 0 W h hS o.p3 (by omega) (by have := pkb_le o.p3; omega) o.x3
  have CM : Hid (∀ W fb pbx, PS pb S (b3 + 1) 0 W → W.heap[fb]? = some (.cells (fnCells nm (.slice none 0 0)) 33 (0, 0)) → W.heap[pbx]? = some (.cells #[.pointer (some ⟨pb, 0, none⟩)] 97 (0, 0)) → fb + 1 ≤ W.heap.size → pb < fb → pbx < fb → pbx ≠ pb → Calls Tryd.prog 73 #[.pointer (some ⟨pb, 0, none⟩), .func (.func 74) #[] #[.pointer (some ⟨fb, 0, none⟩), .pointer (some ⟨pbx, 0, none⟩)]] W fun e w' => e = .returned (.tuple #[]) ∧ Fr (fun i => i = pb ∨ i = fb ∨ fb + 1 ≤ i) W w' ∧ PS pb S b5 0 w' ∧
      ∃ v', w'.heap[fb]? = some (.cells (fnCells nm v') 33 (0, 0)) ∧ w'.ownsRow (fb + 1) 9 1 v' xs.length (xs.map .string)) := fun W fb pbx h hf hx e1 e2 e3 e4 =>
    manyN_any (fb + 1) fb pbx pb S nm (b3 + 1) b5 (.slice none 0 0) xs W h hS o.ps hf hx (World.ownsRow_nil _ _ _ _) e1 (by omega) (by omega) (by omega) (by omega) e4 (by omega) o.pl
  have CT : Hid (∀ W, PS pb S b5 0 W → Env W → 3 ≤ pb → Calls Tryd.prog 75 #[.pointer (some ⟨pb, 0, none⟩), .int .i64 0] W fun e w' => ∃ e0 e1 e2 e3 a4 n4 c4 a5 n5 c5 a6 n6 c6, e = .returned (.agg #[.int .i64 e0, .int .i64 e1, .string e2, .string e3, .slice a4 n4 c4, .slice a5 n5 c5, .slice a6 n6 c6]) ∧ RTS K (New W w') w' [.int .i64 e0, .int .i64 e1, .string e2, .string e3, .slice a4 n4 c4, .slice a5 n5 c5, .slice a6 n6 c6] t ∧ Fr (· = pb) W w' ∧ PS pb S c7 0 w') := fun W hp he h3 => by
    refine (o.t6 pb W hp he h3).mono ?_
    rintro e w' ⟨cs, he, hrt, hf, hp'⟩
    obtain ⟨e0, e1, e2, e3, a4, n4, c4, a5, n5, c5, a6, n6, c6, rfl⟩ := hrt.form
    exact ⟨e0, e1, e2, e3, a4, n4, c4, a5, n5, c5, a6, n6, c6, he, hrt, hf, hp'⟩
  have CW4 : Hid (∀ W, PS pb S c7 0 W → Calls Tryd.prog 71 #[.pointer (some ⟨pb, 0, none⟩), .string ⟨#[41]⟩] W fun r w' => r = .returned (.tuple #[]) ∧ Fr (· = pb) W w' ∧ PS pb S (b7 + 1) 0 w') := fun W h => pwant_any pb S ⟨#[41]⟩ c7 b7 (b7 + 1) 0 W h hS o.p7 (by omega) (by have := pkb_le o.p7; omega) o.x7
  have CP9 : Hid (∀ W, PS pb S (b7 + 1) 0 W → Calls Tryd.prog 70 #[.pointer (some ⟨pb, 0, none⟩)] W fun r w' => r = .returned (.string ⟨#[]⟩) ∧ Fr (· = pb) W w' ∧ PS pb S S.size 0 w') := fun W h => by rw [← o.x8]; exact peek_any pb S (b7 + 1) S.size S.size 0 W h hS o.p8
  have HO := hide o
  have HENV := hide henv
  clear o henv hS
  go_enter Tryd.func44, Tryd.ntmps44
  go_wp2_with fail
  rw [← hpb]
  obtain ⟨W0, hW0⟩ : ∃ W0, W0 = ((w.alloc (.cells #[.string S, .int .i64 0, .int .i64 0] 99)).alloc (.cells #[.pointer (some ⟨pb, 0, none⟩)] 97)) := ⟨_, rfl⟩
  rw [← hW0]
  have f0 : Fr No w W0 := by rw [hW0]; exact ((Fr.refl No w).alloc _).alloc _
  have ps0 : PS pb S 0 0 W0 := by
    rw [hW0, hpb]
    exact fr_heap (heap_alloc_new w _) ((Fr.refl No _).alloc _) (fun e => e)
  have px0 : W0.heap[pb + 1]? = some (.cells #[.pointer (some ⟨pb, 0, none⟩)] 97 (0, 0)) := by
    have h := heap_alloc_new (w.alloc (.cells #[.string S, .int .i64 0, .int .i64 0] 99)) (.cells #[.pointer (some ⟨pb, 0, none⟩)] 97)
    rw [World.size_alloc, ← hpb, ← hW0] at h
    exact h
  have F0 := hide f0
  have PS0 := hide ps0
  have PX0 := hide px0
  have HPB := hide hpb
  have l0 := lt_of_heap px0
  have h3' : 3 ≤ pb := by omega
  clear f0 ps0 px0 hW0 hpb
  go_loopg [5] 2 (fun gn v wr => (gn = 2 ∧ v = .slice none 0 0 ∧ wr = W0) ∨ (gn = 1 ∧ PS pb S (b7 + 1) 0 wr ∧ wr.heap[pb + 1]? = some (.cells #[.pointer (some ⟨pb, 0, none⟩)] 97 (0, 0)) ∧ Fr No w wr ∧ ∃ cs, RowS (fun i => (w.heap.size ≤ i ∧ i < wr.heap.size) ∧ i ≠ pb) wr v 1 cs ∧ cs.length = 9 ∧ RFS K (fun i => (w.heap.size ≤ i ∧ i < wr.heap.size) ∧ i ≠ pb) wr cs (nm, xs, t)))
  case atStart => exact .inl ⟨rfl, rfl, rfl⟩
  case round =>
    rcases hrel with ⟨rfl, rfl, hw⟩ | ⟨rfl, hps, hpx, hfr, cs, hrow, hcl, hrf⟩
    · have hw' := hw.symm
      clear hw
      subst hw'
      have c0 : W0.cell? ⟨pb + 1, 0, none⟩ = some (.pointer (some ⟨pb, 0, none⟩)) := cell_of_heap PX0.out 0
      have c1 : W0.cell? ⟨pb, 2, none⟩ = some (.int .i64 0) := cell_of_heap PS0.out 2
      have l1 := lt_of_heap PS0.out
      go_wp2_with fail
      refine (CP1.out _ PS0.out).mono ?_
      rintro e w1 ⟨rfl, hf1, ps1⟩
      have px1 := fr_heap PX0.out hf1 (fun e => by have e : pb + 1 = pb := e; omega)
      have F1 := hide hf1
      have PS1 := hide ps1
      have PX1 := hide px1
      clear c0 c1 hf1 ps1
      have c0 : w1.cell? ⟨pb + 1, 0, none⟩ = some (.pointer (some ⟨pb, 0, none⟩)) := cell_of_heap px1 0
      have m1 := lt_of_heap px1
      clear px1
      go_wp2_with fail
      refine (CW1.out _ PS1.out).mono ?_
      rintro e w2 ⟨rfl, hf2, ps2⟩
      have px2 := fr_heap PX1.out hf2 (fun e => by have e : pb + 1 = pb := e; omega)
      have F2 := hide (F1.out.trans hf2)
      have PS2 := hide ps2
      have PX2 := hide px2
      clear c0 hf2 ps2
      have c0 : w2.cell? ⟨pb + 1, 0, none⟩ = some (.pointer (some ⟨pb, 0, none⟩)) := cell_of_heap px2 0
      have m2 := lt_of_heap px2
      clear px2
      go_wp2_with fail
      refine (CW2.out _ PS2.out).mono ?_
      rintro e w3 ⟨rfl, hf3, ps3⟩
      have px3 := fr_heap PX2.out hf3 (fun e => by have e : pb + 1 = pb := e; omega)
      have F3 := hide (F2.out.trans hf3)
      have PS3 := hide ps3
      have PX3 := hide px3
      clear c0 hf3 ps3
      have c0 : w3.cell? ⟨pb + 1, 0, none⟩ = some (.pointer (some ⟨pb, 0, none⟩)) := cell_of_heap px3 0
      have m3 := lt_of_heap px3
      clear px3
      go_wp2_with fail
      refine (CNM.out _ PS3.out).mono ?_
      rintro e w4 ⟨rfl, hf4, ps4⟩
      have G4 : Fr No w w4 := (F0.out.trans' F3.out (fun i hi e => by have e : i = pb := e; have := HPB.out; omega)).trans' hf4 (fun i hi e => by have e : i = pb := e; have := HPB.out; omega)
      have px4 := fr_heap PX3.out hf4 (fun e => by have e : pb + 1 = pb := e; omega)
      have H4 := hide (And.intro G4 (And.intro ps4 px4))
      clear c0 hf4 ps4 G4
      have c0 : w4.cell? ⟨pb + 1, 0, none⟩ = some (.pointer (some ⟨pb, 0, none⟩)) := cell_of_heap px4 0
      have m4 := lt_of_heap px4
      clear px4
      go_wp2_with fail
      obtain ⟨W5, hW5⟩ : ∃ W5, W5 = w4.alloc (.cells #[.string nm, .slice none 0 0, .int .i64 0, .int .i64 0, .string ⟨#[]⟩, .string ⟨#[]⟩, .slice none 0 0, .slice none 0 0, .slice none 0 0] 33) := ⟨_, rfl⟩
      rw [← hW5]
      obtain ⟨G4, ps4, px4⟩ := H4.out
      have f45 : Fr No w4 W5 := by rw [hW5]; exact (Fr.refl No w4).alloc _
      have b5 : W5.heap[w4.heap.size]? = some (.cells (fnCells nm (.slice none 0 0)) 33 (0, 0)) := by rw [hW5]; exact heap_alloc_new w4 _
      have px5 := fr_heap px4 f45 (fun e => e)
      refine (CW3.out _ (ps4.fr f45 (fun e => e))).mono ?_
      rintro e w6 ⟨rfl, hf6, ps6⟩
      have G6 : Fr No w w6 := (G4.no f45).trans' hf6 (fun i hi e => by have e : i = pb := e; have := HPB.out; omega)
      have b6 := fr_heap b5 hf6 (fun e => by have e : w4.heap.size = pb := e; omega)
      have px6 := fr_heap px5 hf6 (fun e => by have e : pb + 1 = pb := e; omega)
      have H6 := hide (And.intro G6 (And.intro ps6 (And.intro px6 b6)))
      clear c0 hf6 ps6 G6 b5 px5 hW5 f45 G4 ps4 px4 b6
      have c0 : w6.cell? ⟨pb + 1, 0, none⟩ = some (.pointer (some ⟨pb, 0, none⟩)) := cell_of_heap px6 0
      have m6 := lt_of_heap px6
      clear px6
      go_wp2_with fail
      obtain ⟨G6, ps6, px6, b6⟩ := H6.out
      have lb6 := lt_of_heap b6
      refine (CM.out w6 w4.heap.size (pb + 1) ps6 b6 px6 (by omega) (by omega) (by omega) (by omega)).mono ?_
      rintro e w7 ⟨rfl, hf7, ps7, v7, b7', own7⟩
      obtain ⟨va, vc, rfl⟩ := row_form own7
      have G7 : Fr No w w7 := G6.trans' hf7 (fun i hi e => by
        have := HPB.out
        have := H4.out.1.size
        rcases e with e | e | e <;> omega)
      have px7 := fr_heap px6 hf7 (fun e => by rcases e with e | e | e <;> omega)
      have s7 := hf7.size
      have H7 := hide (And.intro G7 (And.intro ps7 (And.intro px7 (And.intro b7' own7))))
      clear c0 hf7 ps7 G6 ps6 px6 b6 b7' own7
      have c0 : w7.cell? ⟨pb + 1, 0, none⟩ = some (.pointer (some ⟨pb, 0, none⟩)) := cell_of_heap px7 0
      have m7 := lt_of_heap px7
      have env7 := HENV.out.fr G7 h3 (fun i hi e => e)
      have ENV7 := hide env7
      clear px7 G7 env7
      go_wp2_with fail
      refine (CT.out w7 H7.out.2.1 ENV7.out h3').mono ?_
      rintro e w8 ⟨e0, e1, e2, e3, a4, n4, c4, a5, n5, c5, a6, n6, c6, rfl, hrt, hf8, ps8⟩
      obtain ⟨G7, ps7, px7, b7', own7⟩ := H7.out
      have G8 : Fr No w w8 := G7.trans' hf8 (fun i hi e => by have e : i = pb := e; have := HPB.out; omega)
      have b8 := fr_heap b7' hf8 (fun e => by have e : w4.heap.size = pb := e; omega)
      have px8 := fr_heap px7 hf8 (fun e => by have e : pb + 1 = pb := e; omega)
      have own8 := row_fr own7 hf8 (fun g hg e => by have := (own7.lt g hg).1; have := H4.out.1.size; have := HPB.out; have e : g = pb := e; omega)
      have s8 := hf8.size
      have H8 := hide (And.intro G8 (And.intro ps8 (And.intro px8 (And.intro b8 (And.intro own8 hrt)))))
      clear c0 hf8 ps8 G8 px7 b7' own7 ps7 G7 own8 hrt
      have c0 : w8.cell? ⟨pb + 1, 0, none⟩ = some (.pointer (some ⟨pb, 0, none⟩)) := cell_of_heap px8 0
      have m8 := lt_of_heap px8
      have z0 := cell_of_heap b8
      have zf := frozen_of_heap b8
      have lb8 := lt_of_heap b8
      clear px8 b8
      go_wp2_with fail
      obtain ⟨W9, hW9⟩ : ∃ W9, W9 = ((((((w8.setCell ⟨w4.heap.size, 2, none⟩ (.int .i64 e0)).setCell ⟨w4.heap.size, 3, none⟩ (.int .i64 e1)).setCell ⟨w4.heap.size, 4, none⟩ (.string e2)).setCell ⟨w4.heap.size, 5, none⟩ (.string e3)).setCell ⟨w4.heap.size, 6, none⟩ (.slice a4 n4 c4)).setCell ⟨w4.heap.size, 7, none⟩ (.slice a5 n5 c5)).setCell ⟨w4.heap.size, 8, none⟩ (.slice a6 n6 c6) := ⟨_, rfl⟩
      rw [← hW9]
      obtain ⟨G8, ps8, px8, b8, own8, hrt⟩ := H8.out
      have f89 : Fr (· = w4.heap.size) w8 W9 := by
        rw [hW9]
        exact (((((((Fr.refl (· = w4.heap.size) w8).setCell (p := ⟨w4.heap.size, 2, none⟩) (.inl rfl) _).setCell (p := ⟨w4.heap.size, 3, none⟩) (.inl rfl) _).setCell (p := ⟨w4.heap.size, 4, none⟩) (.inl rfl) _).setCell (p := ⟨w4.heap.size, 5, none⟩) (.inl rfl) _).setCell (p := ⟨w4.heap.size, 6, none⟩) (.inl rfl) _).setCell (p := ⟨w4.heap.size, 7, none⟩) (.inl rfl) _).setCell (p := ⟨w4.heap.size, 8, none⟩) (.inl rfl) _
      have b9 : W9.heap[w4.heap.size]? = some (.cells #[.string nm, .slice va xs.length vc, .int .i64 e0, .int .i64 e1, .string e2, .string e3, .slice a4 n4 c4, .slice a5 n5 c5, .slice a6 n6 c6] 33 (0, 0)) := by
        rw [hW9]; simp [World.setCell, Array.getElem?_modify, b8, fnCells]
      have px9 := fr_heap px8 f89 (fun e => by have e : pb + 1 = w4.heap.size := e; omega)
      have own9 := row_fr own8 f89 (fun g hg e => by have := (own8.lt g hg).1; have e : g = w4.heap.size := e; omega)
      have s9 := f89.size
      refine (CW4.out _ (ps8.fr f89 (fun e => by have e : pb = w4.heap.size := e; omega))).mono ?_
      rintro e w10 ⟨rfl, hf10, ps10⟩
      have G10 : Fr No w w10 := (G8.trans' f89 (fun i hi e => by have e : i = w4.heap.size := e; have := H4.out.1.size; omega)).trans' hf10 (fun i hi e => by have e : i = pb := e; have := HPB.out; omega)
      have b10 := fr_heap b9 hf10 (fun e => by have e : w4.heap.size = pb := e; omega)
      have px10 := fr_heap px9 hf10 (fun e => by have e : pb + 1 = pb := e; omega)
      have own10 := row_fr own9 hf10 (fun g hg e => by have := (own9.lt g hg).1; have := H4.out.1.size; have := HPB.out; have e : g = pb := e; omega)
      have s10 := hf10.size
      have rt10 : RTS K (New w7 w10) w10 [.int .i64 e0, .int .i64 e1, .string e2, .string e3, .slice a4 n4 c4, .slice a5 n5 c5, .slice a6 n6 c6] t := hrt.kept ⟨by omega, fun i hi hl => ⟨⟨hi.1, by omega⟩, (hf10.block i (by omega) (fun e => by have e : i = pb := e; omega)).trans (f89.block i hl (fun e => by have e : i = w4.heap.size := e; omega))⟩⟩
      have H10 := hide (And.intro G10 (And.intro ps10 (And.intro px10 (And.intro own10 rt10))))
      have q0 : w10.cell? ⟨w4.heap.size, 0, none⟩ = some (.string nm) := cell_of_heap b10 0
      have q1 : w10.cell? ⟨w4.heap.size, 1, none⟩ = some (.slice va xs.length vc) := cell_of_heap b10 1
      have q2 : w10.cell? ⟨w4.heap.size, 2, none⟩ = some (.int .i64 e0) := cell_of_heap b10 2
      have q3 : w10.cell? ⟨w4.heap.size, 3, none⟩ = some (.int .i64 e1) := cell_of_heap b10 3
      have q4 : w10.cell? ⟨w4.heap.size, 4, none⟩ = some (.string e2) := cell_of_heap b10 4
      have q5 : w10.cell? ⟨w4.heap.size, 5, none⟩ = some (.string e3) := cell_of_heap b10 5
      have q6 : w10.cell? ⟨w4.heap.size, 6, none⟩ = some (.slice a4 n4 c4) := cell_of_heap b10 6
      have q7 : w10.cell? ⟨w4.heap.size, 7, none⟩ = some (.slice a5 n5 c5) := cell_of_heap b10 7
      have q8 : w10.cell? ⟨w4.heap.size, 8, none⟩ = some (.slice a6 n6 c6) := cell_of_heap b10 8
      have lb10 := lt_of_heap b10
      obtain ⟨i0, hi, hz0, hz1, hz2⟩ := info_parts Tryd.infoFn
      clear c0 G8 ps8 px8 b8 own8 hrt f89 b9 px9 own9 hW9 hf10 ps10 G10 b10 px10 own10 rt10 z0 zf
      go_wp2_with fail
      have cap1 := grownCap_ge w10 1 0 33
      have cap2 := grownCap_le_maxLen w10 1 0 33 (by unfold maxLen; decide)
      have cdef : (Question.appendCap 1 0 33).cut (w10.tape w10.drawn (Question.appendCap 1 0 33)) = grownCap w10 1 0 33 := rfl
      rw [cdef]
      generalize grownCap w10 1 0 33 = cp at cap1 cap2
      clear cdef
      obtain ⟨W11, hW11⟩ : ∃ W11, W11 = ((w10.alloc (.cells #[.string nm, .slice va xs.length vc, .int .i64 e0, .int .i64 e1, .string e2, .string e3, .slice a4 n4 c4, .slice a5 n5 c5, .slice a6 n6 c6] 33)).alloc (.cells (#[.string nm, .slice va xs.length vc, .int .i64 e0, .int .i64 e1, .string e2, .string e3, .slice a4 n4 c4, .slice a5 n5 c5, .slice a6 n6 c6] ++ Builtin.zeroCells #[.string ⟨#[]⟩, .slice none 0 0, .int .i64 0, .int .i64 0, .string ⟨#[]⟩, .string ⟨#[]⟩, .slice none 0 0, .slice none 0 0, .slice none 0 0] (cp - 1)) 33)).drew := ⟨_, rfl⟩
      rw [← hW11]
      have f11 : Fr No w10 W11 := by rw [hW11]; exact (((Fr.refl No w10).alloc _).alloc _).drew
      have b11 : W11.heap[w10.heap.size + 1]? = some (.cells (#[.string nm, .slice va xs.length vc, .int .i64 e0, .int .i64 e1, .string e2, .string e3, .slice a4 n4 c4, .slice a5 n5 c5, .slice a6 n6 c6] ++ Builtin.zeroCells #[.string ⟨#[]⟩, .slice none 0 0, .int .i64 0, .int .i64 0, .string ⟨#[]⟩, .string ⟨#[]⟩, .slice none 0 0, .slice none 0 0, .slice none 0 0] (cp - 1)) 33 (0, 0)) := by
        rw [hW11]
        have h := heap_alloc_new (w10.alloc (.cells #[.string nm, .slice va xs.length vc, .int .i64 e0, .int .i64 e1, .string e2, .string e3, .slice a4 n4 c4, .slice a5 n5 c5, .slice a6 n6 c6] 33)) (.cells (#[.string nm, .slice va xs.length vc, .int .i64 e0, .int .i64 e1, .string e2, .string e3, .slice a4 n4 c4, .slice a5 n5 c5, .slice a6 n6 c6] ++ Builtin.zeroCells #[.string ⟨#[]⟩, .slice none 0 0, .int .i64 0, .int .i64 0, .string ⟨#[]⟩, .string ⟨#[]⟩, .slice none 0 0, .slice none 0 0, .slice none 0 0] (cp - 1)) 33)
        rw [World.size_alloc] at h
        exact h
      clear hW11
      have l11 := lt_of_heap b11
      have x1 := H4.out.1.size
      have x2 := H6.out.1.size
      have x3 := H7.out.1.size
      have x4 := HPB.out
      have own11 := row_fr H10.out.2.2.2.1 f11 (fun _ _ e => e)
      have hn1 : nm.size ≤ maxLen := by have := pkb_le HO.out.p2; have := HO.out.size; unfold maxLen; omega
      have hsh := HO.out.sh
      go_roundg 1
      case measure => decide
      case rel =>
        obtain ⟨G10, ps10, px10, own10, rt10⟩ := H10.out
        have z11 := f11.size
        refine .inr ⟨rfl, ps10.fr f11 (fun e => e), fr_heap px10 f11 (fun e => e), G10.no f11, [.string nm, .slice va xs.length vc, .int .i64 e0, .int .i64 e1, .string e2, .string e3, .slice a4 n4 c4, .slice a5 n5 c5, .slice a6 n6 c6], ?_, rfl, ?_⟩
        · refine ⟨some ⟨w10.heap.size + 1, 0, none⟩, cp, rfl, cap1, cap2, fun _ => ⟨w10.heap.size + 1, 0, rfl, ⟨⟨by omega, l11⟩, by omega⟩, l11, fun i _ => frozen_of_heap b11 _, fun i hi => ?_⟩⟩
          rw [Nat.zero_add, cell_of_heap b11 i, Array.getElem?_append_left (by simpa using hi)]
          simp
        · exact ⟨.slice va xs.length vc, [.int .i64 e0, .int .i64 e1, .string e2, .string e3, .slice a4 n4 c4, .slice a5 n5 c5, .slice a6 n6 c6], rfl, hn1, own_namesS own11 rfl hsh (fun g h1 h2 => ⟨⟨by omega, h2⟩, by omega⟩), rfl, rt10.kept ⟨z11, fun i hi hl => ⟨⟨⟨by omega, by omega⟩, by omega⟩, f11.block i hl (fun e => e)⟩⟩⟩
    · have c0 : wr.cell? ⟨pb + 1, 0, none⟩ = some (.pointer (some ⟨pb, 0, none⟩)) := cell_of_heap hpx 0
      have c1 : wr.cell? ⟨pb, 2, none⟩ = some (.int .i64 0) := cell_of_heap hps 2
      have l1 := lt_of_heap hps
      have l2 := lt_of_heap hpx
      have HR := hide (And.intro hps (And.intro hpx (And.intro hfr (And.intro hrow (And.intro hcl hrf)))))
      clear hps hpx hfr hrow hrf
      go_wp2_with fail
      refine (CP9.out _ HR.out.1).mono ?_
      rintro e w1 ⟨rfl, hf1, ps1⟩
      obtain ⟨hps, hpx, hfr, hrow, hcl, hrf⟩ := HR.out
      have px1 := fr_heap hpx hf1 (fun e => by have e : pb + 1 = pb := e; omega)
      have HF1 := hide hf1
      have c2 : w1.cell? ⟨pb + 1, 0, none⟩ = some (.pointer (some ⟨pb, 0, none⟩)) := cell_of_heap px1 0
      have c3 : w1.cell? ⟨pb, 2, none⟩ = some (.int .i64 0) := cell_of_heap ps1 2
      have l3 := lt_of_heap ps1
      have l4 := lt_of_heap px1
      obtain ⟨va, vc, rfl, _, _⟩ := hrow.form
      clear c0 c1 hps hpx hfr hrow hrf hf1 ps1 px1
      go_wp2_with fail
      go_ret2
      obtain ⟨hps, hpx, hfr, hrow, hcl, hrf⟩ := HR.out
      have z1 := HF1.out.size
      have st : Stays (fun i => (w.heap.size ≤ i ∧ i < wr.heap.size) ∧ i ≠ pb) (New w w1) wr w1 := ⟨z1, fun i hi hl => ⟨⟨hi.1.1, by omega⟩, HF1.out.block i hl hi.2⟩⟩
      obtain ⟨pv, bb, hcs, hn, hnames, hb, hrt⟩ := hrf
      exact ⟨_, cs, rfl, hfr.trans' HF1.out (fun i hi e => by have e : i = pb := e; have := HPB.out; omega), hrow.kept st, hcl, pv, bb, hcs, hn, ⟨hnames.1.kept st, hnames.2⟩, hb, hrt.kept st⟩
end Go.Proofs.YtdcdegeeaakekacDoor
