/- The document's reader: terms of one word, in general. -/
import Derived.Test.YtomahbdidlglfacGreatDoorG1a
import Derived.Test.YtomahbdidlglfacGreatDoorG1b
import Derived.Test.YtomahbdidlglfacGreatDoorP1ShelfP2
import Derived.Test.YtomahbdidlglfacGreatDoorO1O2O3C9O4O5W6Rs
import Derived.Test.YtomahbdidlglfacGreatDoorP3G1h
import Derived.Test.YtomahbdidlglfacGreatDoorOw1Ow2Oc1
import Derived.Deep.RegionLaw
namespace Go.Proofs.YtomahbdidlglfacGreatDoor
open Go.RowKit Go.Maps Go.WideMaps

theorem RowS.nil (S : Nat → Prop) (w : World) : RowS S w (.slice none 0 0) 0 [] := ⟨none, 0, rfl, Nat.le_refl _, Nat.zero_le _, fun h => absurd h (by omega)⟩

def lname (K : Nat) (x : ByteArray) : Pu.TT (K + 1) := (⟨1, 0, x, ⟨#[]⟩, [], [], []⟩ : Pu.Node (Pu.TT K))

set_option maxRecDepth 100000 in
set_option maxHeartbeats 1000000 in
theorem leaf_name (pb : Nat) (S x : ByteArray) (at' a k d : Nat) (w : World) (h : PS pb S at' 0 w) (hS : S.size ≤ 1600) (hp : pkb S at' a k = true) (hak : a < k) (hks : k ≤ S.size) (hne : (!x.toList == [40]) = true) (hx : wd S a k = x) (hnum : (number x).2 = false) (hnm0 : isName x = true) (hd : d ≤ 24) (henv : Env w) (h3 : 3 ≤ pb) :
    Calls Tryz.prog 61 #[.pointer (some ⟨pb, 0, none⟩), .int .i64 d] w fun e w' => e = .returned (.agg #[.int .i64 1, .int .i64 0, .string x, .string ⟨#[]⟩, .slice none 0 0, .slice none 0 0, .slice none 0 0]) ∧ Fr (· = pb) w w' ∧ PS pb S k 0 w' := by
  have hl := lt_of_heap h
  have HNUM := hide hnum
  have HNM0 := hide hnm0
  have hxs : x.size ≤ 1600 := by rw [← hx]; unfold wd; rw [ByteArray.size_extract]; omega
  clear hnum hnm0
  have hd' : ¬ (24 : Int) < (d : Int) := by omega
  obtain ⟨W0, hW0⟩ : ∃ W0, W0 = (((w.alloc (.cells #[.pointer (some ⟨pb, 0, none⟩)] 88)).alloc (.cells #[.int .i64 (d : Int)] 3)).alloc (.cells #[.int .i64 0, .int .i64 0, .string ⟨#[]⟩, .string ⟨#[]⟩, .slice none 0 0, .slice none 0 0, .slice none 0 0] 32)) := ⟨_, rfl⟩
  have a0 : TAhead w W0 pb d := by rw [hW0]; exact tahead_new w pb d
  have ps0 := h.fr a0.fr (fun e => e)
  have CP := peek_any pb S at' a k 0 W0 ps0 hS hp
  rw [hx] at CP
  have HCP := hide CP
  have HW0 := hide hW0
  have A0 := hide a0
  have HENV := hide henv
  have hsz0 : w.heap.size + 1 + 1 < W0.heap.size := lt_of_heap a0.r
  clear CP hW0 a0 ps0 h henv
  go_enter Tryz.func61, Tryz.ntmps61
  go_wp2_with fail
  rw [← HW0.out]
  refine HCP.out.mono ?_
  rintro e w1 ⟨rfl, hf1, ps1⟩
  obtain ⟨b0, b1, b2⟩ := A0.out.step hf1 (fun i hi e => by have e : i = pb := e; omega)
  have c0 := cell_of_heap b0 0
  have lb0 := lt_of_heap b0
  have CN := pnext_any pb S a a k 0 w1 ps1 hS (pkb_self hp) hak hks
  rw [hx] at CN
  have HCN := hide CN
  have HF1 := hide hf1
  have B2 := hide b2
  have F01 := hide ((A0.out.fr.mono (fun _ _ e => e.elim)).trans hf1)
  clear CN hf1 ps1 b0 b1 b2 HCP
  go_wp2_with fail
  refine HCN.out.mono ?_
  rintro e w2 ⟨rfl, hf2, ps2⟩
  have F02 := hide (F01.out.trans hf2)
  have b2 := fr_heap B2.out hf2 (fun e => by have e : w.heap.size + 1 + 1 = pb := e; omega)
  have B2' := hide b2
  have PS2 := hide ps2
  have env2 := HENV.out.fr F02.out (by omega) (fun i hi e => by have e : i = pb := e; omega)
  have CM := number2_any x w2 (by have := hxs; omega) env2 (by have := F02.out.size; omega)
  obtain ⟨nm, hnm⟩ : ∃ nm, nm = number x := ⟨_, rfl⟩
  rw [← hnm] at CM
  have hn2 : nm.2 = false := by rw [hnm]; exact HNUM.out
  rw [hn2] at CM
  clear hnm hn2
  have HCM := hide CM
  clear CM b2 hf2 ps2 env2 c0 HCN
  go_wp2_with fail
  refine HCM.out.mono ?_
  rintro e w3 ⟨rfl, hf3⟩
  have g3 := fr_heap B2'.out hf3 (fun e => e)
  have F03 := hide (F02.out.no hf3)
  have PS3 := hide (PS2.out.fr hf3 (fun e => e))
  have G3 := hide g3
  have r0 := cell_of_heap g3
  have rz := frozen_of_heap g3
  have hl3 := lt_of_heap g3
  clear g3 hf3 HCM
  go_wp2_with fail
  have CX := name_any x w3 (by unfold maxLen; omega)
  rw [HNM0.out] at CX
  have HCX := hide CX
  clear CX
  refine HCX.out.mono ?_
  rintro e w4 ⟨rfl, q, rfl⟩
  go_wp2_with fail
  obtain ⟨s1, s2⟩ := set7 (w := w3.drewN q) G3.out (.int .i64 1) (.int .i64 0) (.string x) (.string ⟨#[]⟩) (.slice none 0 0) (.slice none 0 0) (.slice none 0 0)
  refine bodyPost_ret (retT rfl _ _ (w.heap.size + 1 + 1) _ _ _ _ _ _ _ (0, 0) rfl s1) rfl ⟨rfl, ?_, ?_⟩
  · exact (F03.out.drewN q).trans' s2 (fun j hj e => by have e : j = w.heap.size + 1 + 1 := e; omega)
  · exact (PS3.out.fr (T := No) ((Fr.refl No w3).drewN q) (fun e => e)).fr s2 (fun e => by have e : pb = w.heap.size + 1 + 1 := e; omega)

theorem rd_name (K pb : Nat) (S x : ByteArray) (at' a k d : Nat) (hS : S.size ≤ 1600) (hp : pkb S at' a k = true) (hak : a < k) (hks : k ≤ S.size) (hne : (!x.toList == [40]) = true) (hx : wd S a k = x) (hnum : (number x).2 = false) (hnm : isName x = true) (hd : d ≤ 24) : RdT (K + 1) pb S at' k d (lname K x) := fun w h henv h3 => by
  have hxs : x.size ≤ maxLen := by rw [← hx]; unfold wd maxLen; rw [ByteArray.size_extract]; omega
  refine (leaf_name pb S x at' a k d w h hS hp hak hks hne hx hnum hnm hd henv h3).mono ?_
  rintro e w' ⟨rfl, hf, hps⟩
  exact ⟨[.int .i64 1, .int .i64 0, .string x, .string ⟨#[]⟩, .slice none 0 0, .slice none 0 0, .slice none 0 0], rfl, ⟨_, _, _, [], [], rfl, hxs, rfl, ⟨RowS.nil _ _, fun x hx => by simp [lname] at hx⟩, RowS.nil _ _, rfl, RowS.nil _ _, rfl⟩, hf, hps⟩
end Go.Proofs.YtomahbdidlglfacGreatDoor

/- The document's reader: a primitive of two terms. -/
namespace Go.Proofs.YtomahbdidlglfacGreatDoor
open Go.RowKit Go.Maps Go.WideMaps

theorem pkb_le {S : ByteArray} {at' a k : Nat} (h : pkb S at' a k = true) : at' ≤ a ∧ a ≤ k ∧ k ≤ S.size := by
  unfold pkb at h
  simp only [Bool.and_eq_true, decide_eq_true_eq] at h
  exact h.1.1.1

theorem own_rowS {S : Nat → Prop} {w : World} {base n : Nat} {v : Value} {xs : List Value} {e : TypeId} {sz : Nat} (h : w.ownsRow base e sz v n xs) (hS : ∀ g, v.ownBlock = some g → S g) : RowS S w v n xs := by
  rcases Nat.eq_zero_or_pos n with h0 | h0
  · subst h0
    rcases h.2 with ⟨rfl, _⟩ | ⟨g, cap, cur, rfl, _, _, h4, h5, _⟩
    · exact ⟨none, 0, rfl, Nat.le_refl _, Nat.zero_le _, fun h => absurd h (by omega)⟩
    · exact ⟨_, cap, rfl, h4, h5, fun h => absurd h (by omega)⟩
  · obtain ⟨g, cap, rfl, _, h2, h3, h4⟩ := own_form h h0
    exact ⟨_, cap, rfl, h3, h4, fun _ => ⟨g, 0, rfl, hS g rfl, h2, fun i hi => h.frozenAt _, fun i hi => by
      rw [Nat.zero_add]
      exact h.cellAt i (by rw [← h.1]; exact hi)⟩⟩

end Go.Proofs.YtomahbdidlglfacGreatDoor

/- The document's reader: a constructor's number. -/
namespace Go.Proofs.YtomahbdidlglfacGreatDoor
open Go.RowKit Go.Maps Go.WideMaps

set_option maxRecDepth 100000 in
set_option maxHeartbeats 1000000 in
theorem ptag_any (pb : Nat) (S y x : ByteArray) (n : Int) (at' a k : Nat) (w : World) (h : PS pb S at' 0 w) (hS : S.size ≤ 1600) (hp : pkb S at' a k = true) (hak : a < k) (hks : k ≤ S.size) (hy : wd S a k = y) (y1 : 1 < y.size) (hy1 : y.size ≤ 1600) (hy0 : (y[0]'(by omega)).toNat = 35) (hyx : y.extract 1 y.size = x) (hnum : number x = (n, true)) (henv : Env w) (h3 : 3 ≤ w.heap.size) (hpb : 3 ≤ pb) :
    Calls Tryz.prog 100 #[.pointer (some ⟨pb, 0, none⟩)] w fun e w' => e = .returned (.int .i64 n) ∧ Fr (· = pb) w w' ∧ PS pb S k 0 w' := by
  have CN : Hid (Calls Tryz.prog 96 #[.pointer (some ⟨pb, 0, none⟩)] w fun r w' => r = .returned (.string y) ∧ Fr (· = pb) w w' ∧ PS pb S k 0 w') := by
    rw [← hy]; exact pnext_any pb S at' a k 0 w h hS hp hak hks
  have hx1 : x.size ≤ 1600 := by rw [← hyx, ByteArray.size_extract]; omega
  have CNUM : Hid (∀ W, Fr (· = pb) w W → Calls Tryz.prog 98 #[.string x] W fun e w' => e = .returned (.tuple #[.int .i64 n, .bool true]) ∧ Fr No W w') := fun W hW => by
    have h := number2_any x W hx1 (henv.fr hW h3 (fun i hi e => by have e : i = pb := e; omega)) (by have := hW.size; omega)
    rw [hnum] at h
    exact h
  have hsl : ∀ u : World, (Instr.slice 9 (.string y) (some (.int .i64 1)) none none).run Tryz.prog u = .ok (.string x) u := fun u => by
    have := run_slice_string_l (P := Tryz.prog) u 9 y Tryz.underlying9 .i64 1 (by omega) (by omega)
    rw [show ((1 : Int).toNat) = 1 from rfl, hyx] at this
    exact this
  have yi : (1 : Int) < (y.size : Int) := by omega
  have y2 : ((y[0]'(by omega)).toNat : Int) = 35 := by omega
  clear hnum h henv hp hy hyx hy0
  go_enter Tryz.func100, Tryz.ntmps100
  go_wp2_with fail
  refine CN.out.mono ?_
  rintro e w1 ⟨rfl, hf1, ps1⟩
  have F1 := hide hf1
  have PS1 := hide ps1
  clear hf1 ps1 CN
  go_wp2_with fail
  refine (CNUM.out _ F1.out).mono ?_
  rintro e w2 ⟨rfl, hf2⟩
  have F2 := hide (F1.out.no hf2)
  have PS2 := hide (PS1.out.fr hf2 (fun e => e))
  clear hf2 CNUM
  go_wp2_with fail
  go_ret
  exact ⟨rfl, F2.out, PS2.out⟩
end Go.Proofs.YtomahbdidlglfacGreatDoor

/- The document's reader: 'many' over arguments, two at most. -/
namespace Go.Proofs.YtomahbdidlglfacGreatDoor
open Go.RowKit Go.Maps Go.WideMaps

/-- From a place the terms lie, and a bracket behind them, up to b. -/
def RdA (K pb : Nat) (S : ByteArray) (d : Nat) : Nat → List (Pu.TT K) → Nat → Prop
  | a, [], b => ∃ c, pkb S a c (c + 1) = true ∧ wd S c (c + 1) = ⟨#[41]⟩ ∧ c + 1 ≤ S.size ∧ b = c + 1
  | a, t :: ts, b => ∃ p q c, pkb S a p q = true ∧ ¬ wd S p q = ⟨#[41]⟩ ∧ RdT K pb S p c (d + 1) t ∧ RdA K pb S d c ts b

set_option maxRecDepth 100000 in
set_option maxHeartbeats 4000000 in
theorem manyA_any (K base tb pbx dbx pb : Nat) (S : ByteArray) (at0 b d : Nat) (kd tn : Int) (nm : ByteArray) (cv : Value) (l : List (Pu.TT K)) (w : World) (hr : RdA K pb S d at0 l b) (h : PS pb S at0 0 w) (hS : S.size ≤ 1600) (henv : Env w) (hp3 : 3 ≤ pb) (ht3 : 3 ≤ tb)
    (ht : w.heap[tb]? = some (.cells (tmCells kd tn nm (.slice none 0 0) cv) 32 (0, 0))) (hx : w.heap[pbx]? = some (.cells #[.pointer (some ⟨pb, 0, none⟩)] 88 (0, 0))) (hdx : w.heap[dbx]? = some (.cells #[.int .i64 (d : Int)] 3 (0, 0)))
    (hb : base ≤ w.heap.size) (hpb : pb < base) (htb : tb < base) (h1 : tb ≠ pb) (h2 : pbx ≠ pb) (h3 : dbx ≠ pb) (h4 : pbx < base) (h5 : dbx < base) (hTB : tb ≠ pbx ∧ tb ≠ dbx) (hd : d ≤ 25) (hl2 : l.length ≤ 2) :
    Calls Tryz.prog 59 #[.pointer (some ⟨pb, 0, none⟩), .func (.func 99) #[] #[.pointer (some ⟨tb, 0, none⟩), .pointer (some ⟨pbx, 0, none⟩), .pointer (some ⟨dbx, 0, none⟩)]] w fun e w' => e = .returned (.tuple #[]) ∧ Fr (fun i => i = pb ∨ i = tb ∨ base ≤ i) w w' ∧ PS pb S b 0 w' ∧
      ∃ v', w'.heap[tb]? = some (.cells (tmCells kd tn nm v' cv) 32 (0, 0)) ∧ ArgsAt K base w' v' l := by
  have lp := lt_of_heap h
  have H := hide h
  have HR := hide hr
  have HT := hide ht
  have HX := hide hx
  have HDX := hide hdx
  have HB := hide hb
  have HENV := hide henv
  have HD := hide (And.intro hpb (And.intro htb (And.intro h1 (And.intro h2 (And.intro h3 (And.intro h4 (And.intro h5 hTB)))))))
  have HL2 := hide hl2
  clear h hr ht hx hdx hb henv hpb htb h1 h2 h3 h4 h5 hTB hl2
  go_enter Tryz.func59, Tryz.ntmps59
  go_wp2_with fail
  go_loopg [] (l.length + 1) (fun gn wr => ∃ ys rest at', l = ys ++ rest ∧ gn = rest.length + 1 ∧ PS pb S at' 0 wr ∧ RdA K pb S d at' rest b ∧ Fr (fun i => i = pb ∨ i = tb ∨ base ≤ i) w wr ∧ ∃ v, wr.heap[tb]? = some (.cells (tmCells kd tn nm v cv) 32 (0, 0)) ∧ ArgsAt K base wr v ys)
  case atStart => exact ⟨[], l, at0, rfl, rfl, H.out, HR.out, Fr.refl _ _, _, HT.out, ArgsAt.nil _ _ _⟩
  case round =>
    obtain ⟨ys, rest, at', hl, hgn, hps, hrd, hfr, v1, htb1, har1⟩ := hrel
    obtain ⟨hpb, htb, h1, h2, h3, h4, h5, hTB⟩ := HD.out
    have hpx1 : wr.heap[pbx]? = some (.cells #[.pointer (some ⟨pb, 0, none⟩)] 88 (0, 0)) := fr_heap HX.out hfr (fun e => by rcases e with e | e | e <;> omega)
    have hdx1 : wr.heap[dbx]? = some (.cells #[.int .i64 (d : Int)] 3 (0, 0)) := fr_heap HDX.out hfr (fun e => by rcases e with e | e | e <;> omega)
    have henv1 : Env wr := HENV.out.fr hfr (by have := HB.out; omega) (fun i hi e => by have := hp3; rcases e with e | e | e <;> omega)
    have c0 := cell_of_heap hps 2
    have lw := lt_of_heap hps
    have hbs : base ≤ wr.heap.size := Nat.le_trans HB.out hfr.size
    cases rest with
    | nil =>
      obtain ⟨c, hp2, hb2, hc, rfl⟩ := hrd
      have CP : Hid (Calls Tryz.prog 56 #[.pointer (some ⟨pb, 0, none⟩)] wr fun r w' => r = .returned (.string ⟨#[41]⟩) ∧ Fr (· = pb) wr w' ∧ PS pb S c 0 w') := by rw [← hb2]; exact peek_any pb S at' c (c + 1) 0 wr hps hS hp2
      have CW : Hid (∀ W, PS pb S c 0 W → Calls Tryz.prog 57 #[.pointer (some ⟨pb, 0, none⟩), .string ⟨#[41]⟩] W fun r w' => r = .returned (.tuple #[]) ∧ Fr (· = pb) W w' ∧ PS pb S (c + 1) 0 w') := fun W hps => pwant_any pb S ⟨#[41]⟩ c c (c + 1) 0 W hps hS (pkb_self hp2) (by omega) hc hb2
      rw [List.append_nil] at hl
      have HH := hide (And.intro hl (And.intro hfr (And.intro htb1 har1)))
      clear hps hfr htb1 har1 hpx1 hdx1 henv1 hl hp2 hb2
      go_wp2_with fail
      refine CP.out.mono ?_
      rintro e w1 ⟨rfl, hf1, ps1⟩
      have F1 := hide hf1
      have PS1 := hide ps1
      clear hf1 ps1 c0 CP
      go_wp2_with fail
      refine (CW.out _ PS1.out).mono ?_
      rintro e w2 ⟨rfl, hf2, ps2⟩
      have F2 := hide (F1.out.trans hf2)
      have PS2 := hide ps2
      clear hf2 ps2 CW
      go_wp2_with fail
      go_end0
      obtain ⟨hl, hfr, htb1, xs1, ho1, he1⟩ := HH.out
      subst hl
      refine ⟨rfl, hfr.trans' F2.out (fun i _ e => .inl e), PS2.out, v1, fr_heap htb1 F2.out h1, xs1, row_fr ho1 F2.out (fun g hg e => by have := (ho1.lt g hg).1; have e : g = pb := e; omega), he1.mono fun _ _ h => h.kept ⟨F2.out.size, fun g hg hgl => ⟨hg, F2.out.block g hgl (fun e => by have e : g = pb := e; have := hg.1; omega)⟩⟩⟩
    | cons t ts =>
      obtain ⟨p, q, c, hp, hne, hrt, hrd2⟩ := hrd
      obtain ⟨x, hx⟩ : ∃ x, x = wd S p q := ⟨_, rfl⟩
      rw [← hx] at hne
      have hne' : (!x.toList == [41]) = true := by
        have h := str_ne hne
        rw [show (⟨#[41]⟩ : ByteArray).toList = [41] from by rw [ByteArray.toList_eq]] at h
        exact h
      have CP : Hid (Calls Tryz.prog 56 #[.pointer (some ⟨pb, 0, none⟩)] wr fun r w' => r = .returned (.string x) ∧ Fr (· = pb) wr w' ∧ PS pb S p 0 w') := by
        rw [hx]
        exact peek_any pb S at' p q 0 wr hps hS hp
      have hyl : ys.length = 0 ∨ ys.length = 1 := by
        have : l.length = ys.length + (t :: ts).length := by rw [hl, List.length_append]
        have := HL2.out
        simp only [List.length_cons] at *
        omega
      have CL : Hid (∀ W, Fr (· = pb) wr W → PS pb S p 0 W → Calls Tryz.prog 99 #[.pointer (some ⟨tb, 0, none⟩), .pointer (some ⟨pbx, 0, none⟩), .pointer (some ⟨dbx, 0, none⟩)] W fun e w' => e = .returned (.tuple #[]) ∧ Fr (fun i => i = pb ∨ i = tb ∨ base ≤ i) W w' ∧ PS pb S c 0 w' ∧
          ∃ v', w'.heap[tb]? = some (.cells (tmCells kd tn nm v' cv) 32 (0, 0)) ∧ ArgsAt K base w' v' (ys ++ [t])) := fun W hW hps => by
        obtain ⟨xs1, ho1, he1⟩ := har1
        have hoW := row_fr ho1 hW (fun g hg e => by have := (ho1.lt g hg).1; have e : g = pb := e; omega)
        have harW : ArgsAt K base W v1 ys := ⟨xs1, hoW, he1.mono fun _ _ h => h.kept ⟨hW.size, fun g hg hgl => ⟨hg, hW.block g hgl (fun e => by have e : g = pb := e; have := hg.1; omega)⟩⟩⟩
        have hlt : ∀ i, v1.ownBlock = some i → base ≤ i := fun i e => (hoW.lt i e).1
        have henvW := henv1.fr hW (by omega) (fun i hi e => by have e : i = pb := e; omega)
        have hgo : ∀ {e : Ending} {w' : World}, (e = .returned (.tuple #[]) ∧ Fr (fun i => i = pb ∨ i = tb ∨ v1.ownBlock = some i) W w' ∧ PS pb S c 0 w' ∧ ∃ v', w'.heap[tb]? = some (.cells (tmCells kd tn nm v' cv) 32 (0, 0)) ∧ ArgsAt K base w' v' (ys ++ [t])) → (e = .returned (.tuple #[]) ∧ Fr (fun i => i = pb ∨ i = tb ∨ base ≤ i) W w' ∧ PS pb S c 0 w' ∧ ∃ v', w'.heap[tb]? = some (.cells (tmCells kd tn nm v' cv) 32 (0, 0)) ∧ ArgsAt K base w' v' (ys ++ [t])) := fun ⟨q1, q2, q3⟩ =>
          ⟨q1, q2.mono (fun i _ e => e.imp (fun e => e) (fun e => e.imp (fun e => e) (fun e => hlt i e))), q3⟩
        rcases hyl with hy | hy
        · exact (arg_0 K base tb pbx dbx pb S p c d kd tn nm v1 cv ys t W hrt hps henvW hp3 (fr_heap htb1 hW h1) (fr_heap hpx1 hW h2) (fr_heap hdx1 hW h3) harW hy (Nat.le_trans hbs hW.size) hpb htb h1 h2 h3 h4 h5 hTB hd).mono fun e w' h => hgo h
        · exact (arg_1 K base tb pbx dbx pb S p c d kd tn nm v1 cv ys t W hrt hps henvW hp3 (fr_heap htb1 hW h1) (fr_heap hpx1 hW h2) (fr_heap hdx1 hW h3) harW hy (Nat.le_trans hbs hW.size) hpb htb h1 h2 h3 h4 h5 hTB hd).mono fun e w' h => hgo h
      have HH := hide (And.intro hl hfr)
      have HRD := hide hrd2
      have HGN := hide hgn
      clear hps hfr htb1 har1 hpx1 hdx1 henv1 hl hrd2 hp hne hgn hx hrt
      go_wp2_with fail
      refine CP.out.mono ?_
      rintro e w1 ⟨rfl, hf1, ps1⟩
      have F1 := hide hf1
      have PS1 := hide ps1
      clear hf1 ps1 c0 CP
      go_wp2_with fail
      refine (CL.out _ F1.out PS1.out).mono ?_
      rintro e w2 ⟨rfl, hf2, ps2, v2, htb2, har2⟩
      have F2 := hide ((F1.out.mono (T' := fun i => i = pb ∨ i = tb ∨ base ≤ i) (fun _ _ e => .inl e)).trans hf2)
      have HH2 := hide (And.intro ps2 (And.intro htb2 har2))
      clear hf2 ps2 htb2 har2 CL
      go_wp2_with fail
      go_roundg (ts.length + 1)
      case measure => have := HGN.out; simp only [List.length_cons] at this; omega
      case rel => exact ⟨ys ++ [t], ts, c, by rw [HH.out.1, List.append_assoc]; rfl, rfl, HH2.out.1, HRD.out, HH.out.2.trans F2.out, v2, HH2.out.2.1, HH2.out.2.2⟩
end Go.Proofs.YtomahbdidlglfacGreatDoor

/- The document's reader: a constructor of terms. -/
namespace Go.Proofs.YtomahbdidlglfacGreatDoor
open Go.RowKit Go.Maps Go.WideMaps

/-- A constructor of terms. -/
def ncon (K : Nat) (n : Int) (l : List (Pu.TT K)) : Pu.TT (K + 1) := (⟨3, n, ⟨#[]⟩, ⟨#[]⟩, [], l, []⟩ : Pu.Node (Pu.TT K))

set_option maxRecDepth 100000 in
set_option maxHeartbeats 4000000 in
theorem rd_con (K pb : Nat) (S y x : ByteArray) (n : Int) (at' a b q f d : Nat) (l : List (Pu.TT K)) (hS : S.size ≤ 1600) (hp : pkb S at' a (a + 1) = true) (hx : wd S a (a + 1) = ⟨#[40]⟩) (hp2 : pkb S (a + 1) b q = true) (hbq : b < q) (hx2 : wd S b q = y) (hqS : q ≤ S.size)
    (y1 : 1 < y.size) (hy1 : y.size ≤ 1600) (hy0 : (y[0]'(by omega)).toNat = 35) (hyx : y.extract 1 y.size = x) (hnum : number x = (n, true)) (hwf : (Lit.int .i64 n).wf = true) (n43 : (y.toList == [43]) = false) (n45 : (y.toList == [45]) = false) (n42 : (y.toList == [42]) = false) (n60 : (y.toList == [60]) = false) (n61 : (y.toList == [61]) = false)
    (hra : RdA K pb S d q l f) (hl2 : l.length ≤ 2) (hd : d ≤ 24) : RdT (K + 1) pb S at' f d (ncon K n l) := by
  intro w h henv h3
  have hl := lt_of_heap h
  have hd' : ¬ (24 : Int) < (d : Int) := by omega
  obtain ⟨W0, hW0⟩ : ∃ W0, W0 = (((w.alloc (.cells #[.pointer (some ⟨pb, 0, none⟩)] 88)).alloc (.cells #[.int .i64 (d : Int)] 3)).alloc (.cells #[.int .i64 0, .int .i64 0, .string ⟨#[]⟩, .string ⟨#[]⟩, .slice none 0 0, .slice none 0 0, .slice none 0 0] 32)) := ⟨_, rfl⟩
  have a0 : TAhead w W0 pb d := by rw [hW0]; exact tahead_new w pb d
  have ps0 := h.fr a0.fr (fun e => e)
  have CP := peek_any pb S at' a (a + 1) 0 W0 ps0 hS hp
  rw [hx] at CP
  have HCP := hide CP
  have CN : Hid (∀ W, PS pb S a 0 W → Calls Tryz.prog 96 #[.pointer (some ⟨pb, 0, none⟩)] W fun r w' => r = .returned (.string ⟨#[40]⟩) ∧ Fr (· = pb) W w' ∧ PS pb S (a + 1) 0 w') := fun W hW => by
    rw [← hx]; exact pnext_any pb S a a (a + 1) 0 W hW hS (pkb_self hp) (by omega) (by have := pkb_le hp2; omega)
  have CP2 : Hid (∀ W, PS pb S (a + 1) 0 W → Calls Tryz.prog 56 #[.pointer (some ⟨pb, 0, none⟩)] W fun r w' => r = .returned (.string y) ∧ Fr (· = pb) W w' ∧ PS pb S b 0 w') := fun W hW => by
    rw [← hx2]; exact peek_any pb S (a + 1) b q 0 W hW hS hp2
  have CN2 : Hid (∀ W, PS pb S b 0 W → Env W → 3 ≤ W.heap.size → Calls Tryz.prog 100 #[.pointer (some ⟨pb, 0, none⟩)] W fun e w' => e = .returned (.int .i64 n) ∧ Fr (· = pb) W w' ∧ PS pb S q 0 w') := fun W hW hE hs => ptag_any pb S y x n b b q W hW hS (pkb_self hp2) hbq hqS hx2 y1 hy1 hy0 hyx hnum hE hs h3
  have yi : (0 : Int) < (y.size : Int) := by omega
  have y2 : ((y[0]'(by omega)).toNat : Int) = 35 := by omega
  have HW0 := hide hW0
  have A0 := hide a0
  have HENV := hide henv
  have hsz0 : w.heap.size + 1 + 1 < W0.heap.size := lt_of_heap a0.r
  have HRA := hide hra
  have HWF := hide hwf
  have HL2 := hide hl2
  clear CP hW0 a0 ps0 h henv hp hx hp2 hx2 hra hwf hl2 hnum hyx hy0 hbq hqS
  go_enter Tryz.func61, Tryz.ntmps61
  go_wp2_with fail
  rw [← HW0.out]
  refine HCP.out.mono ?_
  rintro e w1 ⟨rfl, hf1, ps1⟩
  obtain ⟨b0, b1, b2⟩ := A0.out.step hf1 (fun i hi e => by have e : i = pb := e; omega)
  have c0 := cell_of_heap b0 0
  have lb0 := lt_of_heap b0
  have BB := hide (And.intro b0 (And.intro b1 b2))
  have PS1 := hide ps1
  have F01 := hide ((A0.out.fr.mono (fun _ _ e => e.elim)).trans hf1)
  clear hf1 ps1 b0 b1 b2 HCP
  go_wp2_with fail
  refine (CN.out _ PS1.out).mono ?_
  rintro e w2 ⟨rfl, hf2, ps2⟩
  obtain ⟨b0, b1, b2⟩ := BB.out
  have g0 := fr_heap b0 hf2 (fun e => by have e : w.heap.size = pb := e; omega)
  have g1 := fr_heap b1 hf2 (fun e => by have e : w.heap.size + 1 = pb := e; omega)
  have g2 := fr_heap b2 hf2 (fun e => by have e : w.heap.size + 1 + 1 = pb := e; omega)
  have BB2 := hide (And.intro g0 (And.intro g1 g2))
  have PS2 := hide ps2
  have F02 := hide (F01.out.trans hf2)
  clear c0 lb0 b0 b1 b2 hf2 ps2 BB F01 PS1
  have c0 := cell_of_heap g0 0
  have lb0 := lt_of_heap g0
  clear g0 g1 g2
  go_wp2_with fail
  refine (CP2.out _ PS2.out).mono ?_
  rintro e w3 ⟨rfl, hf3, ps3⟩
  obtain ⟨b0, b1, b2⟩ := BB2.out
  have g0 := fr_heap b0 hf3 (fun e => by have e : w.heap.size = pb := e; omega)
  have g1 := fr_heap b1 hf3 (fun e => by have e : w.heap.size + 1 = pb := e; omega)
  have g2 := fr_heap b2 hf3 (fun e => by have e : w.heap.size + 1 + 1 = pb := e; omega)
  have BB3 := hide (And.intro g0 (And.intro g1 g2))
  have PS3 := hide ps3
  have F03 := hide (F02.out.trans hf3)
  clear c0 lb0 b0 b1 b2 hf3 ps3 BB2 F02 PS2 g0 g1 g2
  go_wp2_with fail
  obtain ⟨W4, hW4⟩ : ∃ W4, W4 = ((w3.alloc (.cells #[.int .i64 0, .int .i64 0, .string ⟨#[]⟩, .string ⟨#[]⟩, .slice none 0 0, .slice none 0 0, .slice none 0 0] 32)).alloc (.cells #[.string ⟨#[43]⟩, .string ⟨#[45]⟩, .string ⟨#[42]⟩, .string ⟨#[60]⟩, .string ⟨#[61]⟩] 9)) := ⟨_, rfl⟩
  rw [← hW4]
  obtain ⟨b0, b1, b2⟩ := BB3.out
  have l3 := lt_of_heap b2
  have f34 : Fr No w3 W4 := by rw [hW4]; exact ((Fr.refl No w3).alloc _).alloc _
  have t4 : W4.heap[w3.heap.size]? = some (.cells #[.int .i64 0, .int .i64 0, .string ⟨#[]⟩, .string ⟨#[]⟩, .slice none 0 0, .slice none 0 0, .slice none 0 0] 32 (0, 0)) := by rw [hW4]; exact fr_heap (heap_alloc_new w3 _) ((Fr.refl No _).alloc _) (fun e => e)
  have s4 : W4.heap[w3.heap.size + 1]? = some (.cells #[.string ⟨#[43]⟩, .string ⟨#[45]⟩, .string ⟨#[42]⟩, .string ⟨#[60]⟩, .string ⟨#[61]⟩] 9 (0, 0)) := by
    rw [hW4]
    have h := heap_alloc_new (w3.alloc (.cells #[.int .i64 0, .int .i64 0, .string ⟨#[]⟩, .string ⟨#[]⟩, .slice none 0 0, .slice none 0 0, .slice none 0 0] 32)) (.cells #[.string ⟨#[43]⟩, .string ⟨#[45]⟩, .string ⟨#[42]⟩, .string ⟨#[60]⟩, .string ⟨#[61]⟩] 9)
    rw [World.size_alloc] at h
    exact h
  have g0 := fr_heap b0 f34 (fun e => e)
  have g1 := fr_heap b1 f34 (fun e => e)
  have g2 := fr_heap b2 f34 (fun e => e)
  have c0 : W4.cell? ⟨w.heap.size, 0, none⟩ = some (.pointer (some ⟨pb, 0, none⟩)) := cell_of_heap g0 0
  have S4 := hide s4
  have T4 := hide t4
  have BB4 := hide (And.intro g0 (And.intro g1 g2))
  have PS4 := hide (PS3.out.fr f34 (fun e => e))
  have F04 := hide (F03.out.no f34)
  have l4 := lt_of_heap s4
  clear hW4 b0 b1 b2 f34 t4 s4 g0 g1 g2 BB3 PS3 F03
  go_loop [10, 47] (fun p q => (q = .int .i64 0 ∧ p = .int .i64 0) ∨ (q = .int .i64 1 ∧ p = .int .i64 0) ∨ (q = .int .i64 2 ∧ p = .int .i64 0) ∨ (q = .int .i64 3 ∧ p = .int .i64 0) ∨ (q = .int .i64 4 ∧ p = .int .i64 0) ∨ (q = .int .i64 5 ∧ p = .int .i64 0)) (fun _ q => 5 - (intOf q).toNat)
  case atStart => exact .inl ⟨rfl, rfl⟩
  case round =>
    rcases hrel with ⟨rfl, rfl⟩ | ⟨rfl, rfl⟩ | ⟨rfl, rfl⟩ | ⟨rfl, rfl⟩ | ⟨rfl, rfl⟩ | ⟨rfl, rfl⟩
    · have sc : W4.cell? ⟨w3.heap.size + 1, 0, none⟩ = some (.string ⟨#[43]⟩) := cell_of_heap S4.out 0
      go_wp2_with fail
      go_round
      case rel => exact .inr (.inl ⟨rfl, rfl⟩)
      case measure => decide
    · have sc : W4.cell? ⟨w3.heap.size + 1, 1, none⟩ = some (.string ⟨#[45]⟩) := cell_of_heap S4.out 1
      go_wp2_with fail
      go_round
      case rel => exact .inr (.inr (.inl ⟨rfl, rfl⟩))
      case measure => decide
    · have sc : W4.cell? ⟨w3.heap.size + 1, 2, none⟩ = some (.string ⟨#[42]⟩) := cell_of_heap S4.out 2
      go_wp2_with fail
      go_round
      case rel => exact .inr (.inr (.inr (.inl ⟨rfl, rfl⟩)))
      case measure => decide
    · have sc : W4.cell? ⟨w3.heap.size + 1, 3, none⟩ = some (.string ⟨#[60]⟩) := cell_of_heap S4.out 3
      go_wp2_with fail
      go_round
      case rel => exact .inr (.inr (.inr (.inr (.inl ⟨rfl, rfl⟩))))
      case measure => decide
    · have sc : W4.cell? ⟨w3.heap.size + 1, 4, none⟩ = some (.string ⟨#[61]⟩) := cell_of_heap S4.out 4
      go_wp2_with fail
      go_round
      case rel => exact .inr (.inr (.inr (.inr (.inr (⟨rfl, rfl⟩)))))
      case measure => decide
    · go_wp2_with fail
      refine (CN2.out _ PS4.out (HENV.out.fr F04.out (by omega) (fun i hi e => by have e : i = pb := e; omega)) (by omega)).mono ?_
      rintro e w5 ⟨rfl, hf5, ps5⟩
      have t5 := fr_heap T4.out hf5 (fun e => by have e : w3.heap.size = pb := e; omega)
      obtain ⟨b0, b1, b2⟩ := BB4.out
      have g0 := fr_heap b0 hf5 (fun e => by have e : w.heap.size = pb := e; omega)
      have g1 := fr_heap b1 hf5 (fun e => by have e : w.heap.size + 1 = pb := e; omega)
      have g2 := fr_heap b2 hf5 (fun e => by have e : w.heap.size + 1 + 1 = pb := e; omega)
      have T5 := hide t5
      have BB5 := hide (And.intro g0 (And.intro g1 g2))
      have PS5 := hide ps5
      have F05 := hide (F04.out.trans hf5)
      have rz := frozen_of_heap t5
      have r0 : w5.cell? ⟨w3.heap.size, 0, none⟩ = some (.int .i64 0) := cell_of_heap t5 0
      have r1 : w5.cell? ⟨w3.heap.size, 1, none⟩ = some (.int .i64 0) := cell_of_heap t5 1
      have l5 := lt_of_heap t5
      have c5 : w5.cell? ⟨w.heap.size, 0, none⟩ = some (.pointer (some ⟨pb, 0, none⟩)) := cell_of_heap g0 0
      have hne1 : ¬ w.heap.size = w3.heap.size := by omega
      have hne2 : ¬ w3.heap.size = w.heap.size := by omega
      clear b0 b1 b2 g0 g1 g2 t5 ps5 hf5 BB4 T4 PS4 F04 S4 c0 HW0 A0
      go_wp2_with fail
      obtain ⟨W6, hW6⟩ : ∃ W6, W6 = (w5.setCell ⟨w3.heap.size, 0, none⟩ (.int .i64 3)).setCell ⟨w3.heap.size, 1, none⟩ (.int .i64 n) := ⟨_, rfl⟩
      rw [← hW6]
      have f56 : Fr (· = w3.heap.size) w5 W6 := by rw [hW6]; exact ((Fr.refl (· = w3.heap.size) w5).setCell (p := ⟨w3.heap.size, 0, none⟩) (.inl rfl) _).setCell (p := ⟨w3.heap.size, 1, none⟩) (.inl rfl) _
      have t6 : W6.heap[w3.heap.size]? = some (.cells (tmCells 3 n ⟨#[]⟩ (.slice none 0 0) (.slice none 0 0)) 32 (0, 0)) := by rw [hW6]; simp [World.setCell, Array.getElem?_modify, T5.out, tmCells]
      have F06 : Fr (· = pb) w W6 := F05.out.trans' f56 (fun i hi e => by have e : i = w3.heap.size := e; omega)
      have env6 := HENV.out.fr F06 (by omega) (fun i hi e => by have e : i = pb := e; omega)
      have ps6 := PS5.out.fr f56 (fun e => by have e : pb = w3.heap.size := e; omega)
      obtain ⟨b0, b1, b2⟩ := BB5.out
      have x6 := fr_heap b0 f56 (fun e => by have e : w.heap.size = w3.heap.size := e; omega)
      have d6 := fr_heap b1 f56 (fun e => by have e : w.heap.size + 1 = w3.heap.size := e; omega)
      have q6 := fr_heap b2 f56 (fun e => by have e : w.heap.size + 1 + 1 = w3.heap.size := e; omega)
      have l6 := lt_of_heap t6
      refine (manyA_any K W6.heap.size w3.heap.size w.heap.size (w.heap.size + 1) pb S q f d 3 n ⟨#[]⟩ (.slice none 0 0) l W6 HRA.out ps6 hS env6 h3 (by omega) t6 x6 d6 (Nat.le_refl _) (by omega) (by omega) (by omega) (by omega) (by omega) (by omega) (by omega) ⟨by omega, by omega⟩ (by omega) HL2.out).mono ?_
      rintro e w9 ⟨rfl, f69, ps9, v9, t9, xs8, ho9, he8⟩
      obtain ⟨va, vc, rfl⟩ := row_form ho9
      have q9 := fr_heap q6 f69 (fun e => by rcases e with e | e | e <;> omega)
      have F09 : Fr (· = pb) w w9 := F06.trans' f69 (fun i hi e => by
        rcases e with e | e | e
        · exact e
        · omega
        · omega)
      have s6 := F06.size
      have H9 := hide (And.intro q9 (And.intro t9 (And.intro ps9 (And.intro ho9 (And.intro F09 (And.intro he8 (And.intro s6 f69.size)))))))
      have r0 : w9.cell? ⟨w3.heap.size, 0, none⟩ = some (.int .i64 3) := cell_of_heap t9 0
      have r1 : w9.cell? ⟨w3.heap.size, 1, none⟩ = some (.int .i64 n) := cell_of_heap t9 1
      have r2 : w9.cell? ⟨w3.heap.size, 2, none⟩ = some (.string ⟨#[]⟩) := cell_of_heap t9 2
      have r3 : w9.cell? ⟨w3.heap.size, 3, none⟩ = some (.string ⟨#[]⟩) := cell_of_heap t9 3
      have r4 : w9.cell? ⟨w3.heap.size, 4, none⟩ = some (.slice none 0 0) := cell_of_heap t9 4
      have r5 : w9.cell? ⟨w3.heap.size, 5, none⟩ = some (.slice va l.length vc) := cell_of_heap t9 5
      have r6 : w9.cell? ⟨w3.heap.size, 6, none⟩ = some (.slice none 0 0) := cell_of_heap t9 6
      have z0 := cell_of_heap q9
      have zf := frozen_of_heap q9
      have l9 := lt_of_heap t9
      have lq9 := lt_of_heap q9
      clear f56 t6 F06 env6 ps6 b0 b1 b2 x6 d6 q6 f69 ps9 t9 q9 ho9 F09 he8 BB5 PS5 F05 T5 hW6
      go_wp2_with fail
      obtain ⟨q9, t9, ps9, ho9, F09, he8, s6, s9⟩ := H9.out
      have hwf := HWF.out
      obtain ⟨s1, s2⟩ := set7 q9 (.int .i64 3) (.int .i64 n) (.string ⟨#[]⟩) (.string ⟨#[]⟩) (.slice none 0 0) (.slice va l.length vc) (.slice none 0 0)
      refine bodyPost_ret (retT rfl _ _ (w.heap.size + 1 + 1) _ _ _ _ _ _ _ (0, 0) rfl s1) rfl ⟨[.int .i64 3, .int .i64 n, .string ⟨#[]⟩, .string ⟨#[]⟩, .slice none 0 0, .slice va l.length vc, .slice none 0 0], rfl, ?_, ?_, ?_⟩
      · have z1 := s2.size
        refine ⟨.slice none 0 0, .slice va l.length vc, .slice none 0 0, xs8, [], rfl, Nat.zero_le _, hwf, ⟨RowS.nil _ _, fun x hx => by simp [ncon] at hx⟩, ?_, ?_, RowS.nil _ _, rfl⟩
        · refine own_rowS (row_fr ho9 s2 (fun g hg e => by have := (ho9.lt g hg).1; have e : g = w.heap.size + 1 + 1 := e; omega)) (fun g hg => ?_)
          have := ho9.lt g hg
          exact ⟨by omega, by omega⟩
        · refine he8.mono fun _ _ h => h.kept ⟨by omega, fun g hg hl => ⟨⟨by omega, by omega⟩, ?_⟩⟩
          exact s2.block g (by omega) (fun e => by have e : g = w.heap.size + 1 + 1 := e; omega)
      · exact F09.trans' s2 (fun j hj e => by have e : j = w.heap.size + 1 + 1 := e; omega)
      · exact ps9.fr s2 (fun e => by have e : pb = w.heap.size + 1 + 1 := e; omega)
end Go.Proofs.YtomahbdidlglfacGreatDoor

/- One list of functions behind another, in a region that draws its order. -/
namespace Go.Proofs.YtomahbdidlglfacGreatDoor
open Go.RowKit Go.Maps Go.WideMaps

theorem Tryz.infoFn : (Tryz.prog.info? 34).map (fun i => (i.zero, i.size, i.bytes)) = some (some (.agg #[.string ⟨#[]⟩, .slice none 0 0, .int .i64 0, .int .i64 0, .string ⟨#[]⟩, .string ⟨#[]⟩, .slice none 0 0, .slice none 0 0, .slice none 0 0]), 9, 160) := by kernel_rfl
end Go.Proofs.YtomahbdidlglfacGreatDoor

/- The document's reader: a text of one function. -/
namespace Go.Proofs.YtomahbdidlglfacGreatDoor
open Go.RowKit Go.Maps Go.WideMaps

theorem RowS.form {S : Nat → Prop} {w : World} {v : Value} {n : Nat} {xs : List Value} (h : RowS S w v n xs) : ∃ a cap, v = .slice a n cap ∧ n ≤ cap ∧ cap ≤ maxLen := by
  obtain ⟨a, cap, h1, h2, h3, _⟩ := h
  exact ⟨a, cap, h1, h2, h3⟩

/-- The words of a text of one function, of one parameter. -/
structure One (S nm x : ByteArray) (K b0 b1 b2 b3 b4 b5 b6 c7 b7 : Nat) (t : Pu.TT K) : Prop where
  size : S.size ≤ 1500
  p0 : pkb S 0 b0 (b0 + 1) = true
  x0 : wd S b0 (b0 + 1) = ⟨#[40]⟩
  p1 : pkb S (b0 + 1) b1 (b1 + 2) = true
  x1 : wd S b1 (b1 + 2) = ⟨#[102, 110]⟩
  p2 : pkb S (b1 + 2) b2 (b2 + nm.size) = true
  x2 : wd S b2 (b2 + nm.size) = nm
  n2 : isName nm = true
  m2 : 0 < nm.size
  p3 : pkb S (b2 + nm.size) b3 (b3 + 1) = true
  x3 : wd S b3 (b3 + 1) = ⟨#[40]⟩
  p4 : pkb S (b3 + 1) b4 (b4 + x.size) = true
  x4 : wd S b4 (b4 + x.size) = x
  n4 : isName x = true
  m4 : 0 < x.size
  q4 : ¬ x = ⟨#[41]⟩
  p5 : pkb S (b4 + x.size) b5 (b5 + 1) = true
  x5 : wd S b5 (b5 + 1) = ⟨#[41]⟩
  t6 : ∀ pb, RdT K pb S (b5 + 1) c7 0 t
  p7 : pkb S c7 b7 (b7 + 1) = true
  x7 : wd S b7 (b7 + 1) = ⟨#[41]⟩
  p8 : pkb S (b7 + 1) S.size S.size = true
  x8 : wd S S.size S.size = ⟨#[]⟩

end Go.Proofs.YtomahbdidlglfacGreatDoor

/- The document's reader: a parameter more, read by a closure; parameters in general. -/
namespace Go.Proofs.YtomahbdidlglfacGreatDoor
open Go.RowKit Go.Maps Go.WideMaps

set_option maxRecDepth 100000 in
set_option maxHeartbeats 8000000 in
theorem parseK_any (base fb pbx pb : Nat) (S nm : ByteArray) (at' a k : Nat) (v : Value) (l : List ByteArray) (w : World) (h : PS pb S at' 0 w) (hS : S.size ≤ 1600) (hp : pkb S at' a k = true) (hak : a < k) (hks : k ≤ S.size) (hn : isName (wd S a k) = true)
    (hf : w.heap[fb]? = some (.cells (fnCells nm v) 34 (0, 0))) (hx : w.heap[pbx]? = some (.cells #[.pointer (some ⟨pb, 0, none⟩)] 88 (0, 0))) (hown : w.ownsRow base 9 1 v l.length (l.map .string)) (hb : base ≤ w.heap.size) (hfb : fb < base) (hpb : pb < base) (hpx : pbx < base) (h1 : fb ≠ pb) (h2 : pbx ≠ pb) (_h3 : fb ≠ pbx) (hll : l.length ≤ 1000) :
    Calls Tryz.prog 60 #[.pointer (some ⟨fb, 0, none⟩), .pointer (some ⟨pbx, 0, none⟩)] w fun e w' => e = .returned (.tuple #[]) ∧ Fr (fun i => i = pb ∨ i = fb ∨ v.ownBlock = some i) w w' ∧ PS pb S k 0 w' ∧
      ∃ v', w'.heap[fb]? = some (.cells (fnCells nm v') 34 (0, 0)) ∧ w'.ownsRow base 9 1 v' (l ++ [wd S a k]).length ((l ++ [wd S a k]).map .string) := by
  obtain ⟨va, vc, rfl⟩ := row_form hown
  have lf := lt_of_heap hf
  have lx := lt_of_heap hx
  have lp := lt_of_heap h
  obtain ⟨x, hxw⟩ : ∃ x, x = wd S a k := ⟨_, rfl⟩
  have hxs : x.size ≤ maxLen := by
    rw [hxw]; unfold isName at hn; simp at hn; unfold maxLen; omega
  have SA : Hid (∀ W, Fr (· = pb) w W → (W.cell? ⟨fb, 1, none⟩ = some (.slice va l.length vc) ∧ W.cell? ⟨pbx, 0, none⟩ = some (.pointer (some ⟨pb, 0, none⟩)))) := fun W hW =>
    ⟨cell_of_heap (fr_heap hf hW h1) 1, cell_of_heap (fr_heap hx hW h2) 0⟩
  have OWN : Hid (∀ W, Fr (· = pb) w W → W.ownsRow base 9 1 (.slice va l.length vc) l.length (l.map .string)) := fun W hW => row_fr hown hW (fun g hg e => by have := (hown.lt g hg).1; have e : g = pb := e; omega)
  have CN : Hid (∀ W, Fr No w W → Calls Tryz.prog 58 #[.pointer (some ⟨pb, 0, none⟩)] W fun r w' => r = .returned (.string x) ∧ Fr (· = pb) w w' ∧ PS pb S k 0 w') := fun W hW => by
    rw [hxw]
    refine (pname_any pb S at' a k 0 W (h.fr hW (fun e => e)) hS hp hak hks hn).mono ?_
    rintro e w' ⟨he, hf1, hps⟩
    exact ⟨he, (hW.mono (fun _ _ e => e.elim)).trans hf1, hps⟩
  have D0 : Fr No w w.drew := (Fr.refl No w).drew
  have NT : Hid (¬ (Value.slice va l.length vc).ownBlock = some fb) := fun e => by have := (hown.lt fb e).1; omega
  have NX : Hid (¬ (Value.slice va l.length vc).ownBlock = some pbx) := fun e => by have := (hown.lt pbx e).1; omega
  have NP : Hid (¬ (Value.slice va l.length vc).ownBlock = some pb) := fun e => by have := (hown.lt pb e).1; omega
  have HF := hide hf
  have HH1 := hide h1
  have HB := hide hb
  have HXS := hide hxs
  obtain ⟨n0, n1⟩ := SA.out w (Fr.refl _ w)
  clear h hp hn hf hx hown hxs
  rw [← hxw]
  clear hxw
  go_enter Tryz.func60, Tryz.ntmps60
  go_wp2_with fail
  go_region_law (first
    | (go_simp; go_at_call 58; refine (CN.out _ (by first | exact D0 | exact Fr.refl _ _)).mono ?_; rintro e w1 ⟨rfl, hf1, ps1⟩; obtain ⟨m0, m1⟩ := SA.out w1 hf1; have m0l := lt_of_heap (fr_heap HF.out hf1 HH1.out); have F1 := hide hf1; have PS1 := hide ps1; clear hf1 ps1; dsimp only)
    | (refine step_append_names rfl (.tmp 3) (.tmp 6) rfl rfl (base := base) (B := w1.heap.size + 1) (n := l.length) (xs := l.map .string) (l := [x]) rfl rfl ((OWN.out _ F1.out).alloc _) (names_new w1 x HXS.out) (by simp; omega) (by have := F1.out.size; have := HB.out; rw [World.size_alloc]; omega) ?_; intro v2 w2 ho2 hg2 hl2; obtain ⟨g2, c2, hv2, hg2b, hg2l, hc2, hc2'⟩ := own_form ho2 (by simp); have hv3 : v2 = .slice (some ⟨g2, 0, none⟩) (l.length + 1) c2 := hv2; subst hv3; have f2 : Fr (fun i => (Value.slice va l.length vc).ownBlock = some i) w1 w2 := (((Fr.refl No w1).alloc _).mono (fun _ _ e => e.elim)).grown hg2 (fun i hi => .inl hi); have t2 := fr_heap (fr_heap HF.out F1.out HH1.out) f2 NT.out; have t5 := cell_of_heap t2 1; have tz := frozen_of_heap t2; have tl := lt_of_heap t2; have T2 := hide t2; have HO2 := hide ho2; have F2 := hide f2; have PS2 := hide (PS1.out.fr f2 NP.out); clear t2 ho2 f2 hg2 hl2 hv2))
  all_goals
    go_end0
    have e2 : Fr (· = fb) w2 (w2.setCell ⟨fb, 1, none⟩ (.slice (some ⟨g2, 0, none⟩) (l.length + 1) c2)) := (Fr.refl (· = fb) w2).setCell (p := ⟨fb, 1, none⟩) (.inl rfl) _
    refine ⟨rfl, ?_, PS2.out.fr e2 (fun e => HH1.out (by have e : pb = fb := e; exact e.symm)), .slice (some ⟨g2, 0, none⟩) (l.length + 1) c2, ?_, ?_⟩
    · exact ((F1.out.mono (T' := fun i => i = pb ∨ i = fb ∨ (Value.slice va l.length vc).ownBlock = some i) (fun _ _ e => .inl e)).trans' F2.out (fun i _ e => .inr (.inr e))).trans' e2 (fun i _ e => .inr (.inl e))
    · show (World.setCell _ _ _).heap[fb]? = _
      simp [World.setCell, Array.getElem?_modify, T2.out, fnCells]
    · have := row_fr HO2.out e2 (fun g hg e => by
        have e : g = fb := e
        have := (HO2.out.lt g hg).1
        omega)
      simpa using this
end Go.Proofs.YtomahbdidlglfacGreatDoor
