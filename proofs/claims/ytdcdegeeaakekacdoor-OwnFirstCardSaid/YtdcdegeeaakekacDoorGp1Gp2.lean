/- The document's reader: a parameter more, read by a closure; parameters in general. -/
import Derived.Test.YtdcdegeeaakekacDoorG1h
import Derived.Test.YtdcdegeeaakekacDoorOw1Ow2
import Derived.Deep.RegionLaw
namespace Go.Proofs.YtdcdegeeaakekacDoor
open Go.RowKit Go.Maps Go.WideMaps

set_option maxRecDepth 100000 in
set_option maxHeartbeats 8000000 in
theorem parseK_any (base fb pbx pb : Nat) (S nm : ByteArray) (at' a k : Nat) (v : Value) (l : List ByteArray) (w : World) (h : PS pb S at' 0 w) (hS : S.size ≤ 1600) (hp : pkb S at' a k = true) (hak : a < k) (hks : k ≤ S.size) (hn : isName (wd S a k) = true)
    (hf : w.heap[fb]? = some (.cells (fnCells nm v) 33 (0, 0))) (hx : w.heap[pbx]? = some (.cells #[.pointer (some ⟨pb, 0, none⟩)] 97 (0, 0))) (hown : w.ownsRow base 9 1 v l.length (l.map .string)) (hb : base ≤ w.heap.size) (hfb : fb < base) (hpb : pb < base) (hpx : pbx < base) (h1 : fb ≠ pb) (h2 : pbx ≠ pb) (_h3 : fb ≠ pbx) (hll : l.length ≤ 1000) :
    Calls Tryd.prog 74 #[.pointer (some ⟨fb, 0, none⟩), .pointer (some ⟨pbx, 0, none⟩)] w fun e w' => e = .returned (.tuple #[]) ∧ Fr (fun i => i = pb ∨ i = fb ∨ v.ownBlock = some i) w w' ∧ PS pb S k 0 w' ∧
      ∃ v', w'.heap[fb]? = some (.cells (fnCells nm v') 33 (0, 0)) ∧ w'.ownsRow base 9 1 v' (l ++ [wd S a k]).length ((l ++ [wd S a k]).map .string) := by
  obtain ⟨va, vc, rfl⟩ := row_form hown
  have lf := lt_of_heap hf
  have lx := lt_of_heap hx
  have lp := lt_of_heap h
  obtain ⟨x, hxw⟩ : ∃ x, x = wd S a k := ⟨_, rfl⟩
  have hxs : x.size ≤ maxLen := by
    rw [hxw]; unfold isName at hn; simp at hn; unfold maxLen; omega
  have SA : Hid (∀ W, Fr (· = pb) w W → (W.cell? ⟨fb, 1, none⟩ = some (.slice va l.length vc) ∧ W.cell? ⟨pbx, 0, none⟩ = some (.pointer (some ⟨pb, 0, none⟩)))) := fun W hW =>
    ⟨cell_of_heap (fr_heap hf hW h1) 1, cell_of_heap (fr_heap hx hW h2) 0⟩
  have OWN : Hid (∀ W, Fr (· = pb) w W → W.ownsRow base 9 1 (.slice va l.length vc) l.length (l.map .string)) := fun W hW => row_fr hown hW (fun g hg e => by have := (hown.lt g hg).1; have e : g = pb := e; omega)
  have CN : Hid (∀ W, Fr No w W → Calls Tryd.prog 72 #[.pointer (some ⟨pb, 0, none⟩)] W fun r w' => r = .returned (.string x) ∧ Fr (· = pb) w w' ∧ PS pb S k 0 w') := fun W hW => by
    rw [hxw]
    refine (pname_any pb S at' a k 0 W (h.fr hW (fun e => e)) hS hp hak hks hn).mono ?_
    rintro e w' ⟨he, hf1, hps⟩
    exact ⟨he, (hW.mono (fun _ _ e => e.elim)).trans hf1, hps⟩
  have D0 : Fr No w w.drew := (Fr.refl No w).drew
  have NT : Hid (¬ (Value.slice va l.length vc).ownBlock = some fb) := fun e => by have := (hown.lt fb e).1; omega
  have NX : Hid (¬ (Value.slice va l.length vc).ownBlock = some pbx) := fun e => by have := (hown.lt pbx e).1; omega
  have NP : Hid (¬ (Value.slice va l.length vc).ownBlock = some pb) := fun e => by have := (hown.lt pb e).1; omega
  have HF := hide hf
  have HH1 := hide h1
  have HB := hide hb
  have HXS := hide hxs
  obtain ⟨n0, n1⟩ := SA.out w (Fr.refl _ w)
  clear h hp hn hf hx hown hxs
  rw [← hxw]
  clear hxw
  go_enter Tryd.func74, Tryd.ntmps74
  go_wp2_with fail
  go_region_law (first
    | (go_simp; go_at_call 72; refine (CN.out _ (by first | exact D0 | exact Fr.refl _ _)).mono ?_; rintro e w1 ⟨rfl, hf1, ps1⟩; obtain ⟨m0, m1⟩ := SA.out w1 hf1; have m0l := lt_of_heap (fr_heap HF.out hf1 HH1.out); have F1 := hide hf1; have PS1 := hide ps1; clear hf1 ps1; dsimp only)
    | (refine step_append_names rfl (.tmp 3) (.tmp 6) rfl rfl (base := base) (B := w1.heap.size + 1) (n := l.length) (xs := l.map .string) (l := [x]) rfl rfl ((OWN.out _ F1.out).alloc _) (names_new w1 x HXS.out) (by simp; omega) (by have := F1.out.size; have := HB.out; rw [World.size_alloc]; omega) ?_; intro v2 w2 ho2 hg2 hl2; obtain ⟨g2, c2, hv2, hg2b, hg2l, hc2, hc2'⟩ := own_form ho2 (by simp); have hv3 : v2 = .slice (some ⟨g2, 0, none⟩) (l.length + 1) c2 := hv2; subst hv3; have f2 : Fr (fun i => (Value.slice va l.length vc).ownBlock = some i) w1 w2 := (((Fr.refl No w1).alloc _).mono (fun _ _ e => e.elim)).grown hg2 (fun i hi => .inl hi); have t2 := fr_heap (fr_heap HF.out F1.out HH1.out) f2 NT.out; have t5 := cell_of_heap t2 1; have tz := frozen_of_heap t2; have tl := lt_of_heap t2; have T2 := hide t2; have HO2 := hide ho2; have F2 := hide f2; have PS2 := hide (PS1.out.fr f2 NP.out); clear t2 ho2 f2 hg2 hl2 hv2))
  all_goals
    go_end0
    have e2 : Fr (· = fb) w2 (w2.setCell ⟨fb, 1, none⟩ (.slice (some ⟨g2, 0, none⟩) (l.length + 1) c2)) := (Fr.refl (· = fb) w2).setCell (p := ⟨fb, 1, none⟩) (.inl rfl) _
    refine ⟨rfl, ?_, PS2.out.fr e2 (fun e => HH1.out (by have e : pb = fb := e; exact e.symm)), .slice (some ⟨g2, 0, none⟩) (l.length + 1) c2, ?_, ?_⟩
    · exact ((F1.out.mono (T' := fun i => i = pb ∨ i = fb ∨ (Value.slice va l.length vc).ownBlock = some i) (fun _ _ e => .inl e)).trans' F2.out (fun i _ e => .inr (.inr e))).trans' e2 (fun i _ e => .inr (.inl e))
    · show (World.setCell _ _ _).heap[fb]? = _
      simp [World.setCell, Array.getElem?_modify, T2.out, fnCells]
    · have := row_fr HO2.out e2 (fun g hg e => by
        have e : g = fb := e
        have := (HO2.out.lt g hg).1
        omega)
      simpa using this
end Go.Proofs.YtdcdegeeaakekacDoor

/- The document's reader: 'many' over names. -/
namespace Go.Proofs.YtdcdegeeaakekacDoor
open Go.RowKit Go.Maps Go.WideMaps

/-- From a place the names lie, and a bracket behind them, up to b. -/
def RdN (S : ByteArray) : Nat → List ByteArray → Nat → Prop
  | a, [], b => ∃ c, pkb S a c (c + 1) = true ∧ wd S c (c + 1) = ⟨#[41]⟩ ∧ c + 1 ≤ S.size ∧ b = c + 1
  | a, x :: xs, b => ∃ p, pkb S a p (p + x.size) = true ∧ wd S p (p + x.size) = x ∧ isName x = true ∧ 0 < x.size ∧ ¬ x = ⟨#[41]⟩ ∧ p + x.size ≤ S.size ∧ RdN S (p + x.size) xs b

set_option maxRecDepth 100000 in
set_option maxHeartbeats 4000000 in
theorem manyN_any (base fb pbx pb : Nat) (S nm : ByteArray) (at0 b : Nat) (v : Value) (l : List ByteArray) (w : World) (h : PS pb S at0 0 w) (hS : S.size ≤ 1600) (hr : RdN S at0 l b)
    (hf : w.heap[fb]? = some (.cells (fnCells nm v) 33 (0, 0))) (hx : w.heap[pbx]? = some (.cells #[.pointer (some ⟨pb, 0, none⟩)] 97 (0, 0))) (hown : w.ownsRow base 9 1 v 0 []) (hb : base ≤ w.heap.size) (hfb : fb < base) (hpb : pb < base) (hpx : pbx < base) (h1 : fb ≠ pb) (h2 : pbx ≠ pb) (h3 : fb ≠ pbx) (hll : l.length ≤ 1000) :
    Calls Tryd.prog 73 #[.pointer (some ⟨pb, 0, none⟩), .func (.func 74) #[] #[.pointer (some ⟨fb, 0, none⟩), .pointer (some ⟨pbx, 0, none⟩)]] w fun e w' => e = .returned (.tuple #[]) ∧ Fr (fun i => i = pb ∨ i = fb ∨ base ≤ i) w w' ∧ PS pb S b 0 w' ∧
      ∃ v', w'.heap[fb]? = some (.cells (fnCells nm v') 33 (0, 0)) ∧ w'.ownsRow base 9 1 v' l.length (l.map .string) := by
  have lf := lt_of_heap hf
  have lp := lt_of_heap h
  have lx := lt_of_heap hx
  have H := hide h
  have HR := hide hr
  have HF := hide hf
  have HX := hide hx
  have HO := hide hown
  have HB := hide hb
  have HD := hide (And.intro hfb (And.intro hpb (And.intro hpx (And.intro h1 (And.intro h2 h3)))))
  have HLL := hide hll
  clear h hr hf hx hown hb hfb hpb hpx h1 h2 h3 hll
  go_enter Tryd.func73, Tryd.ntmps73
  go_wp2_with fail
  go_loopg [] (l.length + 1) (fun gn wr => ∃ ys rest at', l = ys ++ rest ∧ gn = rest.length + 1 ∧ PS pb S at' 0 wr ∧ RdN S at' rest b ∧ Fr (fun i => i = pb ∨ i = fb ∨ base ≤ i) w wr ∧ ∃ v, wr.heap[fb]? = some (.cells (fnCells nm v) 33 (0, 0)) ∧ wr.ownsRow base 9 1 v ys.length (ys.map .string))
  case atStart => exact ⟨[], l, at0, rfl, rfl, H.out, HR.out, Fr.refl _ _, v, HF.out, HO.out⟩
  case round =>
    obtain ⟨ys, rest, at', hl, hgn, hps, hrd, hfr, v1, hfb1, hown1⟩ := hrel
    obtain ⟨hfb, hpb, hpx, h1, h2, h3⟩ := HD.out
    have hpx1 : wr.heap[pbx]? = some (.cells #[.pointer (some ⟨pb, 0, none⟩)] 97 (0, 0)) := fr_heap HX.out hfr (fun e => by rcases e with e | e | e <;> omega)
    have c0 := cell_of_heap hps 2
    have lw := lt_of_heap hps
    have hll := HLL.out
    have hbs : base ≤ wr.heap.size := Nat.le_trans HB.out hfr.size
    cases rest with
    | nil =>
      obtain ⟨c, hp2, hb2, hc, rfl⟩ := hrd
      have CP : Hid (Calls Tryd.prog 70 #[.pointer (some ⟨pb, 0, none⟩)] wr fun r w' => r = .returned (.string ⟨#[41]⟩) ∧ Fr (· = pb) wr w' ∧ PS pb S c 0 w') := by rw [← hb2]; exact peek_any pb S at' c (c + 1) 0 wr hps hS hp2
      have CW : Hid (∀ W, PS pb S c 0 W → Calls Tryd.prog 71 #[.pointer (some ⟨pb, 0, none⟩), .string ⟨#[41]⟩] W fun r w' => r = .returned (.tuple #[]) ∧ Fr (· = pb) W w' ∧ PS pb S (c + 1) 0 w') := fun W hps => pwant_any pb S ⟨#[41]⟩ c c (c + 1) 0 W hps hS (pkb_self hp2) (by omega) hc hb2
      rw [List.append_nil] at hl
      have HH := hide (And.intro hl (And.intro hfr (And.intro hfb1 hown1)))
      clear hps hfr hfb1 hown1 hpx1 hl hp2 hb2
      go_wp2_with fail
      refine CP.out.mono ?_
      rintro e w1 ⟨rfl, hf1, ps1⟩
      have F1 := hide hf1
      have PS1 := hide ps1
      clear hf1 ps1 c0 CP
      go_wp2_with fail
      refine (CW.out _ PS1.out).mono ?_
      rintro e w2 ⟨rfl, hf2, ps2⟩
      have F2 := hide (F1.out.trans hf2)
      have PS2 := hide ps2
      clear hf2 ps2 CW
      go_wp2_with fail
      go_end0
      obtain ⟨hl, hfr, hfb1, hown1⟩ := HH.out
      subst hl
      exact ⟨rfl, hfr.trans' F2.out (fun i _ e => .inl e), PS2.out, v1, fr_heap hfb1 F2.out h1, row_fr hown1 F2.out (fun g hg e => by have := (hown1.lt g hg).1; have e : g = pb := e; omega)⟩
    | cons x xs =>
      obtain ⟨p, hp, hwd, hnm, hx0, hne, hks, hrd2⟩ := hrd
      have hne' : (!x.toList == [41]) = true := by
        have h := str_ne hne
        rw [show (⟨#[41]⟩ : ByteArray).toList = [41] from by rw [ByteArray.toList_eq]] at h
        exact h
      have CP : Hid (Calls Tryd.prog 70 #[.pointer (some ⟨pb, 0, none⟩)] wr fun r w' => r = .returned (.string x) ∧ Fr (· = pb) wr w' ∧ PS pb S p 0 w') := by
        have h := peek_any pb S at' p (p + x.size) 0 wr hps hS hp
        rw [hwd] at h
        exact h
      have hyl : ys.length ≤ 1000 := by
        have : l.length = ys.length + (x :: xs).length := by rw [hl, List.length_append]
        omega
      have CL : Hid (∀ W, Fr (· = pb) wr W → PS pb S p 0 W → Calls Tryd.prog 74 #[.pointer (some ⟨fb, 0, none⟩), .pointer (some ⟨pbx, 0, none⟩)] W fun e w' => e = .returned (.tuple #[]) ∧ Fr (fun i => i = pb ∨ i = fb ∨ base ≤ i) W w' ∧ PS pb S (p + x.size) 0 w' ∧
          ∃ v', w'.heap[fb]? = some (.cells (fnCells nm v') 33 (0, 0)) ∧ w'.ownsRow base 9 1 v' (ys ++ [x]).length ((ys ++ [x]).map .string)) := fun W hW hps => by
        have hoW := row_fr hown1 hW (fun g hg e => by have := (hown1.lt g hg).1; have e : g = pb := e; omega)
        have h := parseK_any base fb pbx pb S nm p p (p + x.size) v1 ys W hps hS (pkb_self hp) (by omega) hks (by rw [hwd]; exact hnm) (fr_heap hfb1 hW h1) (fr_heap hpx1 hW h2) hoW (Nat.le_trans hbs hW.size) hfb hpb hpx h1 h2 h3 hyl
        rw [hwd] at h
        exact h.mono fun e w' ⟨h1, h2, h3, h4⟩ => ⟨h1, h2.mono (fun i _ e => e.imp (fun e => e) (fun e => e.imp (fun e => e) (fun e => (hoW.lt i e).1))), h3, h4⟩
      have HH := hide (And.intro hl hfr)
      have HRD := hide hrd2
      have HGN := hide hgn
      clear hps hfr hfb1 hown1 hpx1 hl hrd2 hp hwd hnm hne hgn
      go_wp2_with fail
      refine CP.out.mono ?_
      rintro e w1 ⟨rfl, hf1, ps1⟩
      have F1 := hide hf1
      have PS1 := hide ps1
      clear hf1 ps1 c0 CP
      go_wp2_with fail
      refine (CL.out _ F1.out PS1.out).mono ?_
      rintro e w2 ⟨rfl, hf2, ps2, v2, hfb2, hown2⟩
      have F2 := hide ((F1.out.mono (T' := fun i => i = pb ∨ i = fb ∨ base ≤ i) (fun _ _ e => .inl e)).trans hf2)
      have HH2 := hide (And.intro ps2 (And.intro hfb2 hown2))
      clear hf2 ps2 hfb2 hown2 CL
      go_wp2_with fail
      go_roundg (xs.length + 1)
      case measure => have := HGN.out; simp only [List.length_cons] at this; omega
      case rel => exact ⟨ys ++ [x], xs, p + x.size, by rw [HH.out.1, List.append_assoc]; rfl, rfl, HH2.out.1, HRD.out, HH.out.2.trans F2.out, v2, HH2.out.2.1, HH2.out.2.2⟩
end Go.Proofs.YtdcdegeeaakekacDoor
