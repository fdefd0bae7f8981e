/- 'Own' at what has counting around it and in it: so has the copy. -/
import Derived.Test.YtomahbdidlglfacGreatDoorGn
import Derived.Test.YtomahbdidlglfacGreatDoorOt1Er2Er3Td0
namespace Go.Proofs.YtomahbdidlglfacGreatDoor
open Go.RowKit Go.Maps Go.WideMaps

theorem EachD.eachM {α : Type} {n : Nat} {P : (Nat → Prop) → List Value → α → Prop} {Q : List Value → α → Prop} : ∀ {l : List α} {V : Nat → Prop} {xs : List Value}, (∀ U c a, a ∈ l → Sub U V → P U c a → Q c a) → EachD n P V xs l → Each n Q xs l
  | [], _, _, _, e => e
  | _ :: _, _, _, h, ⟨_, _, ck, rest, h1, h2, h3, h4, _, h6, h7⟩ => ⟨ck, rest, h1, h2, h _ _ _ (List.mem_cons_self ..) h3 h6, EachD.eachM (fun U c a ha hU hp => h U c a (List.mem_cons_of_mem _ ha) (fun g hg => h4 g (hU g hg)) hp) h7⟩
theorem wt_arg {k : Nat} {nd : Pu.Node (Pu.TT k)} {a : Pu.TT k} (h : a ∈ nd.args) : Pu.wt k a ≤ Pu.wt (k + 1) nd := by
  obtain ⟨i, hi, rfl⟩ := List.mem_iff_getElem.1 h
  have h1 := wt_get (Pu.wt k) nd.args i hi
  have hwt : Pu.wt (k + 1) nd = 1 + nd.vars.length + (nd.args.map (Pu.wt k)).sum + (nd.cases.map fun c => 1 + c.2.1.length + Pu.wt k c.2.2).sum := rfl
  omega
theorem wt_case {k : Nat} {nd : Pu.Node (Pu.TT k)} {c : Int × List ByteArray × Pu.TT k} (h : c ∈ nd.cases) : c.2.1.length + Pu.wt k c.2.2 ≤ Pu.wt (k + 1) nd := by
  obtain ⟨i, hi, rfl⟩ := List.mem_iff_getElem.1 h
  have h1 := wt_get (fun c : Int × List ByteArray × Pu.TT k => 1 + c.2.1.length + Pu.wt k c.2.2) nd.cases i hi
  have hwt : Pu.wt (k + 1) nd = 1 + nd.vars.length + (nd.args.map (Pu.wt k)).sum + (nd.cases.map fun c => 1 + c.2.1.length + Pu.wt k c.2.2).sum := rfl
  have h2 : 1 + nd.cases[i].2.1.length + Pu.wt k nd.cases[i].2.2 ≤ (nd.cases.map fun c => 1 + c.2.1.length + Pu.wt k c.2.2).sum := h1
  omega

/-- A term with what counts, below B. -/
def CWB (M k m B : Nat) (w : World) (cs : List Value) (t : Pu.TT k) : Prop := Pu.wt k t ≤ 1073741824 ∧ ∃ V : Nat → Prop, (∀ g, V g → g < B) ∧ CW M k m w V cs t
def OwnCW (M k m : Nat) : Prop := ∀ (B : Nat) (w : World) (cs : List Value) (t : Pu.TT k), CWB M k m B w cs t → B ≤ w.heap.size →
  Calls Tryz.prog 40 #[.agg cs.toArray] w fun e w' => ∃ cs', e = .returned (.agg cs'.toArray) ∧ Fr No w w' ∧ CW M k m w' (New w w') cs' t
theorem elm_cw (M k : Nat) (ih : OwnCW M k M) : Elm (fun B w cs (a : Pu.TT k) => CWB M k M B w cs a) (fun w V cs a => CW M k M w V cs a) where
  form := fun ⟨_, _, _, h⟩ => h.form
  old := fun ⟨hw, V, hV, h⟩ ho hs => ⟨hw, V, hV, h.kept ⟨hs, fun g hg _ => ⟨hg, ho g (hV g hg)⟩⟩⟩
  dform := fun h => h.form
  dkept := fun h st => h.kept st
  own := ih
theorem own_nodeCW (M k : Nat) (ih : OwnCW M k M) (nd : Pu.Node (Pu.TT k)) (hw : Pu.wt (k + 1) nd ≤ 1073741824) (B : Nat) (w : World) (V : Nat → Prop) (cs : List Value) (hV : ∀ g, V g → g < B) (h : RND (CW M k M w) w V cs nd) (hB : B ≤ w.heap.size) :
    Calls Tryz.prog 40 #[.agg cs.toArray] w fun e w' => ∃ cs', e = .returned (.agg cs'.toArray) ∧ Fr No w w' ∧ RND (CW M k M w') w' (New w w') cs' nd := by
  obtain ⟨vv, av, cv, acs, ccs, V0, V1, V2, V3, V4, h1, h2, h3, h4, h5, h6, h7, h8, h9⟩ := h
  have hwt : Pu.wt (k + 1) nd = 1 + nd.vars.length + (nd.args.map (Pu.wt k)).sum + (nd.cases.map fun c => 1 + c.2.1.length + Pu.wt k c.2.2).sum := rfl
  have hla := len_le (Pu.wt k) (wt_pos k) nd.args
  have hlc := len_le (fun c : Int × List ByteArray × Pu.TT k => 1 + c.2.1.length + Pu.wt k c.2.2) (fun c => by omega) nd.cases
  refine own_nodeG (elm_cw M k ih) B w cs nd ⟨vv, av, cv, acs, ccs, h1, h2, h3, ⟨h5.1.row (fun g hg => hV g (h4.1 V0 (by simp) g hg)), h5.2⟩, h6.row (fun g hg => hV g (h4.1 V1 (by simp) g hg)),
    h7.eachM (fun U c a ha hU h => ⟨Nat.le_trans (wt_arg ha) hw, U, fun g hg => hV g (h4.1 V2 (by simp) g (hU g hg)), h⟩), h8.row (fun g hg => hV g (h4.1 V3 (by simp) g hg)),
    h9.eachM (fun U c a ha hU ⟨vv, b, U0, U1, e1, e2, e3, e4, e5⟩ => ⟨vv, b, e1, ⟨e3.1.row (fun g hg => hV g (h4.1 V4 (by simp) g (hU g (e2.1 U0 (by simp) g hg)))), e3.2⟩, e4,
      Nat.le_trans (Nat.le_trans (Nat.le_add_left _ _) (wt_case ha)) hw, U1, fun g hg => hV g (h4.1 V4 (by simp) g (hU g (e2.1 U1 (by simp) g hg))), e5⟩)⟩ hB (by omega) (by omega) (by omega)
    (fun i hi => Nat.le_trans (Nat.le_trans (Nat.le_add_right _ _) (wt_case (List.getElem_mem hi))) hw)
theorem own_spCW (M k : Nat) (ih : OwnCW M k M) (nd : Pu.Node (Pu.TT k)) (hw : Pu.wt (k + 1) nd ≤ 1073741824) : ∀ (s : List (Int × ByteArray)) (B : Nat) (w : World) (V : Nat → Prop) (cs : List Value), (∀ g, V g → g < B) → SpN M k w s V cs nd → B ≤ w.heap.size →
    Calls Tryz.prog 40 #[.agg cs.toArray] w fun e w' => ∃ cs', e = .returned (.agg cs'.toArray) ∧ Fr No w w' ∧ SpN M k w' s (New w w') cs' nd
  | [], B, w, V, cs, hV, h, hB => own_nodeCW M k ih nd hw B w V cs hV h hB
  | p :: s, B, w, V, cs, hV, h, hB => by
    have el : Elm (fun B w cs (_ : Unit) => ∃ V : Nat → Prop, (∀ g, V g → g < B) ∧ SpN M k w s V cs nd) (fun w V cs _ => SpN M k w s V cs nd) :=
      { form := fun ⟨_, _, h⟩ => h.cw.form
        old := fun ⟨V, hV, h⟩ ho hs => ⟨V, hV, h.kept ⟨hs, fun g hg _ => ⟨hg, ho g (hV g hg)⟩⟩⟩
        dform := fun h => h.cw.form
        dkept := fun h st => h.kept st
        own := fun B w cs _ ⟨V, hV, h⟩ hB => own_spCW M k ih nd hw s B w V cs hV h hB }
    obtain ⟨a0, c0, av, a2, c2, acs, A, B', h1, h2, h3, h4, h5, h6, h7⟩ := h
    refine (own_nodeG el B w cs (⟨p.1, 0, p.2, ⟨#[]⟩, [], [()], []⟩ : Pu.Node Unit) ⟨_, av, _, acs, [], h1, h3, (show (Lit.int .i64 0).wf = true from by decide), ⟨⟨a0, c0, rfl, Nat.zero_le _, h2.2.1, fun h => absurd (show 0 < 0 from h) (by decide)⟩, fun x hx => by simp at hx⟩, h5.row (fun g hg => hV g (h4.1 A (by simp) g hg)),
      ⟨acs, [], by simp, h6, ⟨B', fun g hg => hV g (h4.1 B' (by simp) g hg), h7⟩, rfl⟩, ⟨a2, c2, rfl, Nat.zero_le _, h2.2.2, fun h => absurd (show 0 < 0 from h) (by decide)⟩, rfl⟩ hB (by simp) (by simp) (by simp) (fun i hi => by simp at hi)).mono ?_
    rintro e w' ⟨cs', he, hf, vv', av', cv', acs', ccs', V0, V1, V2, V3, V4, g1, g2, g3, g4, g5, g6, g7, g8, g9⟩
    obtain ⟨b0, d0, rfl, _, hd0, _⟩ := g5.1
    obtain ⟨b2, d2, rfl, _, hd2, _⟩ := g8
    obtain ⟨A1, B1, ck1, rest, rfl, l7, hA1, _, _, hsp, hrest⟩ := g7
    have hrest : rest = [] := hrest
    subst hrest
    rw [List.append_nil] at g6
    have gd := g4.2
    simp only [List.pairwise_cons, List.mem_cons, List.not_mem_nil, or_false, forall_eq_or_imp, forall_eq, List.Pairwise.nil, and_true, false_imp_iff, implies_true] at gd
    exact ⟨cs', he, hf, b0, d0, av', b2, d2, ck1, V1, A1, g1, ⟨h2.1, hd0, hd2⟩, h3, part_two (g4.1 V1 (by simp)) (fun g hg => g4.1 V2 (by simp) g (hA1 g hg)) (fun g h h' => gd.2.1.1 g h (hA1 g h')), g6, l7, hsp⟩
theorem own_cw (M : Nat) : ∀ (k m : Nat), OwnCW M k m
  | 0, _ => fun _ _ _ _ ⟨_, _, _, h⟩ _ => h.elim
  | k + 1, _ => fun B w cs t ⟨hw, V, hV, s, hs, h⟩ hB =>
    (own_spCW M k (own_cw M k M) t hw s B w V cs hV h hB).mono fun _ _ ⟨cs', he, hf, h'⟩ => ⟨cs', he, hf, s, hs, h'⟩
end Go.Proofs.YtomahbdidlglfacGreatDoor
