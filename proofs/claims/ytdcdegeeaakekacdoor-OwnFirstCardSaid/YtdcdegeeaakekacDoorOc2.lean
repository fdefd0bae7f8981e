/- own: 'count', walked: a term within others that count. -/
import Derived.Test.YtdcdegeeaakekacDoorOc1
import Derived.Test.YtdcdegeeaakekacDoorP2Laid
namespace Go.Proofs.YtdcdegeeaakekacDoor
open Go.RowKit Go.Shelf

attribute [local go_sem] Oper.semAt_some

/-- A term, of so many levels. -/
abbrev Tm := (k : Nat) × Pu.TT k
/-- A term within one that counts. -/
def wrap (kd : Int) (x : ByteArray) (t : Tm) : Tm := ⟨t.1 + 1, (⟨kd, 0, x, ⟨#[]⟩, [], [t.2], []⟩ : Pu.Node (Pu.TT t.1))⟩
def cnt (kd : Int) (l : List ByteArray) (t : Tm) : Tm := l.foldr (wrap kd) t
abbrev RS (S : Nat → Prop) (w : World) (cs : List Value) (t : Tm) : Prop := RTS t.1 S w cs t.2

theorem RowS.cells {S : Nat → Prop} {w w' : World} {v : Value} {n : Nat} {xs : List Value} (h : RowS S w v n xs) (hs : w.heap.size ≤ w'.heap.size) (hc : ∀ a u, w.cell? a = some u → w'.cell? a = some u) (hz : ∀ a u, w.cell? a = some u → w'.frozen? a = w.frozen? a) : RowS S w' v n xs := by
  obtain ⟨a, cap, h1, h2, h3, h4⟩ := h
  refine ⟨a, cap, h1, h2, h3, fun h0 => ?_⟩
  obtain ⟨g, o, h5, h6, h7, h9, h8⟩ := h4 h0
  refine ⟨g, o, h5, h6, Nat.lt_of_lt_of_le h7 hs, fun i hi => ?_, fun i hi => ?_⟩
  · have e := h8 i hi
    rw [List.getElem?_eq_getElem hi] at e
    rw [hz _ _ e]; exact h9 i hi
  · have e := h8 i hi
    rw [List.getElem?_eq_getElem hi] at e ⊢
    exact hc _ _ e
theorem RNS.cells {α : Type} {P P' : List Value → α → Prop} {S : Nat → Prop} {w w' : World} (hs : w.heap.size ≤ w'.heap.size) (hc : ∀ a u, w.cell? a = some u → w'.cell? a = some u) (hz : ∀ a u, w.cell? a = some u → w'.frozen? a = w.frozen? a) (hp : ∀ c a, P c a → P' c a) {cs : List Value} {t : Pu.Node α} (h : RNS P S w cs t) : RNS P' S w' cs t := by
  obtain ⟨vv, av, cv, acs, ccs, h1, h2, h3, h4, h5, h6, h7, h8⟩ := h
  exact ⟨vv, av, cv, acs, ccs, h1, h2, h3, ⟨h4.1.cells hs hc hz, h4.2⟩, h5.cells hs hc hz, h6.mono hp, h7.cells hs hc hz, h8.mono fun _ _ ⟨vv, b, q1, q2, q3, q4⟩ => ⟨vv, b, q1, ⟨q2.1.cells hs hc hz, q2.2⟩, q3, hp _ _ q4⟩⟩
theorem RTS.cells {S : Nat → Prop} {w w' : World} (hs : w.heap.size ≤ w'.heap.size) (hc : ∀ a u, w.cell? a = some u → w'.cell? a = some u) (hz : ∀ a u, w.cell? a = some u → w'.frozen? a = w.frozen? a) : ∀ {k : Nat} {cs : List Value} {t : Pu.TT k}, RTS k S w cs t → RTS k S w' cs t
  | 0, _, _, h => h
  | _ + 1, _, _, h => RNS.cells hs hc hz (fun _ _ hq => RTS.cells hs hc hz hq) h

theorem heap_own {W W' : World} {row : Option Nat} {B : Nat} {cur : Array Value} {t : TypeId} {z : Nat × Nat} (h : W.heap[B]? = some (.cells cur t z)) (hg : W.grownBy W' row) (hr : ∀ r, row = some r → ∃ o : Obj, W.heap[r]? = some o ∧ o.isCells = false) : W'.heap[B]? = some (.cells cur t z) := by
  rw [hg.block B (lt_of_heap h) (fun e => ?_)]
  · exact h
  · obtain ⟨o, ho, hc⟩ := hr B e.symm
    rw [h] at ho; cases ho; cases hc

theorem keeps7 (W : World) (g : Nat) (u0 u1 u2 u3 u4 u5 u6 : Value) : KeepsOthers W (((((((W.setCell ⟨g, 0, none⟩ u0).setCell ⟨g, 1, none⟩ u1).setCell ⟨g, 2, none⟩ u2).setCell ⟨g, 3, none⟩ u3).setCell ⟨g, 4, none⟩ u4).setCell ⟨g, 5, none⟩ u5).setCell ⟨g, 6, none⟩ u6) :=
  (((((((KeepsOthers.setCell _ _ _).trans (KeepsOthers.setCell _ _ _)).trans (KeepsOthers.setCell _ _ _)).trans (KeepsOthers.setCell _ _ _)).trans (KeepsOthers.setCell _ _ _)).trans (KeepsOthers.setCell _ _ _)).trans (KeepsOthers.setCell _ _ _))
theorem below7 {n₀ : Nat} {w W : World} (h : Below n₀ w W) (g : Nat) (hg : n₀ ≤ g) (u0 u1 u2 u3 u4 u5 u6 : Value) : Below n₀ w (((((((W.setCell ⟨g, 0, none⟩ u0).setCell ⟨g, 1, none⟩ u1).setCell ⟨g, 2, none⟩ u2).setCell ⟨g, 3, none⟩ u3).setCell ⟨g, 4, none⟩ u4).setCell ⟨g, 5, none⟩ u5).setCell ⟨g, 6, none⟩ u6) :=
  ((((((h.setCell (p := ⟨g, 0, none⟩) hg u0).setCell (p := ⟨g, 1, none⟩) hg u1).setCell (p := ⟨g, 2, none⟩) hg u2).setCell (p := ⟨g, 3, none⟩) hg u3).setCell (p := ⟨g, 4, none⟩) hg u4).setCell (p := ⟨g, 5, none⟩) hg u5).setCell (p := ⟨g, 6, none⟩) hg u6

/-- The box of the term, between two rounds. -/
def TBox (S : Nat → Prop) (tb : Nat) (kd : Int) (t : Tm) (pre : List (Nat × Nm)) (W : World) : Prop :=
  ∃ c0 c1 c2 c3 c4 c5 c6, W.heap[tb]? = some (.cells #[c0, c1, c2, c3, c4, c5, c6] 31 (0, 0)) ∧ RS (fun g => S g ∧ g ≠ tb) W [c0, c1, c2, c3, c4, c5, c6] (cnt kd (pre.map (fun x => x.2.1)).reverse t)

theorem tbox_own (S : Nat → Prop) (tb : Nat) (kd : Int) (t : Tm) : Own (TBox S tb kd t) := by
  rintro pre A B row ⟨c0, c1, c2, c3, c4, c5, c6, h1, h2⟩ hg hr
  exact ⟨c0, c1, c2, c3, c4, c5, c6, heap_own h1 hg hr, h2.cells hg.size (fun a u h => cell_kept h hg hr) (fun a u h => frozen_kept h hg hr)⟩

theorem wrap_node {S : Nat → Prop} {w : World} {g : Nat} {cs : List Value} {t : Tm} (kd : Int) (x : Nm) (_hkd : (Lit.int .i64 kd).wf = true) (h : RS S w cs t) (hg : w.heap[g]? = some (.cells cs.toArray 31 (0, 0))) (hS : S g) (hl : cs.length = 7) :
    RS S w [.int .i64 kd, .int .i64 0, .string x.1, .string ⟨#[]⟩, .slice none 0 0, .slice (some ⟨g, 0, none⟩) 1 1, .slice none 0 0] (wrap kd x.1 t) :=
  ⟨.slice none 0 0, .slice (some ⟨g, 0, none⟩) 1 1, .slice none 0 0, cs, [], rfl, x.2, rfl, ⟨⟨none, 0, rfl, Nat.le_refl _, Nat.zero_le _, fun h => absurd (show 0 < 0 from h) (by decide)⟩, fun y hy => absurd (show y ∈ ([] : List ByteArray) from hy) (by simp)⟩,
    ⟨_, 1, rfl, Nat.le_refl _, by unfold maxLen; decide, fun _ => ⟨g, 0, rfl, hS, lt_of_heap hg, fun i _ => frozen_of_heap hg _, fun i hi => by rw [Nat.zero_add, cell_of_heap hg i]; simp⟩⟩, ⟨cs, [], by simp, hl, h, rfl⟩,
    ⟨none, 0, rfl, Nat.le_refl _, Nat.zero_le _, fun h => absurd (show 0 < 0 from h) (by decide)⟩, rfl⟩
end Go.Proofs.YtdcdegeeaakekacDoor
