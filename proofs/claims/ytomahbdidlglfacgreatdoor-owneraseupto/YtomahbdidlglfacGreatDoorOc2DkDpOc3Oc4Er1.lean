/- own: 'count', walked: a term within others that count. -/
import Derived.Test.YtomahbdidlglfacGreatDoorOw1Ow2Oc1
import Derived.Test.YtomahbdidlglfacGreatDoorP1ShelfP2
import Derived.Test.YtomahbdidlglfacGreatDoorO8O9
namespace Go.Proofs.YtomahbdidlglfacGreatDoor
open Go.RowKit Go.Shelf

attribute [local go_sem] Oper.semAt_some

/-- A term, of so many levels. -/
abbrev Tm := (k : Nat) × Pu.TT k
/-- A term within one that counts. -/
def wrap (kd : Int) (x : ByteArray) (t : Tm) : Tm := ⟨t.1 + 1, (⟨kd, 0, x, ⟨#[]⟩, [], [t.2], []⟩ : Pu.Node (Pu.TT t.1))⟩
def cnt (kd : Int) (l : List ByteArray) (t : Tm) : Tm := l.foldr (wrap kd) t
abbrev RS (S : Nat → Prop) (w : World) (cs : List Value) (t : Tm) : Prop := RTS t.1 S w cs t.2

theorem RowS.cells {S : Nat → Prop} {w w' : World} {v : Value} {n : Nat} {xs : List Value} (h : RowS S w v n xs) (hs : w.heap.size ≤ w'.heap.size) (hc : ∀ a u, w.cell? a = some u → w'.cell? a = some u) (hz : ∀ a u, w.cell? a = some u → w'.frozen? a = w.frozen? a) : RowS S w' v n xs := by
  obtain ⟨a, cap, h1, h2, h3, h4⟩ := h
  refine ⟨a, cap, h1, h2, h3, fun h0 => ?_⟩
  obtain ⟨g, o, h5, h6, h7, h9, h8⟩ := h4 h0
  refine ⟨g, o, h5, h6, Nat.lt_of_lt_of_le h7 hs, fun i hi => ?_, fun i hi => ?_⟩
  · have e := h8 i hi
    rw [List.getElem?_eq_getElem hi] at e
    rw [hz _ _ e]; exact h9 i hi
  · have e := h8 i hi
    rw [List.getElem?_eq_getElem hi] at e ⊢
    exact hc _ _ e
theorem RNS.cells {α : Type} {P P' : List Value → α → Prop} {S : Nat → Prop} {w w' : World} (hs : w.heap.size ≤ w'.heap.size) (hc : ∀ a u, w.cell? a = some u → w'.cell? a = some u) (hz : ∀ a u, w.cell? a = some u → w'.frozen? a = w.frozen? a) (hp : ∀ c a, P c a → P' c a) {cs : List Value} {t : Pu.Node α} (h : RNS P S w cs t) : RNS P' S w' cs t := by
  obtain ⟨vv, av, cv, acs, ccs, h1, h2, h3, h4, h5, h6, h7, h8⟩ := h
  exact ⟨vv, av, cv, acs, ccs, h1, h2, h3, ⟨h4.1.cells hs hc hz, h4.2⟩, h5.cells hs hc hz, h6.mono hp, h7.cells hs hc hz, h8.mono fun _ _ ⟨vv, b, q1, q2, q3, q4⟩ => ⟨vv, b, q1, ⟨q2.1.cells hs hc hz, q2.2⟩, q3, hp _ _ q4⟩⟩
theorem RTS.cells {S : Nat → Prop} {w w' : World} (hs : w.heap.size ≤ w'.heap.size) (hc : ∀ a u, w.cell? a = some u → w'.cell? a = some u) (hz : ∀ a u, w.cell? a = some u → w'.frozen? a = w.frozen? a) : ∀ {k : Nat} {cs : List Value} {t : Pu.TT k}, RTS k S w cs t → RTS k S w' cs t
  | 0, _, _, h => h
  | _ + 1, _, _, h => RNS.cells hs hc hz (fun _ _ hq => RTS.cells hs hc hz hq) h

theorem heap_own {W W' : World} {row : Option Nat} {B : Nat} {cur : Array Value} {t : TypeId} {z : Nat × Nat} (h : W.heap[B]? = some (.cells cur t z)) (hg : W.grownBy W' row) (hr : ∀ r, row = some r → ∃ o : Obj, W.heap[r]? = some o ∧ o.isCells = false) : W'.heap[B]? = some (.cells cur t z) := by
  rw [hg.block B (lt_of_heap h) (fun e => ?_)]
  · exact h
  · obtain ⟨o, ho, hc⟩ := hr B e.symm
    rw [h] at ho; cases ho; cases hc

theorem keeps7 (W : World) (g : Nat) (u0 u1 u2 u3 u4 u5 u6 : Value) : KeepsOthers W (((((((W.setCell ⟨g, 0, none⟩ u0).setCell ⟨g, 1, none⟩ u1).setCell ⟨g, 2, none⟩ u2).setCell ⟨g, 3, none⟩ u3).setCell ⟨g, 4, none⟩ u4).setCell ⟨g, 5, none⟩ u5).setCell ⟨g, 6, none⟩ u6) :=
  (((((((KeepsOthers.setCell _ _ _).trans (KeepsOthers.setCell _ _ _)).trans (KeepsOthers.setCell _ _ _)).trans (KeepsOthers.setCell _ _ _)).trans (KeepsOthers.setCell _ _ _)).trans (KeepsOthers.setCell _ _ _)).trans (KeepsOthers.setCell _ _ _))
theorem below7 {n₀ : Nat} {w W : World} (h : Below n₀ w W) (g : Nat) (hg : n₀ ≤ g) (u0 u1 u2 u3 u4 u5 u6 : Value) : Below n₀ w (((((((W.setCell ⟨g, 0, none⟩ u0).setCell ⟨g, 1, none⟩ u1).setCell ⟨g, 2, none⟩ u2).setCell ⟨g, 3, none⟩ u3).setCell ⟨g, 4, none⟩ u4).setCell ⟨g, 5, none⟩ u5).setCell ⟨g, 6, none⟩ u6) :=
  ((((((h.setCell (p := ⟨g, 0, none⟩) hg u0).setCell (p := ⟨g, 1, none⟩) hg u1).setCell (p := ⟨g, 2, none⟩) hg u2).setCell (p := ⟨g, 3, none⟩) hg u3).setCell (p := ⟨g, 4, none⟩) hg u4).setCell (p := ⟨g, 5, none⟩) hg u5).setCell (p := ⟨g, 6, none⟩) hg u6

/-- The box of the term, between two rounds. -/
def TBox (S : Nat → Prop) (tb : Nat) (kd : Int) (t : Tm) (pre : List (Nat × Nm)) (W : World) : Prop :=
  ∃ c0 c1 c2 c3 c4 c5 c6, W.heap[tb]? = some (.cells #[c0, c1, c2, c3, c4, c5, c6] 32 (0, 0)) ∧ RS (fun g => S g ∧ g ≠ tb) W [c0, c1, c2, c3, c4, c5, c6] (cnt kd (pre.map (fun x => x.2.1)).reverse t)

theorem tbox_own (S : Nat → Prop) (tb : Nat) (kd : Int) (t : Tm) : Own (TBox S tb kd t) := by
  rintro pre A B row ⟨c0, c1, c2, c3, c4, c5, c6, h1, h2⟩ hg hr
  exact ⟨c0, c1, c2, c3, c4, c5, c6, heap_own h1 hg hr, h2.cells hg.size (fun a u h => cell_kept h hg hr) (fun a u h => frozen_kept h hg hr)⟩

theorem wrap_node {S : Nat → Prop} {w : World} {g : Nat} {cs : List Value} {t : Tm} (kd : Int) (x : Nm) (_hkd : (Lit.int .i64 kd).wf = true) (h : RS S w cs t) (hg : w.heap[g]? = some (.cells cs.toArray 32 (0, 0))) (hS : S g) (hl : cs.length = 7) :
    RS S w [.int .i64 kd, .int .i64 0, .string x.1, .string ⟨#[]⟩, .slice none 0 0, .slice (some ⟨g, 0, none⟩) 1 1, .slice none 0 0] (wrap kd x.1 t) :=
  ⟨.slice none 0 0, .slice (some ⟨g, 0, none⟩) 1 1, .slice none 0 0, cs, [], rfl, x.2, rfl, ⟨⟨none, 0, rfl, Nat.le_refl _, Nat.zero_le _, fun h => absurd (show 0 < 0 from h) (by decide)⟩, fun y hy => absurd (show y ∈ ([] : List ByteArray) from hy) (by simp)⟩,
    ⟨_, 1, rfl, Nat.le_refl _, by unfold maxLen; decide, fun _ => ⟨g, 0, rfl, hS, lt_of_heap hg, fun i _ => frozen_of_heap hg _, fun i hi => by rw [Nat.zero_add, cell_of_heap hg i]; simp⟩⟩, ⟨cs, [], by simp, hl, h, rfl⟩,
    ⟨none, 0, rfl, Nat.le_refl _, Nat.zero_le _, fun h => absurd (show 0 < 0 from h) (by decide)⟩, rfl⟩
end Go.Proofs.YtomahbdidlglfacGreatDoor

/- Terms with what counts around them, that lie apart. No walk in it. -/
namespace Go.Proofs.YtomahbdidlglfacGreatDoor
open Go.RowKit Go.Maps Go.WideMaps

/-- Is that a kind that counts? -/
def ck (kd : Int) : Prop := kd = 8 ∨ kd = 9
/-- What counts, around what I tells of. -/
def SpD (I : (Nat → Prop) → List Value → Prop) (w : World) : List (Int × ByteArray) → (Nat → Prop) → List Value → Prop
  | [], V, cs => I V cs
  | p :: s, V, cs => ∃ a0 c0 av a2 c2 acs A B, cs = [.int .i64 p.1, .int .i64 0, .string p.2, .string ⟨#[]⟩, .slice a0 0 c0, av, .slice a2 0 c2] ∧ (ck p.1 ∧ c0 ≤ maxLen ∧ c2 ≤ maxLen) ∧ p.2.size ≤ maxLen ∧ Part V [A, B] ∧ RowS A w av 1 acs ∧ acs.length = 7 ∧ SpD I w s B acs
/-- A term with what counts around it and around all in it: so many around it, and no more than M around each in it. -/
def CW (M : Nat) : (k : Nat) → (m : Nat) → World → (V : Nat → Prop) → List Value → Pu.TT k → Prop
  | 0, _, _, _, _, _ => False
  | k + 1, m, w, V, cs, t => ∃ s : List (Int × ByteArray), s.length ≤ m ∧ SpD (fun U c => RND (CW M k M w) w U c t) w s V cs

theorem SpD.mono {I I' : (Nat → Prop) → List Value → Prop} {w w' : World} : ∀ {s : List (Int × ByteArray)} {V : Nat → Prop} {cs : List Value}, Stays V V w w' → (∀ U c, Sub U V → I U c → I' U c) → SpD I w s V cs → SpD I' w' s V cs
  | [], _, _, _, hp, h => hp _ _ (fun _ h => h) h
  | _ :: _, V, _, hs, hp, ⟨a0, c0, av, a2, c2, acs, A, B, h1, h2, h3, h4, h5, h6, h7⟩ =>
    ⟨a0, c0, av, a2, c2, acs, A, B, h1, h2, h3, h4, h5.kept ⟨hs.1, fun g hg hl => ⟨hg, (hs.2 g (h4.1 A (by simp) g hg) hl).2⟩⟩, h6,
      SpD.mono ⟨hs.1, fun g hg hl => ⟨hg, (hs.2 g (h4.1 B (by simp) g hg) hl).2⟩⟩ (fun U c hU h => hp U c (fun g hg => h4.1 B (by simp) g (hU g hg)) h) h7⟩
theorem CW.kept {M : Nat} {w w' : World} : ∀ {k m : Nat} {V : Nat → Prop} {cs : List Value} {t : Pu.TT k}, Stays V V w w' → CW M k m w V cs t → CW M k m w' V cs t
  | 0, _, _, _, _, _, h => h.elim
  | _ + 1, _, _, _, _, hs, ⟨s, h0, h⟩ => ⟨s, h0, SpD.mono hs (fun U _ hU h =>
      have hsU : Stays U U w w' := ⟨hs.1, fun g hg hl => ⟨hg, (hs.2 g (hU g hg) hl).2⟩⟩
      RND.mono hsU (fun _ _ _ hU' h => CW.kept ⟨hs.1, fun g hg hl => ⟨hg, (hsU.2 g (hU' g hg) hl).2⟩⟩ h) h) h⟩
theorem RND.sub {α : Type} {P : (Nat → Prop) → List Value → α → Prop} {w : World} {V V' : Nat → Prop} {cs : List Value} {t : Pu.Node α} (hs : Sub V V') (h : RND P w V cs t) : RND P w V' cs t := by
  obtain ⟨vv, av, cv, acs, ccs, V0, V1, V2, V3, V4, h1, h2, h3, h4, h5⟩ := h
  exact ⟨vv, av, cv, acs, ccs, V0, V1, V2, V3, V4, h1, h2, h3, h4.sub hs, h5⟩
theorem CW.sub {M : Nat} {w : World} : ∀ {k m : Nat} {V V' : Nat → Prop} {cs : List Value} {t : Pu.TT k}, Sub V V' → CW M k m w V cs t → CW M k m w V' cs t
  | 0, _, _, _, _, _, _, h => h.elim
  | _ + 1, _, _, _, _, _, hs, ⟨[], h0, h⟩ => ⟨[], h0, RND.sub hs h⟩
  | _ + 1, _, _, _, _, _, hs, ⟨p :: s, h0, a0, c0, av, a2, c2, acs, A, B, h1, h2, h3, h4, h5⟩ => ⟨p :: s, h0, a0, c0, av, a2, c2, acs, A, B, h1, h2, h3, h4.sub hs, h5⟩
theorem CW.more {M : Nat} {w : World} {k m m' : Nat} {V : Nat → Prop} {cs : List Value} {t : Pu.TT k} (hm : m ≤ m') (h : CW M k m w V cs t) : CW M k m' w V cs t := by
  cases k with
  | zero => exact h.elim
  | succ k =>
    obtain ⟨s, h0, h⟩ := h
    exact ⟨s, Nat.le_trans h0 hm, h⟩
/-- A term that lies apart has nothing around it. -/
theorem RTD.cw {M : Nat} {w : World} : ∀ {k m : Nat} {V : Nat → Prop} {cs : List Value} {t : Pu.TT k}, RTD k w V cs t → CW M k m w V cs t
  | 0, _, _, _, _, h => h.elim
  | _ + 1, _, _, _, _, h => ⟨[], Nat.zero_le _, RND.mono (stays_self fun _ h => h) (fun _ _ _ _ h => RTD.cw h) h⟩
theorem CW.wrap {M : Nat} {w : World} {k m : Nat} {V : Nat → Prop} {cs : List Value} {t : Pu.TT k} {g : Nat} {kd : Int} {x : ByteArray} (hk : ck kd) (hx : x.size ≤ maxLen) (h : CW M k m w V cs t) (hg : w.heap[g]? = some (.cells cs.toArray 32 (0, 0))) (hV : ¬ V g) (hl : cs.length = 7) :
    CW M k (m + 1) w (fun i => V i ∨ i = g) [.int .i64 kd, .int .i64 0, .string x, .string ⟨#[]⟩, .slice none 0 0, .slice (some ⟨g, 0, none⟩) 1 1, .slice none 0 0] t := by
  cases k with
  | zero => exact h.elim
  | succ k =>
    obtain ⟨s, h0, h⟩ := h
    refine ⟨(kd, x) :: s, by simpa using h0, none, 0, _, none, 0, cs, fun i => i = g, V, rfl, ⟨hk, Nat.zero_le _, Nat.zero_le _⟩, hx, part_two (fun i e => .inr e) (fun i h => .inl h) (fun i e hv => hV (by rw [← show i = g from e]; exact hv)), ?_, hl, h⟩
    exact ⟨_, 1, rfl, Nat.le_refl _, by unfold maxLen; decide, fun _ => ⟨g, 0, rfl, rfl, lt_of_heap hg, fun i _ => frozen_of_heap hg _, fun i hi => by rw [Nat.zero_add, cell_of_heap hg i]; simp⟩⟩
theorem CW.form {M : Nat} {w : World} {k m : Nat} {V : Nat → Prop} {cs : List Value} {t : Pu.TT k} (h : CW M k m w V cs t) :
    ∃ kd n x y a0 n0 c0 a1 n1 c1 a2 n2 c2, cs = [.int .i64 kd, .int .i64 n, .string x, .string y, .slice a0 n0 c0, .slice a1 n1 c1, .slice a2 n2 c2] := by
  cases k with
  | zero => exact h.elim
  | succ k =>
    obtain ⟨s, h0, h⟩ := h
    cases s with
    | nil =>
      obtain ⟨vv, av, cv, acs, ccs, V0, V1, V2, V3, V4, rfl, h2, h3, h4, h5, h6, h7, h8, h9⟩ := h
      obtain ⟨a0, c0, rfl, _⟩ := h5.1
      obtain ⟨a1, c1, rfl, _⟩ := h6
      obtain ⟨a2, c2, rfl, _⟩ := h8
      exact ⟨_, _, _, _, _, _, _, _, _, _, _, _, _, rfl⟩
    | cons p s =>
      obtain ⟨_, _, av, _, _, acs, A, B, rfl, h2, h3, h4, h5, h6⟩ := h
      obtain ⟨a1, c1, rfl, _⟩ := h5
      exact ⟨_, _, _, _, _, _, _, _, _, _, _, _, _, rfl⟩

/-- What stays where cells stay. -/
structure Cls (w w' : World) : Prop where
  size : w.heap.size ≤ w'.heap.size
  cell : ∀ a u, w.cell? a = some u → w'.cell? a = some u
  frozen : ∀ a u, w.cell? a = some u → w'.frozen? a = w.frozen? a
theorem RCD.cells {α : Type} {P P' : (Nat → Prop) → List Value → α → Prop} {w w' : World} (hs : Cls w w') (hp : ∀ U c a, P U c a → P' U c a) {V : Nat → Prop} {cs : List Value} {c : Int × List ByteArray × α} (h : RCD P w V cs c) : RCD P' w' V cs c := by
  obtain ⟨vv, b, U0, U1, h1, h2, h3, h4, h5⟩ := h
  exact ⟨vv, b, U0, U1, h1, h2, ⟨h3.1.cells hs.size hs.cell hs.frozen, h3.2⟩, h4, hp _ _ _ h5⟩
theorem RND.cells {α : Type} {P P' : (Nat → Prop) → List Value → α → Prop} {w w' : World} (hs : Cls w w') (hp : ∀ U c a, P U c a → P' U c a) {V : Nat → Prop} {cs : List Value} {t : Pu.Node α} (h : RND P w V cs t) : RND P' w' V cs t := by
  obtain ⟨vv, av, cv, acs, ccs, V0, V1, V2, V3, V4, h1, h2, h3, h4, h5, h6, h7, h8, h9⟩ := h
  exact ⟨vv, av, cv, acs, ccs, V0, V1, V2, V3, V4, h1, h2, h3, h4, ⟨h5.1.cells hs.size hs.cell hs.frozen, h5.2⟩, h6.cells hs.size hs.cell hs.frozen, h7.mono (fun U c a _ => hp U c a), h8.cells hs.size hs.cell hs.frozen, h9.mono (fun U c a _ h => RCD.cells hs hp h)⟩
theorem SpD.cells {I I' : (Nat → Prop) → List Value → Prop} {w w' : World} (hs : Cls w w') (hp : ∀ U c, I U c → I' U c) : ∀ {s : List (Int × ByteArray)} {V : Nat → Prop} {cs : List Value}, SpD I w s V cs → SpD I' w' s V cs
  | [], _, _, h => hp _ _ h
  | _ :: _, _, _, ⟨a0, c0, av, a2, c2, acs, A, B, h1, h2, h3, h4, h5, h6, h7⟩ => ⟨a0, c0, av, a2, c2, acs, A, B, h1, h2, h3, h4, h5.cells hs.size hs.cell hs.frozen, h6, SpD.cells hs hp h7⟩
theorem CW.cells {M : Nat} {w w' : World} (hs : Cls w w') : ∀ {k m : Nat} {V : Nat → Prop} {cs : List Value} {t : Pu.TT k}, CW M k m w V cs t → CW M k m w' V cs t
  | 0, _, _, _, _, h => h.elim
  | _ + 1, _, _, _, _, ⟨s, h0, h⟩ => ⟨s, h0, SpD.cells hs (fun _ _ h => RND.cells hs (fun _ _ _ h => CW.cells hs h) h) h⟩
end Go.Proofs.YtomahbdidlglfacGreatDoor

/- A row stored in: some of its cells anew. No walk in it. -/
namespace Go.Proofs.YtomahbdidlglfacGreatDoor
open Go.RowKit Go.Maps Go.WideMaps

theorem cells_of {w : World} {b o : Nat} {v : Value} (h : w.cell? ⟨b, o, none⟩ = some v) : ∃ c e z, w.heap[b]? = some (.cells c e z) := by
  unfold World.cell? at h
  dsimp only at h
  split at h
  · rename_i c e z heq
    exact ⟨c, e, z, heq⟩
  · cases h
theorem cell_at {w : World} {b : Nat} {c : Array Value} {e : TypeId} {z : Nat × Nat} (h : w.heap[b]? = some (.cells c e z)) (o : Nat) : w.cell? ⟨b, o, none⟩ = c[o]? := by
  simp [World.cell?, h]
theorem frozen_at {w w' : World} {b : Nat} {c c' : Array Value} {e e' : TypeId} {z : Nat × Nat} (h : w.heap[b]? = some (.cells c e z)) (h' : w'.heap[b]? = some (.cells c' e' z)) (o : Nat) : w'.frozen? ⟨b, o, none⟩ = w.frozen? ⟨b, o, none⟩ := by
  simp [World.frozen?, h, h']
theorem sets_after (g : Nat) : ∀ (us : List Value) (p : Nat) (w : World) (cur cur' : Array Value) (e : TypeId) (z : Nat × Nat), w.heap[g]? = some (.cells cur e z) → (setsAt w g p us).heap[g]? = some (.cells cur' e z) → ∀ j, p + us.length ≤ j → cur'[j]? = cur[j]?
  | [], _, w, cur, cur', e, z, h, h', j, _ => by
    have h' : w.heap[g]? = some (.cells cur' e z) := h'
    rw [h] at h'
    cases h'; rfl
  | u :: r, p, w, cur, cur', e, z, h, h', j, hj => by
    have h1 : (w.setCell ⟨g, p, none⟩ u).heap[g]? = some (.cells (cur.setIfInBounds p u) e z) := by simp [World.setCell, Array.getElem?_modify, h]
    simp only [List.length_cons] at hj
    rw [sets_after g r (p + 1) _ _ cur' e z h1 h' j (by omega)]
    simp [show p ≠ j by omega]
theorem row_put {S : Nat → Prop} {w : World} {g o n cap : Nat} {a c b us : List Value} (h : RowS S w (.slice (some ⟨g, o, none⟩) n cap) n (a ++ c ++ b)) (h0 : 0 < n) (hl : us.length = c.length) (hc : 0 < c.length) :
    RowS S (setsAt w g (o + a.length) us) (.slice (some ⟨g, o, none⟩) n cap) n (a ++ us ++ b) ∧ Fr (· = g) w (setsAt w g (o + a.length) us) := by
  obtain ⟨a', cap', hv, h2, h3, h4⟩ := h
  injection hv with hv1 _ hv2
  subst hv1 hv2
  obtain ⟨g', o', e1, hS, hg, hz, hcell⟩ := h4 h0
  injection e1 with e1
  injection e1 with e1 e2
  subst e1 e2
  have hlen : (a ++ c ++ b).length = a.length + c.length + b.length := by simp [Nat.add_assoc]
  have c0 := hcell 0 (by omega)
  rw [List.getElem?_eq_getElem (by omega)] at c0
  obtain ⟨cur, e, z, hh⟩ := cells_of c0
  have hat : ∀ i, i < (a ++ c ++ b).length → cur[o + i]? = (a ++ c ++ b)[i]? := fun i hi => by rw [← cell_at hh]; exact hcell i hi
  have hsz : o + a.length + c.length ≤ cur.size := by
    have := hat (a.length + c.length - 1) (by omega)
    rw [List.getElem?_eq_getElem (by omega)] at this
    obtain ⟨h5, _⟩ := Array.getElem?_eq_some_iff.1 this
    omega
  obtain ⟨cur', d1, d2, d3, d4, d5⟩ := sets_heap g e z us (o + a.length) w cur hh (by omega)
  have d6 : ∀ j, o + a.length + us.length ≤ j → cur'[j]? = cur[j]? := fun j hj => sets_after g us (o + a.length) w cur cur' e z hh d1 j hj
  refine ⟨⟨_, _, rfl, h2, h3, fun _ => ⟨g, o, rfl, hS, Nat.lt_of_lt_of_le hg d5.size, fun i hi => ?_, fun i hi => ?_⟩⟩, d5⟩
  · have hl2 : (a ++ us ++ b).length = (a ++ c ++ b).length := by simp [hl]
    rw [frozen_at hh d1]
    exact hz i (by omega)
  · have hl2 : (a ++ us ++ b).length = a.length + us.length + b.length := by simp [Nat.add_assoc]
    rw [cell_at d1]
    by_cases h5 : i < a.length
    · rw [d3 (o + i) (by omega), hat i (by omega), List.append_assoc, List.append_assoc, List.getElem?_append_left h5, List.getElem?_append_left h5]
    · by_cases h6 : i < a.length + us.length
      · have := d4 (i - a.length) (by omega)
        rw [show o + a.length + (i - a.length) = o + i by omega] at this
        rw [this, List.append_assoc, List.getElem?_append_right (by omega), List.getElem?_append_left (by omega)]
      · rw [d6 (o + i) (by omega), hat i (by omega), List.getElem?_append_right (by simp; omega), List.getElem?_append_right (by simp; omega)]
        simp [hl]
end Go.Proofs.YtomahbdidlglfacGreatDoor

/- own: 'count', walked: the whole of it. -/
namespace Go.Proofs.YtomahbdidlglfacGreatDoor
open Go.RowKit Go.Shelf

attribute [local go_sem] Oper.semAt_some

theorem bk_names (l : List Nm) : ((bk l l.length).map (fun x => x.2.1)).reverse = l.map (·.1) := by
  have h := congrArg (List.map (fun y : Nm => y.1)) (bk_all l)
  rw [List.map_map] at h
  rw [show (fun x : Nat × Nm => x.2.1) = (fun y : Nm => y.1) ∘ (fun x : Nat × Nm => x.2) from rfl, h, List.map_reverse, List.reverse_reverse]

theorem putObj_heap {W : World} {D : Nat} {o o' : Obj} {B : Nat} {cur : Array Value} {t : TypeId} {z : Nat × Nat} (h : W.heap[B]? = some (.cells cur t z)) (hD : W.heap[D]? = some o) (hc : o.isCells = false) : (W.putObj D o').heap[B]? = some (.cells cur t z) :=
  heap_own h (grownBy_putObj' W D o') (fun r e => by cases e; exact ⟨o, hD, hc⟩)

theorem lt_of_cell {W : World} {a : Addr} {v : Value} (h : W.cell? a = some v) : a.block < W.heap.size := by
  unfold World.cell? at h
  cases e : W.heap[a.block]? with
  | none => rw [e] at h; simp at h
  | some o => exact lt_of_heap e

set_option maxRecDepth 100000 in
set_option maxHeartbeats 4000000 in
theorem count_in (F : Fence) (n : Nat) (h3 : F.fn 72) (h5 : F.fn 106) (h7 : F.fn 125) (hro : F.round = none) (hn : 3 ≤ n) (S : Nat → Prop) (kd : Int) (hkd : (Lit.int .i64 kd).wf = true) (v : Value) (l : List Nm) (hreach : l.length ≤ 1099511627776) (t : Tm) (u0 u1 u2 u3 u4 u5 u6 : Value) (w : World) (hI : NmAt w.heap.size w v l) (hT : RS S w [u0, u1, u2, u3, u4, u5, u6] t) (hS : ∀ g, S g → g < w.heap.size) :
    CallsIn F n Tryz.prog 72 #[.int .i64 kd, v, .agg #[u0, u1, u2, u3, u4, u5, u6]] w fun e W' => ∃ c0 c1 c2 c3 c4 c5 c6, e = .returned (.agg #[c0, c1, c2, c3, c4, c5, c6]) ∧ Below w.heap.size w W' ∧ RS (fun g => S g ∨ New w W' g) W' [c0, c1, c2, c3, c4, c5, c6] (cnt kd (l.map (·.1)) t) := by
  have h1 : 1 ≤ n := by omega
  obtain ⟨a, cap, rfl, hnm⟩ := id hI
  have HI := hide hI
  have HT := hide hT
  have HS := hide hS
  clear hI hT hS hnm
  refine callsIn_of_wp_marks Tryz.func72 rfl h3 ?_ hro
  simp only [Tryz.ntmps72, List.size_toArray, List.length_cons, List.length_nil, Nat.reduceAdd, Nat.reduceSub, Array.replicate_succ, Array.replicate_zero, List.push_toArray, List.append_toArray, List.nil_append, List.cons_append]
  gi_wp2_with (gi_at_call 106; refine (back_in F (n - 1) h5 hro _ _ _ _).mono ?_; rintro e w' ⟨rfl, rfl⟩)
  have hB0 : Below w.heap.size w ((((w.alloc (.cells #[.int .i64 kd] 3)).alloc (.cells #[u0, u1, u2, u3, u4, u5, u6] 32)).alloc (.cells #[.int .i64 0, .int .i64 0, .string ⟨#[]⟩, .string ⟨#[]⟩, .slice none 0 0, .slice none 0 0, .slice none 0 0] 32)).alloc (.cells #[.slice a l.length cap] 28)) :=
    ((((Below.refl _ w).alloc (Nat.le_refl _) _).alloc (by simp) _).alloc (by simp; omega) _).alloc (by simp; omega) _
  obtain ⟨W0, hW0⟩ : ∃ W0, W0 = ((((w.alloc (.cells #[.int .i64 kd] 3)).alloc (.cells #[u0, u1, u2, u3, u4, u5, u6] 32)).alloc (.cells #[.int .i64 0, .int .i64 0, .string ⟨#[]⟩, .string ⟨#[]⟩, .slice none 0 0, .slice none 0 0, .slice none 0 0] 32)).alloc (.cells #[.slice a l.length cap] 28)) := ⟨_, rfl⟩
  rw [← hW0] at hB0 ⊢
  have hsz : W0.heap.size = w.heap.size + 4 := by rw [hW0]; simp
  have b0 : W0.heap[w.heap.size]? = some (.cells #[.int .i64 kd] 3 (0, 0)) := by rw [hW0]; exact fr_heap (heap_alloc_new w _) ((((Fr.refl No _).alloc _).alloc _).alloc _) (fun e => e)
  have b1 : W0.heap[w.heap.size + 1]? = some (.cells #[u0, u1, u2, u3, u4, u5, u6] 32 (0, 0)) := by
    have h := heap_alloc_new (w.alloc (.cells #[.int .i64 kd] 3)) (.cells #[u0, u1, u2, u3, u4, u5, u6] 32)
    rw [World.size_alloc] at h
    rw [hW0]; exact fr_heap h (((Fr.refl No _).alloc _).alloc _) (fun e => e)
  have b2 : W0.heap[w.heap.size + 1 + 1]? = some (.cells #[.int .i64 0, .int .i64 0, .string ⟨#[]⟩, .string ⟨#[]⟩, .slice none 0 0, .slice none 0 0, .slice none 0 0] 32 (0, 0)) := by
    have h := heap_alloc_new ((w.alloc (.cells #[.int .i64 kd] 3)).alloc (.cells #[u0, u1, u2, u3, u4, u5, u6] 32)) (.cells #[.int .i64 0, .int .i64 0, .string ⟨#[]⟩, .string ⟨#[]⟩, .slice none 0 0, .slice none 0 0, .slice none 0 0] 32)
    rw [World.size_alloc, World.size_alloc] at h
    rw [hW0]; exact fr_heap h ((Fr.refl No _).alloc _) (fun e => e)
  have b3 : W0.cell? ⟨w.heap.size + 1 + 1 + 1, 0, none⟩ = some (.slice a l.length cap) := by
    have h := heap_alloc_new (((w.alloc (.cells #[.int .i64 kd] 3)).alloc (.cells #[u0, u1, u2, u3, u4, u5, u6] 32)).alloc (.cells #[.int .i64 0, .int .i64 0, .string ⟨#[]⟩, .string ⟨#[]⟩, .slice none 0 0, .slice none 0 0, .slice none 0 0] 32)) (.cells #[.slice a l.length cap] 28)
    rw [World.size_alloc, World.size_alloc, World.size_alloc] at h
    rw [cell_of_heap (by rw [hW0]; exact h)]; rfl
  have hT0 : RS (fun g => ((S g ∨ w.heap.size ≤ g) ∧ g ≠ w.heap.size + 1 + 1) ∧ g ≠ w.heap.size + 1) W0 [u0, u1, u2, u3, u4, u5, u6] t := HT.out.kept ⟨hB0.size, fun g hg hl => ⟨⟨⟨.inl hg, by omega⟩, by omega⟩, hB0.block g hl⟩⟩
  clear hW0
  refine wpIn_rangeFunc_ownG hro h1 (gf := 125) (lb := #[.pointer (some ⟨w.heap.size + 1 + 1 + 1, 0, none⟩)]) rfl h7 (enters_of Tryz.func125 (by kernel_rfl) rfl)
    (back_stops F (n - 1) h7 hro (by omega) (w.heap.size + 1 + 1 + 1) w.heap.size _ l hreach W0 (by omega) (by omega) b3 (HI.out.below hB0)) KB.trans (KB.b (by omega)) (Below.refl _ _) (fun _ => rfl)
    (fun pre W => (TBox (fun g => (S g ∨ w.heap.size ≤ g) ∧ g ≠ w.heap.size + 1 + 1) (w.heap.size + 1) kd t pre W ∧ W.heap[w.heap.size]? = some (.cells #[.int .i64 kd] 3 (0, 0)) ∧ W.heap[w.heap.size + 1 + 1]? = some (.cells #[.int .i64 0, .int .i64 0, .string ⟨#[]⟩, .string ⟨#[]⟩, .slice none 0 0, .slice none 0 0, .slice none 0 0] 32 (0, 0))) ∧ Below w.heap.size w W)
    (fun _ _ _ => False)
    (OwnFrom.and (Own.from (fun s A B row hs hg hr => ⟨tbox_own _ _ _ _ s A B row hs.1 hg hr, heap_own hs.2.1 hg hr, heap_own hs.2.2 hg hr⟩) _) (ownFrom_below (Nat.le_refl _) (by omega)))
    (fun _ _ _ _ _ hs _ _ => hs)
    ⟨⟨⟨u0, u1, u2, u3, u4, u5, u6, b1, hT0⟩, b0, b2⟩, hB0⟩
    (fun x => { tmps := #[.int .i64 kd, .slice a l.length cap, .agg #[u0, u1, u2, u3, u4, u5, u6], .pointer (some ⟨w.heap.size, 0, none⟩), undef, .pointer (some ⟨w.heap.size + 1, 0, none⟩), .pointer (some ⟨w.heap.size + 1 + 1, 0, none⟩), undef, .string x.2.1, .slice a l.length cap, .func (.func 125) #[] #[.pointer (some ⟨w.heap.size + 1 + 1 + 1, 0, none⟩)], .int .i64 (x.1 : Int), .string x.2.1, undef, undef, undef, undef, undef, undef], defers := [] }) ?assign ?body ?done ?stop
  case assign =>
    intro l x W K hK
    gi_wp2
    exact hK
  case body =>
    rintro q pre x W ⟨⟨⟨c0, c1, c2, c3, c4, c5, c6, g1, hr⟩, g0, g2⟩, hB⟩ _
    have k0 := cell_of_heap g0 0
    have k1 := cell_of_heap g1
    have z1 := frozen_of_heap g1
    have l0 := lt_of_heap g0
    have l1 := lt_of_heap g1
    have l2 := lt_of_heap g2
    have G0 := hide g0
    have G1 := hide g1
    have G2 := hide g2
    have HR := hide hr
    have HB := hide hB
    clear g0 g1 g2 hr hB b0 b1 b2 b3 hT0 hB0 HI HT HS
    gi_wp2
    obtain ⟨P, hP⟩ : ∃ P, P = (((((((W.setCell ⟨w.heap.size + 1, 0, none⟩ (.int .i64 kd)).setCell ⟨w.heap.size + 1, 1, none⟩ (.int .i64 0)).setCell ⟨w.heap.size + 1, 2, none⟩ (.string x.2.1)).setCell ⟨w.heap.size + 1, 3, none⟩ (.string ⟨#[]⟩)).setCell ⟨w.heap.size + 1, 4, none⟩ (.slice none 0 0)).setCell ⟨w.heap.size + 1, 5, none⟩ (.slice (some ⟨W.heap.size, 0, none⟩) 1 1)).setCell ⟨w.heap.size + 1, 6, none⟩ (.slice none 0 0)) := ⟨_, rfl⟩
    rw [← hP]
    obtain ⟨s1, s2⟩ := set7 G1.out (.int .i64 kd) (.int .i64 0) (.string x.2.1) (.string ⟨#[]⟩) (.slice none 0 0) (.slice (some ⟨W.heap.size, 0, none⟩) 1 1) (.slice none 0 0)
    have hps : P.heap.size = W.heap.size := by rw [hP]; simp [World.setCell]
    have hk : KeepsOthers W P := by rw [hP]; exact keeps7 _ _ _ _ _ _ _ _ _
    have hb : Below w.heap.size w P := by rw [hP]; exact below7 HB.out _ (by omega) _ _ _ _ _ _ _
    have hb2 : Below w.heap.size W P := by rw [hP]; exact below7 (Below.refl _ _) _ (by omega) _ _ _ _ _ _ _
    rw [← hP] at s1 s2
    have fa : Fr No P (P.alloc (.cells #[c0, c1, c2, c3, c4, c5, c6] 32)) := (Fr.refl No P).alloc _
    have hn7 := heap_alloc_new P (.cells #[c0, c1, c2, c3, c4, c5, c6] 32)
    rw [hps] at hn7
    have hwb := HB.out.size
    have fwa : Fr (· = w.heap.size + 1) W (P.alloc (.cells #[c0, c1, c2, c3, c4, c5, c6] 32)) := s2.alloc _
    have hr2 : RS (fun g => ((S g ∨ w.heap.size ≤ g) ∧ g ≠ w.heap.size + 1 + 1) ∧ g ≠ w.heap.size + 1) (P.alloc (.cells #[c0, c1, c2, c3, c4, c5, c6] 32)) [c0, c1, c2, c3, c4, c5, c6] (cnt kd (pre.map (fun x => x.2.1)).reverse t) :=
      HR.out.kept (stays_fr fwa (fun g hg _ e => hg.2 e) (fun _ h => h))
    refine ⟨(hk.trans (KeepsOthers.alloc _ _)).from _, ⟨hb2.alloc (by omega) _, fun v hv => ?_⟩, ⟨⟨_, _, _, _, _, _, _, fr_heap s1 fa (fun e => e), ?_⟩, ?_, ?_⟩, hb.alloc (by omega) _⟩
    · have e1 := fwa.block (w.heap.size + 1 + 1 + 1) (lt_of_cell hv) (fun e => by have e : w.heap.size + 1 + 1 + 1 = w.heap.size + 1 := e; omega)
      unfold World.cell? at hv ⊢
      rw [e1]; exact hv
    · rw [List.map_append, List.reverse_append]
      exact wrap_node kd x.2 hkd hr2 hn7 ⟨⟨.inr (by omega), by omega⟩, by omega⟩ rfl
    · exact fr_heap G0.out fwa (fun e => by have e : w.heap.size = w.heap.size + 1 := e; omega)
    · exact fr_heap G2.out fwa (fun e => by have e : w.heap.size + 1 + 1 = w.heap.size + 1 := e; omega)
  case done =>
    rintro D ys W hD rfl ⟨⟨⟨c0, c1, c2, c3, c4, c5, c6, g1, hr⟩, g0, g2⟩, hB⟩ hK
    obtain ⟨kd', n', x', y', a0, n0, d0, a1, n1, d1, a2, n2, d2, he⟩ := hr.form
    simp only [List.cons.injEq, and_true] at he
    obtain ⟨rfl, rfl, rfl, rfl, rfl, rfl, rfl⟩ := he
    have k1 := cell_of_heap g1
    have k2 := cell_of_heap g2
    have z2 := frozen_of_heap g2
    have l1 := lt_of_heap g1
    have l2 := lt_of_heap g2
    have G1 := hide g1
    have G2 := hide g2
    have HR := hide hr
    have HB := hide hB
    clear g0 g1 g2 hr hB b0 b1 b2 b3 hT0 hB0 HI HT
    gi_wp2
    obtain ⟨s1, s2⟩ := set7 G2.out (.int .i64 kd') (.int .i64 n') (.string x') (.string y') (.slice a0 n0 d0) (.slice a1 n1 d1) (.slice a2 n2 d2)
    obtain ⟨P, hP⟩ : ∃ P, P = (((((((W.setCell ⟨w.heap.size + 1 + 1, 0, none⟩ (.int .i64 kd')).setCell ⟨w.heap.size + 1 + 1, 1, none⟩ (.int .i64 n')).setCell ⟨w.heap.size + 1 + 1, 2, none⟩ (.string x')).setCell ⟨w.heap.size + 1 + 1, 3, none⟩ (.string y')).setCell ⟨w.heap.size + 1 + 1, 4, none⟩ (.slice a0 n0 d0)).setCell ⟨w.heap.size + 1 + 1, 5, none⟩ (.slice a1 n1 d1)).setCell ⟨w.heap.size + 1 + 1, 6, none⟩ (.slice a2 n2 d2)) := ⟨_, rfl⟩
    rw [← hP] at s1 s2 ⊢
    have hk : KeepsOthers W P := by rw [hP]; exact keeps7 _ _ _ _ _ _ _ _ _
    have hb : Below w.heap.size w P := by rw [hP]; exact below7 HB.out _ (by omega) _ _ _ _ _ _ _
    have hK' := hk.same D _ hK rfl
    refine ⟨by simp, .inl ⟨_, _, rfl, run_takeDeferred hK', ?_⟩⟩
    have s3 := putObj_heap (o' := .deferred none) s1 hK' rfl
    refine ⟨_, retT rfl _ _ (w.heap.size + 1 + 1) (.int .i64 kd') (.int .i64 n') (.string x') (.string y') (.slice a0 n0 d0) (.slice a1 n1 d1) (.slice a2 n2 d2) (0, 0) rfl s3, _, _, _, _, _, _, _, rfl, hb.trans (belowK_b (w := w) (Nat.le_refl _) _ D _ _ (by omega) hK' rfl rfl), ?_⟩
    have hsz2 := hb.size
    have hr3 := HR.out.kept (S' := fun g => (S g ∨ w.heap.size ≤ g)) (stays_fr s2 (fun g hg hl e => by
      exact hg.1.2 e) (fun _ h => h.1.1))
    rw [bk_names] at hr3
    have hr4 := hr3.cells (w' := P.putObj D (.deferred none)) (grownBy_putObj' P D (.deferred none)).size (fun a u h => cell_kept h (grownBy_putObj' P D (.deferred none)) (fun r e => by cases e; exact ⟨_, hK', rfl⟩)) (fun a u h => frozen_kept h (grownBy_putObj' P D (.deferred none)) (fun r e => by cases e; exact ⟨_, hK', rfl⟩))
    exact hr4.kept ⟨Nat.le_refl _, fun g hg hl => ⟨hg.imp (fun h => h) (fun h => ⟨h, hl⟩), rfl⟩⟩
  case stop =>
    rintro D c pre W _ _ h _
    exact h.elim
end Go.Proofs.YtomahbdidlglfacGreatDoor

/- own: 'count', as a call. -/
namespace Go.Proofs.YtomahbdidlglfacGreatDoor
open Go.RowKit Go.Shelf

/-- Names as a list of names that are short. -/
def nms : (l : List ByteArray) → Short l → List Nm
  | [], _ => []
  | x :: l, h => ⟨x, h x (List.mem_cons_self ..)⟩ :: nms l (fun y hy => h y (List.mem_cons_of_mem _ hy))
theorem nms_map : ∀ (l : List ByteArray) (h : Short l), (nms l h).map (·.1) = l
  | [], _ => rfl
  | x :: l, h => congrArg (List.cons x) (nms_map l (fun y hy => h y (List.mem_cons_of_mem _ hy)))
theorem nms_length (l : List ByteArray) (h : Short l) : (nms l h).length = l.length := by
  have := congrArg List.length (nms_map l h)
  rwa [List.length_map] at this
theorem nms_get (l : List ByteArray) (h : Short l) (j : Nat) (hj : j < l.length) (d : Nm) : ((nms l h).getD j d).1 = l[j] := by
  have e := nms_map l h
  have hj' : j < (nms l h).length := by rw [nms_length]; exact hj
  rw [List.getD_eq_getElem?_getD, List.getElem?_eq_getElem hj', Option.getD_some]
  have := congrArg (fun m : List ByteArray => m[j]?) e
  simp only [List.getElem?_map, List.getElem?_eq_getElem hj', List.getElem?_eq_getElem hj, Option.map_some, Option.some.injEq] at this
  exact this
theorem nms_at {B : Nat} {w : World} {v : Value} {l : List ByteArray} (h : Names B w v l) : NmAt w.heap.size w v (nms l h.2) := by
  obtain ⟨⟨a, cap, rfl, h2, h3, h4⟩, h5⟩ := h
  refine ⟨a, cap, by rw [nms_length], fun h0 => ?_⟩
  rw [nms_length] at h0
  obtain ⟨g, o, rfl, h6, h7, h8⟩ := h4 h0
  refine ⟨g, o, rfl, h7, fun j hj => ?_⟩
  rw [nms_length] at hj
  rw [h8 j (by simpa using hj), nms_get l _ j hj, List.getElem?_map, List.getElem?_eq_getElem hj]
  rfl

theorem count_any (S : Nat → Prop) (B : Nat) (kd : Int) (hkd : (Lit.int .i64 kd).wf = true) (v : Value) (l : List ByteArray) (hn : l.length ≤ 1099511627776) (t : Tm) (cs : List Value) (w : World) (hl : Names B w v l) (hT : RS S w cs t) (hS : ∀ g, S g → g < w.heap.size) :
    Calls Tryz.prog 72 #[.int .i64 kd, v, .agg cs.toArray] w fun e W' => ∃ cs', e = .returned (.agg cs'.toArray) ∧ Fr No w W' ∧ RS (fun g => S g ∨ New w W' g) W' cs' (cnt kd l t) := by
  obtain ⟨kd', n, x, y, a0, n0, d0, a1, n1, d1, a2, n2, d2, rfl⟩ := hT.form
  have h := count_in Fence.wide 3 trivial trivial trivial rfl (Nat.le_refl _) S kd hkd v (nms l hl.2) (by rw [nms_length]; exact hn) t _ _ _ _ _ _ _ w (nms_at hl) hT hS
  rw [nms_map] at h
  refine (callsIn_wide.1 h).mono ?_
  rintro e W' ⟨c0, c1, c2, c3, c4, c5, c6, rfl, hb, hr⟩
  exact ⟨_, rfl, fr_below hb, hr⟩
end Go.Proofs.YtomahbdidlglfacGreatDoor

/- own: 'erased' at what counts, and then makes of names, walked. -/
namespace Go.Proofs.YtomahbdidlglfacGreatDoor
open Go.RowKit Go.Maps Go.WideMaps

/-- Storing what is there is nothing. -/
theorem setCell_id {w : World} {b o : Nat} {v : Value} (h : w.cell? ⟨b, o, none⟩ = some v) : w.setCell ⟨b, o, none⟩ v = w := by
  have hb : ∃ c e z, w.heap[b]? = some (.cells c e z) ∧ c[o]? = some v := by
    unfold World.cell? at h
    dsimp only at h
    split at h
    · rename_i c e z heq
      exact ⟨c, e, z, heq, by simpa using h⟩
    · cases h
  obtain ⟨c, e, z, hb, hc⟩ := hb
  have hm : ∀ f : Obj → Obj, f (.cells c e z) = .cells c e z → w.heap.modify b f = w.heap := fun f hf => by
    apply Array.ext
    · simp
    · intro i h1 h2
      rw [Array.getElem_modify]
      by_cases e1 : b = i
      · subst e1
        rw [if_pos rfl]
        have : w.heap[b] = .cells c e z := by
          have := Array.getElem?_eq_getElem h2
          rw [hb] at this
          exact (Option.some.inj this).symm
        rw [this]; exact hf
      · rw [if_neg e1]
  unfold World.setCell
  rw [hm _ (by
    have : c.setIfInBounds o v = c := by
      apply Array.ext
      · simp
      · intro i h1 h2
        rw [Array.getElem_setIfInBounds]
        by_cases e1 : o = i
        · subst e1
          rw [if_pos rfl]
          have := Array.getElem?_eq_getElem h2
          rw [hc] at this
          exact (Option.some.inj this)
        · rw [if_neg e1]
    simp [this])]

theorem counts_any (kd : Int) (b : Bool) (h : (kd = 1 ∧ b = false) ∨ (kd = 3 ∧ b = false) ∨ (kd = 8 ∧ b = true) ∨ (kd = 9 ∧ b = true)) (w : World) : Calls Tryz.prog 76 #[.int .i64 kd] w fun e w' => e = .returned (.bool b) ∧ w' = w := by
  rcases h with ⟨rfl, rfl⟩ | ⟨rfl, rfl⟩ | ⟨rfl, rfl⟩ | ⟨rfl, rfl⟩
  all_goals
    go_enter Tryz.func76, Tryz.ntmps76
    go_wp2_with fail
    go_ret
    exact ⟨rfl, rfl⟩

/-- What counts, around a term. -/
def spine (s : List (Int × ByteArray)) (t : Tm) : Tm := s.foldr (fun p t => wrap p.1 p.2 t) t
end Go.Proofs.YtomahbdidlglfacGreatDoor
