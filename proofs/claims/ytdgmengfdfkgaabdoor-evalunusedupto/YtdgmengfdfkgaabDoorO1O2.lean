/- Copies: how they lie. No walk of terms in it. -/
import Derived.Laws.MakeOwn
import Derived.Test.YtdgmengfdfkgaabDoorC2
namespace Go.Proofs.YtdgmengfdfkgaabDoor
open Go.RowKit Go.Maps Go.WideMaps
/-- A row in a block of S. -/
def RowS (S : Nat → Prop) (w : World) (v : Value) (n : Nat) (xs : List Value) : Prop :=
  ∃ a cap, v = .slice a n cap ∧ n ≤ cap ∧ cap ≤ maxLen ∧ (0 < n → ∃ g o, a = some ⟨g, o, none⟩ ∧ S g ∧ g < w.heap.size ∧ ∀ i, i < xs.length → w.cell? ⟨g, o + i, none⟩ = xs[i]?)
def NamesS (S : Nat → Prop) (w : World) (v : Value) (l : List ByteArray) : Prop := RowS S w v l.length (l.map .string) ∧ Short l
def RCS {α : Type} (P : List Value → α → Prop) (S : Nat → Prop) (w : World) (cs : List Value) (c : Int × List ByteArray × α) : Prop :=
  ∃ vv b, cs = .int .i64 c.1 :: vv :: b ∧ NamesS S w vv c.2.1 ∧ b.length = 7 ∧ P b c.2.2
def RNS {α : Type} (P : List Value → α → Prop) (S : Nat → Prop) (w : World) (cs : List Value) (t : Pu.Node α) : Prop :=
  ∃ vv av cv acs ccs, cs = [.int .i64 t.kind, .int .i64 t.n, .string t.name, .string t.token, vv, av, cv] ∧ t.name.size ≤ maxLen ∧ (Lit.int .i64 t.n).wf = true ∧
    NamesS S w vv t.vars ∧ RowS S w av t.args.length acs ∧ Each 7 P acs t.args ∧ RowS S w cv t.cases.length ccs ∧ Each 9 (RCS P S w) ccs t.cases
def RTS : (k : Nat) → (S : Nat → Prop) → World → List Value → Pu.TT k → Prop
  | 0, _, _, _, _ => False
  | k + 1, S, w, cs, t => RNS (RTS k S w) S w cs t
def RFS (k : Nat) (S : Nat → Prop) (w : World) (cs : List Value) (f : ByteArray × List ByteArray × Pu.TT k) : Prop :=
  ∃ pv b, cs = .string f.1 :: pv :: b ∧ f.1.size ≤ maxLen ∧ NamesS S w pv f.2.1 ∧ b.length = 7 ∧ RTS k S w b f.2.2
/-- The blocks of S stand as they stood, and are of S'. -/
def Stays (S S' : Nat → Prop) (w w' : World) : Prop := w.heap.size ≤ w'.heap.size ∧ ∀ g, S g → g < w.heap.size → S' g ∧ w'.heap[g]? = w.heap[g]?
theorem RowS.kept {S S' : Nat → Prop} {w w' : World} {v : Value} {n : Nat} {xs : List Value} (h : RowS S w v n xs) (hs : Stays S S' w w') : RowS S' w' v n xs := by
  obtain ⟨a, cap, h1, h2, h3, h4⟩ := h
  refine ⟨a, cap, h1, h2, h3, fun hn => ?_⟩
  obtain ⟨g, o, h5, h6, h8, h7⟩ := h4 hn
  have hh := hs.2 g h6 h8
  exact ⟨g, o, h5, hh.1, Nat.lt_of_lt_of_le h8 hs.1, fun i hi => by rw [show w'.cell? ⟨g, o + i, none⟩ = w.cell? ⟨g, o + i, none⟩ from by simp only [World.cell?, hh.2]]; exact h7 i hi⟩
theorem NamesS.kept {S S' : Nat → Prop} {w w' : World} {v : Value} {l : List ByteArray} (h : NamesS S w v l) (hs : Stays S S' w w') : NamesS S' w' v l := ⟨h.1.kept hs, h.2⟩
theorem RCS.kept {α : Type} {P P' : List Value → α → Prop} {S S' : Nat → Prop} {w w' : World} (hs : Stays S S' w w') (hp : ∀ c a, P c a → P' c a) {cs : List Value} {c : Int × List ByteArray × α} (h : RCS P S w cs c) : RCS P' S' w' cs c := by
  obtain ⟨vv, b, h1, h2, h3, h4⟩ := h
  exact ⟨vv, b, h1, h2.kept hs, h3, hp _ _ h4⟩
theorem RNS.kept {α : Type} {P P' : List Value → α → Prop} {S S' : Nat → Prop} {w w' : World} (hs : Stays S S' w w') (hp : ∀ c a, P c a → P' c a) {cs : List Value} {t : Pu.Node α} (h : RNS P S w cs t) : RNS P' S' w' cs t := by
  obtain ⟨vv, av, cv, acs, ccs, h1, h2, h3, h4, h5, h6, h7, h8⟩ := h
  exact ⟨vv, av, cv, acs, ccs, h1, h2, h3, h4.kept hs, h5.kept hs, h6.mono hp, h7.kept hs, h8.mono fun c a => RCS.kept hs hp⟩
theorem RTS.kept {S S' : Nat → Prop} {w w' : World} (hs : Stays S S' w w') : ∀ {k : Nat} {cs : List Value} {t : Pu.TT k}, RTS k S w cs t → RTS k S' w' cs t
  | 0, _, _, h => h
  | _ + 1, _, _, h => RNS.kept hs (fun _ _ hc => RTS.kept hs hc) h
theorem RFS.kept {S S' : Nat → Prop} {w w' : World} (hs : Stays S S' w w') {k : Nat} {cs : List Value} {f : ByteArray × List ByteArray × Pu.TT k} (h : RFS k S w cs f) : RFS k S' w' cs f := by
  obtain ⟨pv, b, h1, h0, h2, h3, h4⟩ := h
  exact ⟨pv, b, h1, h0, h2.kept hs, h3, RTS.kept hs h4⟩
theorem RowS.row {S : Nat → Prop} {B : Nat} {w : World} {v : Value} {n : Nat} {xs : List Value} (h : RowS S w v n xs) (hS : ∀ g, S g → g < B) : Row B w v n xs := by
  obtain ⟨a, cap, h1, h2, h3, h4⟩ := h
  refine ⟨a, cap, h1, h2, h3, fun hn => ?_⟩
  obtain ⟨g, o, h5, h6, h8, h7⟩ := h4 hn
  exact ⟨g, o, h5, hS g h6, h8, h7⟩
theorem RTS.form {k : Nat} {S : Nat → Prop} {w : World} {cs : List Value} {t : Pu.TT k} (h : RTS k S w cs t) :
    ∃ kd n x y a0 n0 c0 a1 n1 c1 a2 n2 c2, cs = [.int .i64 kd, .int .i64 n, .string x, .string y, .slice a0 n0 c0, .slice a1 n1 c1, .slice a2 n2 c2] := by
  cases k with
  | zero => exact h.elim
  | succ k =>
    obtain ⟨vv, av, cv, acs, ccs, h1, _, _, h4, h5, _, h7, _⟩ := h
    obtain ⟨a0, c0, rfl, _⟩ := h4.1
    obtain ⟨a1, c1, rfl, _⟩ := h5
    obtain ⟨a2, c2, rfl, _⟩ := h7
    exact ⟨_, _, _, _, _, _, _, _, _, _, _, _, _, h1⟩
/-- Cells of a block written one behind the other. -/
def setsAt (w : World) (g p : Nat) : List Value → World
  | [] => w
  | u :: r => setsAt (w.setCell ⟨g, p, none⟩ u) g (p + 1) r
theorem sets_heap (g : Nat) (e : TypeId) (z : Nat × Nat) : ∀ (us : List Value) (p : Nat) (w : World) (cur : Array Value), w.heap[g]? = some (.cells cur e z) → p + us.length ≤ cur.size →
    ∃ cur' : Array Value, (setsAt w g p us).heap[g]? = some (.cells cur' e z) ∧ cur'.size = cur.size ∧ (∀ j, j < p → cur'[j]? = cur[j]?) ∧ (∀ j, j < us.length → cur'[p + j]? = us[j]?) ∧ Fr (· = g) w (setsAt w g p us)
  | [], p, w, cur, h, hl => ⟨cur, h, rfl, fun _ _ => rfl, fun j hj => by simp at hj, Fr.refl _ _⟩
  | u :: r, p, w, cur, h, hl => by
    have h1 : (w.setCell ⟨g, p, none⟩ u).heap[g]? = some (.cells (cur.setIfInBounds p u) e z) := by simp [World.setCell, Array.getElem?_modify, h]
    simp at hl
    obtain ⟨cur', h2, h3, h4, h5, h6⟩ := sets_heap g e z r (p + 1) _ _ h1 (by simp; omega)
    refine ⟨cur', h2, by simpa using h3, fun j hj => ?_, fun j hj => ?_, ?_⟩
    · rw [h4 j (by omega)]
      simp [show p ≠ j by omega]
    · cases j with
      | zero => rw [Nat.add_zero, h4 p (by omega), Array.getElem?_setIfInBounds_self_of_lt (by omega)]; rfl
      | succ j =>
        have := h5 j (by simpa using hj)
        rw [show p + (j + 1) = p + 1 + j by omega, this]; rfl
    · exact ((Fr.refl (· = g) w).setCell (.inl rfl) u).trans h6
theorem stays_fr {w w' : World} {S S' T : Nat → Prop} (hf : Fr T w w') (hT : ∀ g, S g → g < w.heap.size → ¬ T g) (hS : ∀ g, S g → S' g) : Stays S S' w w' := ⟨hf.size, fun g hg hl => ⟨hS g hg, hf.block g hl (hT g hg hl)⟩⟩
end Go.Proofs.YtdgmengfdfkgaabDoor

/- Copies of terms' lists. -/
namespace Go.Proofs.YtdgmengfdfkgaabDoor
open Go.RowKit Go.Maps Go.WideMaps
theorem some_at {cur : Array Value} {w : World} {g o : Nat} {t : TypeId} (h : w.heap[g]? = some (.cells cur t (0, 0))) (ho : o < cur.size) : ∃ u, w.cell? ⟨g, o, none⟩ = some u :=
  ⟨_, by rw [cell_of_heap h o]; exact Array.getElem?_eq_getElem ho⟩
end Go.Proofs.YtdgmengfdfkgaabDoor
