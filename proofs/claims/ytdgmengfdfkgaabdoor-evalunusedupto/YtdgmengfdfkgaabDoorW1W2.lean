/- 'with': names are bound while something is done. -/
import Derived.Test.YtdgmengfdfkgaabDoorPuPeRel
namespace Go.Proofs.YtdgmengfdfkgaabDoor
open Go.RowKit Go.Maps Go.WideMaps
theorem Row.at {B : Nat} {w : World} {v : Value} {n : Nat} {xs : List Value} (h : Row B w v n xs) (hn : 0 < n) :
    ∃ g o cap, v = .slice (some ⟨g, o, none⟩) n cap ∧ n ≤ cap ∧ cap ≤ maxLen ∧ g < B ∧ g < w.heap.size ∧ ∀ i, i < xs.length → w.cell? ⟨g, o + i, none⟩ = xs[i]? := by
  obtain ⟨a, cap, h1, h2, h3, h4⟩ := h
  obtain ⟨g, o, rfl, h5, h6, h7⟩ := h4 hn
  exact ⟨g, o, cap, h1, h2, h3, h5, h6, h7⟩
theorem Names.at {B : Nat} {w : World} {v : Value} {l : List ByteArray} (h : Names B w v l) {i : Nat} (hi : i < l.length) :
    ∃ g o cap, v = .slice (some ⟨g, o, none⟩) l.length cap ∧ cap ≤ maxLen ∧ g < B ∧ g < w.heap.size ∧ w.cell? ⟨g, o + i, none⟩ = some (.string l[i]) ∧ l[i].size ≤ maxLen := by
  obtain ⟨g, o, cap, h1, h2, h3, h4, h5, h6⟩ := h.1.at (by omega)
  exact ⟨g, o, cap, h1, h3, h4, h5, by rw [h6 i (by simpa using hi), List.getElem?_map, List.getElem?_eq_getElem hi]; rfl, h.2 _ (List.getElem_mem hi)⟩
end Go.Proofs.YtdgmengfdfkgaabDoor

/- 'Free$1': a name is asked for. -/
namespace Go.Proofs.YtdgmengfdfkgaabDoor
open Go.RowKit Go.Maps Go.WideMaps
theorem cell_of_heap {w : World} {R : Nat} {cur : Array Value} {t : TypeId} {z : Nat × Nat} (h : w.heap[R]? = some (.cells cur t z)) (o : Nat) : w.cell? ⟨R, o, none⟩ = cur[o]? := by
  simp [World.cell?, h]
theorem frozen_of_heap {w : World} {R : Nat} {cur : Array Value} {t : TypeId} (h : w.heap[R]? = some (.cells cur t (0, 0))) (o : Nat) : w.frozen? ⟨R, o, none⟩ = false := by
  simp [World.frozen?, h]
theorem lt_of_heap {w : World} {R : Nat} {o : Obj} (h : w.heap[R]? = some o) : R < w.heap.size := (Array.getElem?_eq_some_iff.1 h).1
theorem fr_heap {T : Nat → Prop} {w w' : World} {R : Nat} {o : Obj} (h : w.heap[R]? = some o) (hf : Fr T w w') (hT : ¬ T R) : w'.heap[R]? = some o := by
  rw [hf.block R (lt_of_heap h) hT]; exact h
theorem one_set {w : World} {R : Nat} {v u : Value} {t : TypeId} {z : Nat × Nat} (h : w.heap[R]? = some (.cells #[v] t z)) : (w.setCell ⟨R, 0, none⟩ u).heap[R]? = some (.cells #[u] t z) := by
  simp [World.setCell, Array.getElem?_modify, h]
/-- The blocks that the asking for names turns. -/
def TS (A Td Nm : Nat) (v : Value) : Nat → Prop := fun k => k = A ∨ k = Td ∨ k = Nm ∨ v.ownBlock = some k
theorem row_obj {w : World} {B n : Nat} {v : Value} {xs : List Value} {e : TypeId} {sz : Nat} (h : w.ownsRow B e sz v n xs) {g : Nat} (hg : v.ownBlock = some g) : ∃ cur, w.heap[g]? = some (.cells cur e (0, 0)) := by
  rcases h.2 with ⟨rfl, hn⟩ | ⟨g', cap, cur, rfl, hb, hgg, rest⟩
  · simp [Value.ownBlock] at hg
  · simp [Value.ownBlock] at hg
    subst hg
    exact ⟨cur, hgg⟩
theorem row_ne_cells {w : World} {B n : Nat} {v : Value} {xs : List Value} {e t : TypeId} {sz R : Nat} {cur : Array Value} {z : Nat × Nat} (h : w.ownsRow B e sz v n xs) (hR : w.heap[R]? = some (.cells cur t z)) (ht : t ≠ e) : v.ownBlock ≠ some R := by
  intro hg
  obtain ⟨cur', h1⟩ := row_obj h hg
  rw [h1] at hR
  injection hR with hR
  injection hR with _ hR _
  exact ht hR.symm
theorem row_fr {w w' : World} {B n : Nat} {v : Value} {xs : List Value} {e : TypeId} {sz : Nat} {T : Nat → Prop} (h : w.ownsRow B e sz v n xs) (hf : Fr T w w') (hT : ∀ g, v.ownBlock = some g → ¬ T g) : w'.ownsRow B e sz v n xs := by
  refine ⟨h.1, ?_⟩
  rcases h.2 with hn | ⟨g, cap, cur, rfl, hb, hgg, rest⟩
  · exact .inl hn
  · exact .inr ⟨g, cap, cur, rfl, hb, fr_heap hgg hf (hT g rfl), rest⟩
theorem row_form {w : World} {B n : Nat} {v : Value} {xs : List Value} {e : TypeId} {sz : Nat} (h : w.ownsRow B e sz v n xs) : ∃ a c, v = .slice a n c := by
  rcases h.2 with ⟨rfl, rfl⟩ | ⟨g', cap, cur, rfl, hb, hgg, rest⟩
  · exact ⟨_, _, rfl⟩
  · exact ⟨_, _, rfl⟩
theorem has_snoc (acc : List ByteArray) (x y : ByteArray) : Pu.has (acc ++ [x]) y = (Pu.has acc y || decide (x = y)) := by simp [Pu.has, List.any_append]
theorem Tryd.info9 : (Tryd.prog.info? 9).map (fun i => (i.zero, i.size, i.bytes)) = some (some (.string ⟨#[]⟩), 1, 16) := by kernel_rfl
end Go.Proofs.YtdgmengfdfkgaabDoor
