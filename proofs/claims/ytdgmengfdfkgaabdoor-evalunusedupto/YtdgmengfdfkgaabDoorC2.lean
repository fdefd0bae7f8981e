/- The check: are they names, unlike each other? -/
import Derived.Test.YtdgmengfdfkgaabDoorN1Pc
import Derived.Test.YtdgmengfdfkgaabDoorW3W4
namespace Go.Proofs.YtdgmengfdfkgaabDoor
open Go.RowKit Go.Maps Go.WideMaps
/-- The variable of 'guarded'. -/
abbrev Gd (w : World) (P : Nat) : Prop := w.heap[P]? = some (.cells #[.func (.func 25) #[] #[]] 59 (0, 0))
theorem unlike_step (l : List ByteArray) (i : Nat) (h : i < l.length) : Pu.unlikeFrom (l.take i) (l.drop i) = (!(Pu.has (l.take i) l[i]) && isName l[i] && Pu.unlikeFrom (l.take (i + 1)) (l.drop (i + 1))) := by
  rw [List.drop_eq_getElem_cons h, List.take_succ_eq_append_getElem h]
  rfl
theorem Names.fr {B : Nat} {w w' : World} {v : Value} {l : List ByteArray} (h : Names B w v l) (hf : Fr No w w') : Names B w' v l := by
  refine ⟨?_, h.2⟩
  obtain ⟨a, cap, h1, h2, h3, h4⟩ := h.1
  refine ⟨a, cap, h1, h2, h3, fun hn => ?_⟩
  obtain ⟨g, o, h5, h6, h7, h8⟩ := h4 hn
  exact ⟨g, o, h5, h6, Nat.lt_of_lt_of_le h7 hf.size, fun i hi => by
    rw [show w'.cell? ⟨g, o + i, none⟩ = w.cell? ⟨g, o + i, none⟩ from by simp only [World.cell?, hf.block g h7 (fun e => e)]]
    exact h8 i hi⟩
end Go.Proofs.YtdgmengfdfkgaabDoor
