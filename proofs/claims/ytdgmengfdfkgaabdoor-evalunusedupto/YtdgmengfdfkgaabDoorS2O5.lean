/- 'Same': terms. -/
import Derived.Test.YtdgmengfdfkgaabDoorS1
import Derived.Test.YtdgmengfdfkgaabDoorO1O2
import Derived.Test.YtdgmengfdfkgaabDoorC6C7C9
namespace Go.Proofs.YtdgmengfdfkgaabDoor
open Go.RowKit Go.Maps Go.WideMaps
theorem RT.fr {k B : Nat} {w w' : World} {cs : List Value} {t : Pu.TT k} (h : RT k B w cs t) (hB : B ≤ w.heap.size) (hf : Fr No w w') : RT k B w' cs t := h.old (hf.old hB (fun _ _ e => e)) hf.size
end Go.Proofs.YtdgmengfdfkgaabDoor

/- 'Own' and 'Fns', walked. -/
namespace Go.Proofs.YtdgmengfdfkgaabDoor
open Go.RowKit Go.Maps Go.WideMaps
theorem wt_get {α : Type} (f : α → Nat) (l : List α) (i : Nat) (h : i < l.length) : f l[i] ≤ (l.map f).sum := by
  have h1 := sumW_succ f l i h
  have h2 := sumW_le f l (i + 1)
  omega
end Go.Proofs.YtdgmengfdfkgaabDoor
