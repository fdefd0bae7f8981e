/- The law's 'alive'. -/
import Derived.Test.YtdgmengfdfkgaabDoorS2O5
import Derived.Test.YtdgmengfdfkgaabDoorW3W4
import Derived.Test.YtdgmengfdfkgaabDoorN1Pc
namespace Go.Proofs.YtdgmengfdfkgaabDoor
open Go.RowKit Go.Maps Go.WideMaps
abbrev sz : ByteArray := ⟨#[122]⟩
end Go.Proofs.YtdgmengfdfkgaabDoor

/- 'ScopeLet', walked. -/
namespace Go.Proofs.YtdgmengfdfkgaabDoor
open Go.RowKit Go.Maps Go.WideMaps
/-- A row of names that is owned, as a list of names. -/
theorem names_of_row {w : World} {b : Nat} {v : Value} {l : List ByteArray} (h : w.ownsRow b 9 1 v l.length (l.map .string)) (hs : Short l) : Names w.heap.size w v l := by
  refine ⟨?_, hs⟩
  rcases h.2 with ⟨rfl, h0⟩ | ⟨g, cap, cur, rfl, hb, hgg, hcap, hcap', hsz, htk⟩
  · exact ⟨_, _, by rw [h0], by omega, Nat.zero_le _, fun hn => absurd hn (by omega)⟩
  · refine ⟨_, _, rfl, hcap, hcap', fun hn => ⟨g, 0, rfl, lt_of_heap hgg, lt_of_heap hgg, fun i hi => ?_⟩⟩
    have := h.cells (g := g) rfl i _ (List.getElem?_eq_getElem hi)
    rw [Addr.add_lit] at this
    rw [this]
    exact (List.getElem?_eq_getElem hi).symm
end Go.Proofs.YtdgmengfdfkgaabDoor
