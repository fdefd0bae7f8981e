/- What the rows list, as the walks want it; the start that fits. -/
import Derived.Test.YtodolmdiebgmjaaDoorRows
import Derived.Test.YtodolmdiebgmjaaDoorRel
import Derived.ProofKit
import Derived.LaidMore
import Derived.OpenShut
import Derived.Stop.Joined
import Derived.Stop.LaidErr
import Derived.SizedLaws
namespace Go.Proofs.YtodolmdiebgmjaaDoor
open Go.ChangeShapes Go.WideShapes Go.ChangeAt Go.WideMaps Go.WideElems Go.RowKit

abbrev laid5 : List (String × DataW Unit) := [("math/bits.deBruijn32tab", Rows.laid_math_bits_deBruijn32tab), ("math/bits.deBruijn64tab", Rows.laid_math_bits_deBruijn64tab), ("internal/strconv.uint64pow10", Rows.laid_internal_strconv_uint64pow10), ("strconv.ErrRange", Rows.laid_strconv_ErrRange), ("strconv.ErrSyntax", Rows.laid_strconv_ErrSyntax)]

theorem Tryd.own : ownKnob Tryd.prog.godebug = none := by kernel_rfl
theorem gP : (Tryd.prog.globals[0]?).map (·.type) = some 104 := by kernel_rfl
theorem gS : (Tryd.prog.globals[1]?).map (·.type) = some 60 := by kernel_rfl
theorem gR : (Tryd.prog.globals[2]?).map (·.type) = some 60 := by kernel_rfl

theorem door_met (os : Os) (args : Array Value) : laidMetH Tryd.prog laid5 ((World.doorLaid Tryd.prog 400 os).forCall (fun _ _ => 0) ⟨#[], args, []⟩).memory :=
  laidMetH_of_parts3 (fuel := 8) (laidMet_of_run' 8 (by kernel_rfl) (by kernel_rfl)) (by kernel_rfl) (by kernel_rfl)

theorem star : "*" ++ "errors.errorString" = "*errors.errorString" := by decide
theorem row117 (u : TypeId) (h : Tryd.prog.typeName? 3 u = some "*errors.errorString") : u = 117 :=
  typeName_ptr_named (nm := "errors.errorString") (by rw [star]; kernel_rfl) (by kernel_rfl) (by decide) u (by rw [star]; exact h)
theorem cells119 : Tryd.prog.cellsOf 119 = 1 := by kernel_rfl
theorem cells9' : Tryd.prog.cellsOf 9 = 1 := by kernel_rfl
theorem cells89 : Tryd.prog.cellsOf 89 = 1 := by kernel_rfl
theorem cells104 : Tryd.prog.cellsOf 104 = 20 := by kernel_rfl
theorem tab_eq : (Rows.laid_internal_strconv_uint64pow10 : DataW Unit) = Lib.tabData .u64 Lib.pow10Tab := by rfl

/-- What the listed variables give the walks. -/
theorem env_of_laid {W : World} (h : laidMetH Tryd.prog laid5 W) : Env W := by
  rw [MakeChecks.laidMetH_plain _ _ _ (by kernel_rfl)] at h
  have h2 := h.tail.tail
  refine ⟨?_, ?_, ?_⟩
  · rw [tab_eq] at h2
    exact Lib.tabIs_of_head named2 gP Tryd.underlying104 Tryd.underlying89 cells89 cells104 h2
  · obtain ⟨a, s, hv, _⟩ := laid_sentinel h2.tail.tail named0 gS Tryd.underlying60 row117 Tryd.underlying117 Tryd.underlying119 rfl rfl Tryd.underlying9 cells119 cells9'
    exact ⟨_, _, hv⟩
  · obtain ⟨a, s, hv, _⟩ := laid_sentinel h2.tail named1 gR Tryd.underlying60 row117 Tryd.underlying117 Tryd.underlying119 rfl rfl Tryd.underlying9 cells119 cells9'
    exact ⟨_, _, hv⟩
/-- There are more than three variables. -/
theorem size_of_env {W : World} (h : Env W) : 3 ≤ W.heap.size := by
  obtain ⟨_, _, ⟨tp, p, hv⟩⟩ := h
  simp only [World.var?, named1, Option.bind_some] at hv
  split at hv
  · rename_i hh
    have := (Array.getElem?_eq_some_iff.1 hh).1
    omega
  · cases hv

end Go.Proofs.YtodolmdiebgmjaaDoor
