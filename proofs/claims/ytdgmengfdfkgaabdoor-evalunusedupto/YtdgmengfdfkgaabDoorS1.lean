/- 'Same': lists of names. -/
import Derived.Test.YtdgmengfdfkgaabDoorC2
namespace Go.Proofs.YtdgmengfdfkgaabDoor
open Go.RowKit Go.Maps Go.WideMaps
namespace Pu
def sameList {α : Type} (S : α → α → Bool) : List α → List α → Bool
  | [], [] => true
  | a :: l, b :: r => S a b && sameList S l r
  | _, _ => false
def sameCase {α : Type} (S : α → α → Bool) (a b : Int × List ByteArray × α) : Bool := decide (a.1 = b.1) && decide (a.2.1 = b.2.1) && S a.2.2 b.2.2
def sameN {α : Type} (S : α → α → Bool) (a b : Node α) : Bool :=
  decide (a.kind = b.kind) && decide (a.n = b.n) && decide (a.name = b.name) && decide (a.token = b.token) && decide (a.vars = b.vars) && sameList S a.args b.args && sameList (sameCase S) a.cases b.cases
/-- Are two terms the same? -/
def same : (k : Nat) → TT k → TT k → Bool
  | 0, _, _ => true
  | k + 1, a, b => sameN (same k) a b
end Pu
theorem str_ne {x y : ByteArray} (h : ¬ x = y) : (!x.toList == y.toList) = true := by
  have : ¬ x.toList = y.toList := fun e => h (by rw [ByteArray.toList_eq, ByteArray.toList_eq] at e; exact WideShapes.bytes_inj e)
  simp [this]
theorem str_ne' {x y : ByteArray} (h : ¬ x = y) : (x.toList == y.toList) = false := by
  have := str_ne h
  simpa using this
end Go.Proofs.YtdgmengfdfkgaabDoor
