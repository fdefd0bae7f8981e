/- The writing of terms as plain functions. No program in it. -/
import Derived.Test.YtodolmdiebgmjaaDoorPu
import Derived.Lib.Strings
import Derived.Lib.Join
namespace Go.Proofs.YtodolmdiebgmjaaDoor.Pu

def tagB (n : Int) : List UInt8 := 35 :: Lib.itoa n
def bracketB (l : List ByteArray) : List UInt8 := 40 :: (Lib.join (l.map (·.data.toList)) [32] ++ [41])

/-- What stands behind a term's bracket. -/
def headB {α : Type} (t : Node α) : List UInt8 :=
  if t.kind = 3 then tagB t.n else if t.kind = 4 then t.name.data.toList else if t.kind = 5 then sign t.n
  else if t.kind = 6 then [108, 101, 116, 32] ++ t.name.data.toList else [109, 97, 116, 99, 104]

def argsB {α : Type} (S : α → List UInt8) (l : List α) : List UInt8 := (l.map fun a => 32 :: S a).flatten
def caseB {α : Type} (S : α → List UInt8) (c : Int × List ByteArray × α) : List UInt8 := [32, 40] ++ tagB c.1 ++ [32] ++ bracketB c.2.1 ++ [32] ++ (S c.2.2 ++ [41])
def casesB {α : Type} (S : α → List UInt8) (l : List (Int × List ByteArray × α)) : List UInt8 := (l.map (caseB S)).flatten

def showN {α : Type} (S : α → List UInt8) (t : Node α) : List UInt8 :=
  if t.kind = 1 then t.name.data.toList else if t.kind = 2 then Lib.itoa t.n
  else 40 :: headB t ++ (argsB S t.args ++ ((if t.kind = 7 then casesB S t.cases else []) ++ [41]))

def showT : (k : Nat) → TT k → List UInt8
  | 0, _ => []
  | k + 1, t => showN (showT k) t

def fnB (f : ByteArray × List ByteArray × TT 26) : List UInt8 := [40, 102, 110, 32] ++ f.1.data.toList ++ [32] ++ bracketB f.2.1 ++ [32] ++ (showT 26 f.2.2 ++ [41, 10])
def printB (l : List (ByteArray × List ByteArray × TT 26)) : List UInt8 := (l.map fnB).flatten

/-- A whole number of Go's. -/
def inI (n : Int) : Prop := -9223372036854775808 ≤ n ∧ n ≤ 9223372036854775807

/-- Terms as they are read. -/
def GoodN {α : Type} (G : α → Prop) (t : Node α) : Prop :=
  (t.kind = 1 ∨ t.kind = 2 ∨ t.kind = 3 ∨ t.kind = 4 ∨ t.kind = 5 ∨ t.kind = 6 ∨ t.kind = 7) ∧ (t.kind = 5 → 1 ≤ t.n ∧ t.n ≤ 5) ∧ inI t.n ∧ (∀ a, a ∈ t.args → G a) ∧ (∀ c, c ∈ t.cases → inI c.1 ∧ G c.2.2)
def Good : (k : Nat) → TT k → Prop
  | 0, _ => False
  | k + 1, t => GoodN (Good k) t

end Go.Proofs.YtodolmdiebgmjaaDoor.Pu
