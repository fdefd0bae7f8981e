/- The scope layer as plain functions on terms: what the walks over the program are held against. No program in it. -/
namespace Go.Proofs.Ytmjpfiecgkoaeaa.Pu

/-- A term over terms of another kind. -/
structure Node (α : Type) where
  kind : Int
  n : Int
  name : ByteArray
  token : ByteArray
  vars : List ByteArray
  args : List α
  cases : List (Int × List ByteArray × α)

/-- Terms with at most so many levels. -/
def TT : Nat → Type
  | 0 => Empty
  | k + 1 => Node (TT k)

/-- How many names and terms there are, with all within. -/
def wN {α : Type} (W : α → Nat) (t : Node α) : Nat :=
  1 + t.vars.length + (t.args.map W).sum + (t.cases.map fun c => 1 + c.2.1.length + W c.2.2).sum
def wt : (k : Nat) → TT k → Nat
  | 0, _ => 0
  | k + 1, t => wN (wt k) t

def sizeN {α : Type} (S : α → Nat) (t : Node α) : Nat := 1 + (t.args.map S).sum + (t.cases.map fun c => S c.2.2).sum
def size : (k : Nat) → TT k → Nat
  | 0, _ => 0
  | k + 1, t => sizeN (size k) t

/-- So often each name is bound. -/
abbrev Cnt := ByteArray → Nat
def with' (c : Cnt) (l : List ByteArray) : Cnt := fun x => c x + l.countP (fun y => decide (y = x))

def has (l : List ByteArray) (x : ByteArray) : Bool := l.any (fun y => decide (y = x))

def ask (c : Cnt) (x : ByteArray) (acc : List ByteArray) : List ByteArray :=
  if c x = 0 ∧ has acc x = false then acc ++ [x] else acc

def asks (k : Int) : Bool := decide (k = 1) || decide (k = 8) || decide (k = 9) || decide (k = 10) || decide (k = 11)

def needsArgs {α : Type} (F : Cnt → α → List ByteArray → List ByteArray) (c : Cnt) : List α → List ByteArray → List ByteArray
  | [], acc => acc
  | a :: l, acc => needsArgs F c l (F c a acc)
def needsCases {α : Type} (F : Cnt → α → List ByteArray → List ByteArray) (c : Cnt) : List (Int × List ByteArray × α) → List ByteArray → List ByteArray
  | [], acc => acc
  | a :: l, acc => needsCases F c l (F (with' c a.2.1) a.2.2 acc)

def needsN {α : Type} (F : Cnt → α → List ByteArray → List ByteArray) (c : Cnt) (t : Node α) (acc : List ByteArray) : List ByteArray :=
  let acc1 := if asks t.kind = true then ask c t.name acc else acc
  if t.kind = 1 then acc1
  else if t.kind = 6 then
    match t.args with
    | [a, b] => F (with' c [t.name]) b (F c a acc1)
    | _ => needsCases F c t.cases (needsArgs F c t.args acc1)
  else needsCases F c t.cases (needsArgs F c t.args acc1)
def needs : (k : Nat) → Cnt → TT k → List ByteArray → List ByteArray
  | 0, _, _, acc => acc
  | k + 1, c, t, acc => needsN (needs k) c t acc

/-- The names that a term needs. -/
def free (k : Nat) (t : TT k) : List ByteArray := needs k (fun _ => 0) t []

end Go.Proofs.Ytmjpfiecgkoaeaa.Pu
