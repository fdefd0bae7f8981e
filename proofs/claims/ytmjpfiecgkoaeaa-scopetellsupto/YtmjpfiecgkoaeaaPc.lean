/- The check of programs, as plain functions. No walk in it. -/
import Derived.Test.YtmjpfiecgkoaeaaN1
namespace Go.Proofs.Ytmjpfiecgkoaeaa.Pu

def unlikeFrom : List ByteArray → List ByteArray → Bool
  | _, [] => true
  | ahead, x :: r => !(has ahead x) && isName x && unlikeFrom (ahead ++ [x]) r
/-- All are names, and no two the same. -/
def unlike (l : List ByteArray) : Bool := unlikeFrom [] l

def isTag (n : Int) : Bool := decide (0 ≤ n ∧ n ≤ 9)

def fits {α : Type} (t : Node α) : Bool :=
  if t.kind = 7 then decide (t.args.length = 1)
  else if t.kind = 1 ∨ t.kind = 2 then decide (t.args.length = 0 ∧ t.cases.length = 0)
  else if t.kind = 5 ∨ t.kind = 6 then decide (t.args.length = 2 ∧ t.cases.length = 0)
  else decide (t.args.length ≤ 6 ∧ t.cases.length = 0)

def orErr (b : Bool) (e : Int) : Int := if b = true then 0 else e

def alone {α : Type} (fns : ByteArray → Option Int) (c : Cnt) (t : Node α) : Int :=
  if t.kind = 1 then orErr (decide (0 < c t.name)) 6
  else if t.kind = 2 then orErr (decide (-2147483648 ≤ t.n ∧ t.n ≤ 2147483647)) 3
  else if t.kind = 3 then orErr (isTag t.n) 3
  else if t.kind = 5 then orErr (decide (1 ≤ t.n ∧ t.n ≤ 5)) 1
  else if t.kind = 6 then orErr (isName t.name) 7
  else if t.kind = 4 then
    match fns t.name with
    | none => 6
    | some n => orErr (decide (n = (t.args.length : Int))) 5
  else 0

def argNames (l6 : Bool) (name : ByteArray) (i : Nat) : List ByteArray := if l6 = true ∧ i = 1 then [name] else []

def chkArgs {α : Type} (F : Cnt → α → Nat → Int) (c : Cnt) (l6 : Bool) (name : ByteArray) (d : Nat) : Nat → List α → Int
  | _, [] => 0
  | i, a :: r => if F (with' c (argNames l6 name i)) a d = 0 then chkArgs F c l6 name d (i + 1) r else F (with' c (argNames l6 name i)) a d

def taken {α : Type} (l : List (Int × List ByteArray × α)) (n : Int) : Bool := l.any (fun k => decide (k.1 = n))

def caseOwn {α : Type} (ahead : List (Int × List ByteArray × α)) (k : Int × List ByteArray × α) : Int :=
  if isTag k.1 = false then 3 else if taken ahead k.1 = true ∨ unlike k.2.1 = false then 7 else if 6 < k.2.1.length then 5 else 0

def chkCases {α : Type} (F : Cnt → α → Nat → Int) (c : Cnt) (d : Nat) : List (Int × List ByteArray × α) → List (Int × List ByteArray × α) → Int
  | _, [] => 0
  | ahead, k :: r => if caseOwn ahead k = 0 then (if F (with' c k.2.1) k.2.2 d = 0 then chkCases F c d (ahead ++ [k]) r else F (with' c k.2.1) k.2.2 d) else caseOwn ahead k

def cases' {α : Type} (F : Cnt → α → Nat → Int) (c : Cnt) (d : Nat) (l : List (Int × List ByteArray × α)) : Int :=
  if l.length < 1 ∨ 5 < l.length then 5 else chkCases F c d [] l

def own {α : Type} (fns : ByteArray → Option Int) (c : Cnt) (t : Node α) (d : Nat) : Int :=
  if 24 < d then 9 else if t.kind < 1 ∨ 7 < t.kind then 1 else if fits t = false then 5 else alone fns c t

def termN {α : Type} (fns : ByteArray → Option Int) (F : Cnt → α → Nat → Int) (c : Cnt) (t : Node α) (d : Nat) : Int :=
  if own fns c t d = 0 then
    (if chkArgs F c (decide (t.kind = 6)) t.name (d + 1) 0 t.args = 0 then (if t.kind = 7 then cases' F c (d + 1) t.cases else 0)
    else chkArgs F c (decide (t.kind = 6)) t.name (d + 1) 0 t.args)
  else own fns c t d
/-- What is wrong with a term. -/
def term (fns : ByteArray → Option Int) : (k : Nat) → Cnt → TT k → Nat → Int
  | 0, _, _, _ => 0
  | k + 1, c, t, d => termN fns (term fns k) c t d

abbrev Fn (k : Nat) := ByteArray × List ByteArray × TT k

def head {k : Nat} (fns : ByteArray → Option Int) (f : Fn k) : Int :=
  if (fns f.1).isSome = true ∨ isName f.1 = false ∨ unlike f.2.1 = false then 7 else if 6 < f.2.1.length then 5 else if 400 < size k f.2.2 then 4 else 0
def note {k : Nat} (fns : ByteArray → Option Int) (f : Fn k) : ByteArray → Option Int := fun y => if y = f.1 then some (f.2.1.length : Int) else fns y

def heads {k : Nat} : (ByteArray → Option Int) → List (Fn k) → Int
  | _, [] => 0
  | fns, f :: r => if head fns f = 0 then heads (note fns f) r else head fns f
def notes {k : Nat} : (ByteArray → Option Int) → List (Fn k) → (ByteArray → Option Int)
  | fns, [] => fns
  | fns, f :: r => notes (note fns f) r
def bodies {k : Nat} (fns : ByteArray → Option Int) : List (Fn k) → Int
  | [] => 0
  | f :: r => if term fns k (with' (fun _ => 0) f.2.1) f.2.2 0 = 0 then bodies fns r else term fns k (with' (fun _ => 0) f.2.1) f.2.2 0

/-- What is wrong with a program. -/
def check {k : Nat} (l : List (Fn k)) : Int :=
  if l.length < 1 ∨ 6 < l.length then 5
  else if heads (fun _ => none) l = 0 then bodies (notes (fun _ => none) l) l else heads (fun _ => none) l

end Go.Proofs.Ytmjpfiecgkoaeaa.Pu
