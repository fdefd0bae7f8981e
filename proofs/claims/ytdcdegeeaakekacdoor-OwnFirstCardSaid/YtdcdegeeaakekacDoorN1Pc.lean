/- 'xcref1.Name', and the guarded asking for it. -/
import Derived.Defers
import Derived.Recover
import Derived.Test.YtdcdegeeaakekacDoorW1W2
namespace Go.Proofs.YtdcdegeeaakekacDoor
open Go.RowKit Go.Maps Go.WideMaps
def letter (c : UInt8) : Bool := decide (97 ≤ (c.toNat : Int) ∧ (c.toNat : Int) ≤ 122)
def digit (c : UInt8) : Bool := decide (48 ≤ (c.toNat : Int) ∧ (c.toNat : Int) ≤ 57)
/-- Is the sign at place i right in a name? -/
def okAt (s : ByteArray) (i : Nat) : Bool := if h : i < s.size then letter s[i] || (digit s[i] && decide (0 < i)) else true
def okTo (s : ByteArray) (n : Nat) : Bool := (List.range n).all (okAt s)
def isName (s : ByteArray) : Bool := okTo s s.size && decide (1 ≤ s.size ∧ s.size ≤ 8)
theorem okTo_succ (s : ByteArray) (n : Nat) : okTo s (n + 1) = (okTo s n && okAt s n) := by simp [okTo, List.range_succ, List.all_append]
theorem okTo_false {s : ByteArray} {n m : Nat} (h : n < m) (ho : okAt s n = false) : okTo s m = false := by
  unfold okTo
  rw [List.all_eq_false]
  exact ⟨n, by simpa using h, by simp [ho]⟩
set_option maxHeartbeats 2000000 in
theorem name_any (s : ByteArray) (w : World) (hs : s.size ≤ maxLen) :
    Calls Tryd.prog 25 #[.string s] w fun e w' => e = .returned (.bool (isName s)) ∧ ∃ n, w' = w.drewN n := by
  unfold maxLen at hs
  go_enter Tryd.func25, Tryd.ntmps25
  go_wp2_with fail
  go_loopw [8] (fun v wr => ∃ i : Nat, i ≤ s.size ∧ v = .int .i64 i ∧ okTo s i = true ∧ ∃ n, wr = w.drewN n) (fun v _ => s.size - (intOf v).toNat)
  case atStart => exact ⟨0, Nat.zero_le _, rfl, rfl, 0, rfl⟩
  case round =>
    obtain ⟨i, hi, rfl, hok, m, rfl⟩ := hrel
    have HOK := hide hok
    clear hok
    by_cases hlt : i < s.size
    · have i1 : (i : Int) < (s.size : Int) := by omega
      have i0 : (0 : Int) ≤ (i : Int) := by omega
      have hat : okAt s i = (letter s[i] || (digit s[i] && decide (0 < i))) := by unfold okAt; rw [dif_pos hlt]
      have HAT := hide hat
      clear hat
      have hc : (s[i].toNat : Int) < 48 ∨ (48 ≤ (s[i].toNat : Int) ∧ (s[i].toNat : Int) ≤ 57) ∨ (57 < (s[i].toNat : Int) ∧ (s[i].toNat : Int) < 97) ∨ (97 ≤ (s[i].toNat : Int) ∧ (s[i].toNat : Int) ≤ 122) ∨ 122 < (s[i].toNat : Int) := by omega
      rcases hc with hc | ⟨hc, hc'⟩ | ⟨hc, hc'⟩ | ⟨hc, hc'⟩ | hc
      · have hf : okAt s i = false := by rw [HAT.out]; simp [letter, digit]; omega
        have d1 : decide (97 ≤ (s[i].toNat : Int)) = false := by simp; omega
        have d3 : decide (48 ≤ (s[i].toNat : Int)) = false := by simp; omega
        go_wp2_with fail
        go_quiet (fail)
        go_wp2_with fail
        go_ret
        have e : isName s = false := by unfold isName; rw [okTo_false hlt hf]; rfl
        rw [e]
        exact ⟨rfl, _, rfl⟩
      · by_cases hi0 : i = 0
        · have hi1 : ((i : Int) == 0) = true := by simp [hi0]
          have HI0 := hide hi0
          have hf : okAt s i = false := by rw [HAT.out]; simp [letter, digit]; omega
          clear hi0
          have d1 : decide (97 ≤ (s[i].toNat : Int)) = false := by simp; omega
          have d3 : decide (48 ≤ (s[i].toNat : Int)) = true := by simp; omega
          have d4 : decide ((s[i].toNat : Int) ≤ 57) = true := by simp; omega
          go_wp2_with fail
          go_quiet (fail)
          go_wp2_with fail
          go_ret
          have e : isName s = false := by unfold isName; rw [okTo_false hlt hf]; rfl
          rw [e]
          exact ⟨rfl, _, rfl⟩
        · have hi1 : ¬ ((i : Int) = 0) := by omega
          have hf : okAt s i = true := by rw [HAT.out]; simp [letter, digit]; omega
          have d1 : decide (97 ≤ (s[i].toNat : Int)) = false := by simp; omega
          have d3 : decide (48 ≤ (s[i].toNat : Int)) = true := by simp; omega
          have d4 : decide ((s[i].toNat : Int) ≤ 57) = true := by simp; omega
          go_wp2_with fail
          go_quiet (fail)
          go_wp2_with fail
          go_roundw
          case rel => exact ⟨i + 1, by omega, by go_num, by rw [okTo_succ, HOK.out, hf]; rfl, _, rfl⟩
          case measure => simp [intOf]; omega
      · have hf : okAt s i = false := by rw [HAT.out]; simp [letter, digit]; omega
        have d1 : decide (97 ≤ (s[i].toNat : Int)) = false := by simp; omega
        have d3 : decide (48 ≤ (s[i].toNat : Int)) = true := by simp; omega
        have d4 : decide ((s[i].toNat : Int) ≤ 57) = false := by simp; omega
        go_wp2_with fail
        go_quiet (fail)
        go_wp2_with fail
        go_ret
        have e : isName s = false := by unfold isName; rw [okTo_false hlt hf]; rfl
        rw [e]
        exact ⟨rfl, _, rfl⟩
      · have hf : okAt s i = true := by rw [HAT.out]; simp [letter, digit]; omega
        have d1 : decide (97 ≤ (s[i].toNat : Int)) = true := by simp; omega
        have d2 : decide ((s[i].toNat : Int) ≤ 122) = true := by simp; omega
        have d3 : decide (48 ≤ (s[i].toNat : Int)) = true := by simp; omega
        have d4 : decide ((s[i].toNat : Int) ≤ 57) = false := by simp; omega
        go_wp2_with fail
        go_quiet (fail)
        go_wp2_with fail
        go_roundw
        case rel => exact ⟨i + 1, by omega, by go_num, by rw [okTo_succ, HOK.out, hf]; rfl, _, rfl⟩
        case measure => simp [intOf]; omega
      · have hf : okAt s i = false := by rw [HAT.out]; simp [letter, digit]; omega
        have d1 : decide (97 ≤ (s[i].toNat : Int)) = true := by simp; omega
        have d2 : decide ((s[i].toNat : Int) ≤ 122) = false := by simp; omega
        have d3 : decide (48 ≤ (s[i].toNat : Int)) = true := by simp; omega
        have d4 : decide ((s[i].toNat : Int) ≤ 57) = false := by simp; omega
        go_wp2_with fail
        go_quiet (fail)
        go_wp2_with fail
        go_ret
        have e : isName s = false := by unfold isName; rw [okTo_false hlt hf]; rfl
        rw [e]
        exact ⟨rfl, _, rfl⟩
    · have hil : i = s.size := by omega
      subst hil
      have hn : isName s = decide (1 ≤ s.size ∧ s.size ≤ 8) := by unfold isName; rw [HOK.out]; rfl
      have HN := hide hn
      clear hn
      by_cases h1 : 1 ≤ s.size
      · by_cases h8 : s.size ≤ 8
        · have k1 : (1 : Int) ≤ s.size := by omega
          have k8 : (s.size : Int) ≤ 8 := by omega
          go_wp2_with fail
          go_ret
          exact ⟨by rw [HN.out, decide_eq_true ⟨h1, h8⟩]; simp, m, rfl⟩
        · have k1 : (1 : Int) ≤ s.size := by omega
          have k8 : ¬ (s.size : Int) ≤ 8 := by omega
          go_wp2_with fail
          go_ret
          exact ⟨by rw [HN.out, decide_eq_false (by omega)]; simp, m, rfl⟩
      · have k1 : ¬ (1 : Int) ≤ s.size := by omega
        go_wp2_with fail
        go_ret
        exact ⟨by rw [HN.out, decide_eq_false (by omega)]; simp, m, rfl⟩
end Go.Proofs.YtdcdegeeaakekacDoor

/- The check of programs, as plain functions. No walk in it. -/
namespace Go.Proofs.YtdcdegeeaakekacDoor

namespace Pu
def unlikeFrom : List ByteArray → List ByteArray → Bool
  | _, [] => true
  | ahead, x :: r => !(has ahead x) && isName x && unlikeFrom (ahead ++ [x]) r
/-- All are names, and no two the same. -/
def unlike (l : List ByteArray) : Bool := unlikeFrom [] l
def isTag (n : Int) : Bool := decide (0 ≤ n ∧ n ≤ 9)
def fits {α : Type} (t : Node α) : Bool :=
  if t.kind = 7 then decide (t.args.length = 1)
  else if t.kind = 1 ∨ t.kind = 2 then decide (t.args.length = 0 ∧ t.cases.length = 0)
  else if t.kind = 5 ∨ t.kind = 6 then decide (t.args.length = 2 ∧ t.cases.length = 0)
  else decide (t.args.length ≤ 6 ∧ t.cases.length = 0)
def orErr (b : Bool) (e : Int) : Int := if b = true then 0 else e
def alone {α : Type} (fns : ByteArray → Option Int) (c : Cnt) (t : Node α) : Int :=
  if t.kind = 1 then orErr (decide (0 < c t.name)) 6
  else if t.kind = 2 then orErr (decide (-2147483648 ≤ t.n ∧ t.n ≤ 2147483647)) 3
  else if t.kind = 3 then orErr (isTag t.n) 3
  else if t.kind = 5 then orErr (decide (1 ≤ t.n ∧ t.n ≤ 5)) 1
  else if t.kind = 6 then orErr (isName t.name) 7
  else if t.kind = 4 then
    match fns t.name with
    | none => 6
    | some n => orErr (decide (n = (t.args.length : Int))) 5
  else 0
def argNames (l6 : Bool) (name : ByteArray) (i : Nat) : List ByteArray := if l6 = true ∧ i = 1 then [name] else []
def chkArgs {α : Type} (F : Cnt → α → Nat → Int) (c : Cnt) (l6 : Bool) (name : ByteArray) (d : Nat) : Nat → List α → Int
  | _, [] => 0
  | i, a :: r => if F (with' c (argNames l6 name i)) a d = 0 then chkArgs F c l6 name d (i + 1) r else F (with' c (argNames l6 name i)) a d
def taken {α : Type} (l : List (Int × List ByteArray × α)) (n : Int) : Bool := l.any (fun k => decide (k.1 = n))
def caseOwn {α : Type} (ahead : List (Int × List ByteArray × α)) (k : Int × List ByteArray × α) : Int :=
  if isTag k.1 = false then 3 else if taken ahead k.1 = true ∨ unlike k.2.1 = false then 7 else if 6 < k.2.1.length then 5 else 0
def chkCases {α : Type} (F : Cnt → α → Nat → Int) (c : Cnt) (d : Nat) : List (Int × List ByteArray × α) → List (Int × List ByteArray × α) → Int
  | _, [] => 0
  | ahead, k :: r => if caseOwn ahead k = 0 then (if F (with' c k.2.1) k.2.2 d = 0 then chkCases F c d (ahead ++ [k]) r else F (with' c k.2.1) k.2.2 d) else caseOwn ahead k
def cases' {α : Type} (F : Cnt → α → Nat → Int) (c : Cnt) (d : Nat) (l : List (Int × List ByteArray × α)) : Int :=
  if l.length < 1 ∨ 5 < l.length then 5 else chkCases F c d [] l
def own {α : Type} (fns : ByteArray → Option Int) (c : Cnt) (t : Node α) (d : Nat) : Int :=
  if 24 < d then 9 else if t.kind < 1 ∨ 7 < t.kind then 1 else if fits t = false then 5 else alone fns c t
def termN {α : Type} (fns : ByteArray → Option Int) (F : Cnt → α → Nat → Int) (c : Cnt) (t : Node α) (d : Nat) : Int :=
  if own fns c t d = 0 then
    (if chkArgs F c (decide (t.kind = 6)) t.name (d + 1) 0 t.args = 0 then (if t.kind = 7 then cases' F c (d + 1) t.cases else 0)
    else chkArgs F c (decide (t.kind = 6)) t.name (d + 1) 0 t.args)
  else own fns c t d
/-- What is wrong with a term. -/
def term (fns : ByteArray → Option Int) : (k : Nat) → Cnt → TT k → Nat → Int
  | 0, _, _, _ => 0
  | k + 1, c, t, d => termN fns (term fns k) c t d
abbrev Fn (k : Nat) := ByteArray × List ByteArray × TT k
def head {k : Nat} (fns : ByteArray → Option Int) (f : Fn k) : Int :=
  if (fns f.1).isSome = true ∨ isName f.1 = false ∨ unlike f.2.1 = false then 7 else if 6 < f.2.1.length then 5 else if 400 < size k f.2.2 then 4 else 0
def note {k : Nat} (fns : ByteArray → Option Int) (f : Fn k) : ByteArray → Option Int := fun y => if y = f.1 then some (f.2.1.length : Int) else fns y
def heads {k : Nat} : (ByteArray → Option Int) → List (Fn k) → Int
  | _, [] => 0
  | fns, f :: r => if head fns f = 0 then heads (note fns f) r else head fns f
def notes {k : Nat} : (ByteArray → Option Int) → List (Fn k) → (ByteArray → Option Int)
  | fns, [] => fns
  | fns, f :: r => notes (note fns f) r
def bodies {k : Nat} (fns : ByteArray → Option Int) : List (Fn k) → Int
  | [] => 0
  | f :: r => if term fns k (with' (fun _ => 0) f.2.1) f.2.2 0 = 0 then bodies fns r else term fns k (with' (fun _ => 0) f.2.1) f.2.2 0
/-- What is wrong with a program. -/
def check {k : Nat} (l : List (Fn k)) : Int :=
  if l.length < 1 ∨ 6 < l.length then 5
  else if heads (fun _ => none) l = 0 then bodies (notes (fun _ => none) l) l else heads (fun _ => none) l
end Pu
end Go.Proofs.YtdcdegeeaakekacDoor
