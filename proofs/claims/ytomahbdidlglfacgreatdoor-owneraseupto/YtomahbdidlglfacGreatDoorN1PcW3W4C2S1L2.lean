/- 'xcref1.Name', and the guarded asking for it. -/
import Derived.Defers
import Derived.Recover
import Derived.Test.YtomahbdidlglfacGreatDoorPuRelW1W2
namespace Go.Proofs.YtomahbdidlglfacGreatDoor
open Go.RowKit Go.Maps Go.WideMaps
def letter (c : UInt8) : Bool := decide (97 ≤ (c.toNat : Int) ∧ (c.toNat : Int) ≤ 122)
def digit (c : UInt8) : Bool := decide (48 ≤ (c.toNat : Int) ∧ (c.toNat : Int) ≤ 57)
/-- Is the sign at place i right in a name? -/
def okAt (s : ByteArray) (i : Nat) : Bool := if h : i < s.size then letter s[i] || (digit s[i] && decide (0 < i)) else true
def okTo (s : ByteArray) (n : Nat) : Bool := (List.range n).all (okAt s)
def isName (s : ByteArray) : Bool := okTo s s.size && decide (1 ≤ s.size ∧ s.size ≤ 8)
theorem okTo_succ (s : ByteArray) (n : Nat) : okTo s (n + 1) = (okTo s n && okAt s n) := by simp [okTo, List.range_succ, List.all_append]
theorem okTo_false {s : ByteArray} {n m : Nat} (h : n < m) (ho : okAt s n = false) : okTo s m = false := by
  unfold okTo
  rw [List.all_eq_false]
  exact ⟨n, by simpa using h, by simp [ho]⟩
set_option maxHeartbeats 2000000 in
theorem name_any (s : ByteArray) (w : World) (hs : s.size ≤ maxLen) :
    Calls Tryz.prog 22 #[.string s] w fun e w' => e = .returned (.bool (isName s)) ∧ ∃ n, w' = w.drewN n := by
  unfold maxLen at hs
  go_enter Tryz.func22, Tryz.ntmps22
  go_wp2_with fail
  go_loopw [8] (fun v wr => ∃ i : Nat, i ≤ s.size ∧ v = .int .i64 i ∧ okTo s i = true ∧ ∃ n, wr = w.drewN n) (fun v _ => s.size - (intOf v).toNat)
  case atStart => exact ⟨0, Nat.zero_le _, rfl, rfl, 0, rfl⟩
  case round =>
    obtain ⟨i, hi, rfl, hok, m, rfl⟩ := hrel
    have HOK := hide hok
    clear hok
    by_cases hlt : i < s.size
    · have i1 : (i : Int) < (s.size : Int) := by omega
      have i0 : (0 : Int) ≤ (i : Int) := by omega
      have hat : okAt s i = (letter s[i] || (digit s[i] && decide (0 < i))) := by unfold okAt; rw [dif_pos hlt]
      have HAT := hide hat
      clear hat
      have hc : (s[i].toNat : Int) < 48 ∨ (48 ≤ (s[i].toNat : Int) ∧ (s[i].toNat : Int) ≤ 57) ∨ (57 < (s[i].toNat : Int) ∧ (s[i].toNat : Int) < 97) ∨ (97 ≤ (s[i].toNat : Int) ∧ (s[i].toNat : Int) ≤ 122) ∨ 122 < (s[i].toNat : Int) := by omega
      rcases hc with hc | ⟨hc, hc'⟩ | ⟨hc, hc'⟩ | ⟨hc, hc'⟩ | hc
      · have hf : okAt s i = false := by rw [HAT.out]; simp [letter, digit]; omega
        have d1 : decide (97 ≤ (s[i].toNat : Int)) = false := by simp; omega
        have d3 : decide (48 ≤ (s[i].toNat : Int)) = false := by simp; omega
        go_wp2_with fail
        go_quiet (fail)
        go_wp2_with fail
        go_ret
        have e : isName s = false := by unfold isName; rw [okTo_false hlt hf]; rfl
        rw [e]
        exact ⟨rfl, _, rfl⟩
      · by_cases hi0 : i = 0
        · have hi1 : ((i : Int) == 0) = true := by simp [hi0]
          have HI0 := hide hi0
          have hf : okAt s i = false := by rw [HAT.out]; simp [letter, digit]; omega
          clear hi0
          have d1 : decide (97 ≤ (s[i].toNat : Int)) = false := by simp; omega
          have d3 : decide (48 ≤ (s[i].toNat : Int)) = true := by simp; omega
          have d4 : decide ((s[i].toNat : Int) ≤ 57) = true := by simp; omega
          go_wp2_with fail
          go_quiet (fail)
          go_wp2_with fail
          go_ret
          have e : isName s = false := by unfold isName; rw [okTo_false hlt hf]; rfl
          rw [e]
          exact ⟨rfl, _, rfl⟩
        · have hi1 : ¬ ((i : Int) = 0) := by omega
          have hf : okAt s i = true := by rw [HAT.out]; simp [letter, digit]; omega
          have d1 : decide (97 ≤ (s[i].toNat : Int)) = false := by simp; omega
          have d3 : decide (48 ≤ (s[i].toNat : Int)) = true := by simp; omega
          have d4 : decide ((s[i].toNat : Int) ≤ 57) = true := by simp; omega
          go_wp2_with fail
          go_quiet (fail)
          go_wp2_with fail
          go_roundw
          case rel => exact ⟨i + 1, by omega, by go_num, by rw [okTo_succ, HOK.out, hf]; rfl, _, rfl⟩
          case measure => simp [intOf]; omega
      · have hf : okAt s i = false := by rw [HAT.out]; simp [letter, digit]; omega
        have d1 : decide (97 ≤ (s[i].toNat : Int)) = false := by simp; omega
        have d3 : decide (48 ≤ (s[i].toNat : Int)) = true := by simp; omega
        have d4 : decide ((s[i].toNat : Int) ≤ 57) = false := by simp; omega
        go_wp2_with fail
        go_quiet (fail)
        go_wp2_with fail
        go_ret
        have e : isName s = false := by unfold isName; rw [okTo_false hlt hf]; rfl
        rw [e]
        exact ⟨rfl, _, rfl⟩
      · have hf : okAt s i = true := by rw [HAT.out]; simp [letter, digit]; omega
        have d1 : decide (97 ≤ (s[i].toNat : Int)) = true := by simp; omega
        have d2 : decide ((s[i].toNat : Int) ≤ 122) = true := by simp; omega
        have d3 : decide (48 ≤ (s[i].toNat : Int)) = true := by simp; omega
        have d4 : decide ((s[i].toNat : Int) ≤ 57) = false := by simp; omega
        go_wp2_with fail
        go_quiet (fail)
        go_wp2_with fail
        go_roundw
        case rel => exact ⟨i + 1, by omega, by go_num, by rw [okTo_succ, HOK.out, hf]; rfl, _, rfl⟩
        case measure => simp [intOf]; omega
      · have hf : okAt s i = false := by rw [HAT.out]; simp [letter, digit]; omega
        have d1 : decide (97 ≤ (s[i].toNat : Int)) = true := by simp; omega
        have d2 : decide ((s[i].toNat : Int) ≤ 122) = false := by simp; omega
        have d3 : decide (48 ≤ (s[i].toNat : Int)) = true := by simp; omega
        have d4 : decide ((s[i].toNat : Int) ≤ 57) = false := by simp; omega
        go_wp2_with fail
        go_quiet (fail)
        go_wp2_with fail
        go_ret
        have e : isName s = false := by unfold isName; rw [okTo_false hlt hf]; rfl
        rw [e]
        exact ⟨rfl, _, rfl⟩
    · have hil : i = s.size := by omega
      subst hil
      have hn : isName s = decide (1 ≤ s.size ∧ s.size ≤ 8) := by unfold isName; rw [HOK.out]; rfl
      have HN := hide hn
      clear hn
      by_cases h1 : 1 ≤ s.size
      · by_cases h8 : s.size ≤ 8
        · have k1 : (1 : Int) ≤ s.size := by omega
          have k8 : (s.size : Int) ≤ 8 := by omega
          go_wp2_with fail
          go_ret
          exact ⟨by rw [HN.out, decide_eq_true ⟨h1, h8⟩]; simp, m, rfl⟩
        · have k1 : (1 : Int) ≤ s.size := by omega
          have k8 : ¬ (s.size : Int) ≤ 8 := by omega
          go_wp2_with fail
          go_ret
          exact ⟨by rw [HN.out, decide_eq_false (by omega)]; simp, m, rfl⟩
      · have k1 : ¬ (1 : Int) ≤ s.size := by omega
        go_wp2_with fail
        go_ret
        exact ⟨by rw [HN.out, decide_eq_false (by omega)]; simp, m, rfl⟩
end Go.Proofs.YtomahbdidlglfacGreatDoor

/- The check of programs, as plain functions. No walk in it. -/
namespace Go.Proofs.YtomahbdidlglfacGreatDoor

namespace Pu
def unlikeFrom : List ByteArray → List ByteArray → Bool
  | _, [] => true
  | ahead, x :: r => !(has ahead x) && isName x && unlikeFrom (ahead ++ [x]) r
/-- All are names, and no two the same. -/
def unlike (l : List ByteArray) : Bool := unlikeFrom [] l
def isTag (n : Int) : Bool := decide (0 ≤ n ∧ n ≤ 9)
def fits {α : Type} (t : Node α) : Bool :=
  if t.kind = 7 then decide (t.args.length = 1)
  else if t.kind = 1 ∨ t.kind = 2 then decide (t.args.length = 0 ∧ t.cases.length = 0)
  else if t.kind = 5 ∨ t.kind = 6 then decide (t.args.length = 2 ∧ t.cases.length = 0)
  else decide (t.args.length ≤ 6 ∧ t.cases.length = 0)
def orErr (b : Bool) (e : Int) : Int := if b = true then 0 else e
def alone {α : Type} (fns : ByteArray → Option Int) (c : Cnt) (t : Node α) : Int :=
  if t.kind = 1 then orErr (decide (0 < c t.name)) 6
  else if t.kind = 2 then orErr (decide (-2147483648 ≤ t.n ∧ t.n ≤ 2147483647)) 3
  else if t.kind = 3 then orErr (isTag t.n) 3
  else if t.kind = 5 then orErr (decide (1 ≤ t.n ∧ t.n ≤ 5)) 1
  else if t.kind = 6 then orErr (isName t.name) 7
  else if t.kind = 4 then
    match fns t.name with
    | none => 6
    | some n => orErr (decide (n = (t.args.length : Int))) 5
  else 0
def argNames (l6 : Bool) (name : ByteArray) (i : Nat) : List ByteArray := if l6 = true ∧ i = 1 then [name] else []
def chkArgs {α : Type} (F : Cnt → α → Nat → Int) (c : Cnt) (l6 : Bool) (name : ByteArray) (d : Nat) : Nat → List α → Int
  | _, [] => 0
  | i, a :: r => if F (with' c (argNames l6 name i)) a d = 0 then chkArgs F c l6 name d (i + 1) r else F (with' c (argNames l6 name i)) a d
def taken {α : Type} (l : List (Int × List ByteArray × α)) (n : Int) : Bool := l.any (fun k => decide (k.1 = n))
def caseOwn {α : Type} (ahead : List (Int × List ByteArray × α)) (k : Int × List ByteArray × α) : Int :=
  if isTag k.1 = false then 3 else if taken ahead k.1 = true ∨ unlike k.2.1 = false then 7 else if 6 < k.2.1.length then 5 else 0
def chkCases {α : Type} (F : Cnt → α → Nat → Int) (c : Cnt) (d : Nat) : List (Int × List ByteArray × α) → List (Int × List ByteArray × α) → Int
  | _, [] => 0
  | ahead, k :: r => if caseOwn ahead k = 0 then (if F (with' c k.2.1) k.2.2 d = 0 then chkCases F c d (ahead ++ [k]) r else F (with' c k.2.1) k.2.2 d) else caseOwn ahead k
def cases' {α : Type} (F : Cnt → α → Nat → Int) (c : Cnt) (d : Nat) (l : List (Int × List ByteArray × α)) : Int :=
  if l.length < 1 ∨ 5 < l.length then 5 else chkCases F c d [] l
def own {α : Type} (fns : ByteArray → Option Int) (c : Cnt) (t : Node α) (d : Nat) : Int :=
  if 24 < d then 9 else if t.kind < 1 ∨ 7 < t.kind then 1 else if fits t = false then 5 else alone fns c t
def termN {α : Type} (fns : ByteArray → Option Int) (F : Cnt → α → Nat → Int) (c : Cnt) (t : Node α) (d : Nat) : Int :=
  if own fns c t d = 0 then
    (if chkArgs F c (decide (t.kind = 6)) t.name (d + 1) 0 t.args = 0 then (if t.kind = 7 then cases' F c (d + 1) t.cases else 0)
    else chkArgs F c (decide (t.kind = 6)) t.name (d + 1) 0 t.args)
  else own fns c t d
/-- What is wrong with a term. -/
def term (fns : ByteArray → Option Int) : (k : Nat) → Cnt → TT k → Nat → Int
  | 0, _, _, _ => 0
  | k + 1, c, t, d => termN fns (term fns k) c t d
abbrev Fn (k : Nat) := ByteArray × List ByteArray × TT k
def head {k : Nat} (fns : ByteArray → Option Int) (f : Fn k) : Int :=
  if (fns f.1).isSome = true ∨ isName f.1 = false ∨ unlike f.2.1 = false then 7 else if 6 < f.2.1.length then 5 else if 400 < size k f.2.2 then 4 else 0
def note {k : Nat} (fns : ByteArray → Option Int) (f : Fn k) : ByteArray → Option Int := fun y => if y = f.1 then some (f.2.1.length : Int) else fns y
def heads {k : Nat} : (ByteArray → Option Int) → List (Fn k) → Int
  | _, [] => 0
  | fns, f :: r => if head fns f = 0 then heads (note fns f) r else head fns f
def notes {k : Nat} : (ByteArray → Option Int) → List (Fn k) → (ByteArray → Option Int)
  | fns, [] => fns
  | fns, f :: r => notes (note fns f) r
def bodies {k : Nat} (fns : ByteArray → Option Int) : List (Fn k) → Int
  | [] => 0
  | f :: r => if term fns k (with' (fun _ => 0) f.2.1) f.2.2 0 = 0 then bodies fns r else term fns k (with' (fun _ => 0) f.2.1) f.2.2 0
/-- What is wrong with a program. -/
def check {k : Nat} (l : List (Fn k)) : Int :=
  if l.length < 1 ∨ 6 < l.length then 5
  else if heads (fun _ => none) l = 0 then bodies (notes (fun _ => none) l) l else heads (fun _ => none) l
end Pu
end Go.Proofs.YtomahbdidlglfacGreatDoor

/- 'needs': what a term asks for. -/
namespace Go.Proofs.YtomahbdidlglfacGreatDoor
open Go.RowKit Go.Maps Go.WideMaps
def sumW {α : Type} (f : α → Nat) (l : List α) (i : Nat) : Nat := ((l.take i).map f).sum
theorem sumW_succ {α : Type} (f : α → Nat) (l : List α) (i : Nat) (h : i < l.length) : sumW f l (i + 1) = sumW f l i + f l[i] := by
  unfold sumW
  rw [List.take_succ_eq_append_getElem h, List.map_append, List.sum_append]
  simp
theorem sumW_all {α : Type} (f : α → Nat) (l : List α) : sumW f l l.length = (l.map f).sum := by unfold sumW; rw [List.take_length]
theorem sumW_le {α : Type} (f : α → Nat) : ∀ (l : List α) (i : Nat), sumW f l i ≤ (l.map f).sum
  | [], i => by simp [sumW]
  | a :: l, 0 => by simp [sumW]
  | a :: l, i + 1 => by
    have := sumW_le f l i
    simp only [sumW, List.take_succ_cons, List.map_cons, List.sum_cons] at this ⊢
    omega
theorem needsArgs_append {α : Type} (F : Pu.Cnt → α → List ByteArray → List ByteArray) (c : Pu.Cnt) (r : List α) : ∀ (l : List α) (acc : List ByteArray), Pu.needsArgs F c (l ++ r) acc = Pu.needsArgs F c r (Pu.needsArgs F c l acc)
  | [], _ => rfl
  | a :: l, acc => by simp only [List.cons_append, Pu.needsArgs]; exact needsArgs_append F c r l _
theorem needsArgs_succ {α : Type} (F : Pu.Cnt → α → List ByteArray → List ByteArray) (c : Pu.Cnt) (l : List α) (i : Nat) (h : i < l.length) (acc : List ByteArray) :
    Pu.needsArgs F c (l.take (i + 1)) acc = F c l[i] (Pu.needsArgs F c (l.take i) acc) := by
  rw [List.take_succ_eq_append_getElem h, needsArgs_append]; rfl
theorem needsCases_append {α : Type} (F : Pu.Cnt → α → List ByteArray → List ByteArray) (c : Pu.Cnt) (r : List (Int × List ByteArray × α)) : ∀ (l : List (Int × List ByteArray × α)) (acc : List ByteArray), Pu.needsCases F c (l ++ r) acc = Pu.needsCases F c r (Pu.needsCases F c l acc)
  | [], _ => rfl
  | a :: l, acc => by simp only [List.cons_append, Pu.needsCases]; exact needsCases_append F c r l _
theorem needsCases_succ {α : Type} (F : Pu.Cnt → α → List ByteArray → List ByteArray) (c : Pu.Cnt) (l : List (Int × List ByteArray × α)) (i : Nat) (h : i < l.length) (acc : List ByteArray) :
    Pu.needsCases F c (l.take (i + 1)) acc = F (Pu.with' c l[i].2.1) l[i].2.2 (Pu.needsCases F c (l.take i) acc) := by
  rw [List.take_succ_eq_append_getElem h, needsCases_append]; rfl
theorem asks_any (k : Int) (w : World) : Calls Tryz.prog 137 #[.int .i64 k] w fun e w' => e = .returned (.bool (Pu.asks k)) ∧ w' = w := by
  by_cases h1 : k = 1
  · subst h1
    go_enter Tryz.func137, Tryz.ntmps137
    go_wp2_with fail
    go_ret
    exact ⟨rfl, rfl⟩
  by_cases h2 : k = 8
  · subst h2
    go_enter Tryz.func137, Tryz.ntmps137
    go_wp2_with fail
    go_ret
    exact ⟨rfl, rfl⟩
  by_cases h3 : k = 9
  · subst h3
    go_enter Tryz.func137, Tryz.ntmps137
    go_wp2_with fail
    go_ret
    exact ⟨rfl, rfl⟩
  by_cases h4 : k = 10
  · subst h4
    go_enter Tryz.func137, Tryz.ntmps137
    go_wp2_with fail
    go_ret
    exact ⟨rfl, rfl⟩
  by_cases h5 : k = 11
  · subst h5
    go_enter Tryz.func137, Tryz.ntmps137
    go_wp2_with fail
    go_ret
    exact ⟨rfl, rfl⟩
  have e : Pu.asks k = false := by simp [Pu.asks, h1, h2, h3, h4, h5]
  rw [e]
  go_enter Tryz.func137, Tryz.ntmps137
  go_wp2_with fail
  go_ret
  exact ⟨rfl, rfl⟩
/-- The closure that is called for each name. -/
abbrev Clo (ab tb Nm : Nat) : Value := .func (.func 124) #[] #[.pointer (some ⟨ab, 0, none⟩), .pointer (some ⟨tb, 0, none⟩), .pointer (some ⟨Nm, 0, none⟩)]
/-- What has turned since. -/
def Moved (A Td Nm : Nat) (w w' : World) (v v' : Value) : Prop := Fr (TS A Td Nm v) w w' ∧ (v'.ownBlock = v.ownBlock ∨ ∃ g, v'.ownBlock = some g ∧ w.heap.size ≤ g)
theorem Moved.refl {A Td Nm : Nat} {w : World} {v : Value} : Moved A Td Nm w w v v := ⟨Fr.refl _ _, .inl rfl⟩
theorem Moved.trans {A Td Nm : Nat} {w w' w'' : World} {v v' v'' : Value} (h : Moved A Td Nm w w' v v') (k : Moved A Td Nm w' w'' v' v'') : Moved A Td Nm w w'' v v'' := by
  have hs := h.1.size
  refine ⟨h.1.trans' k.1 ?_, ?_⟩
  · intro i hi e
    rcases e with e | e | e | e
    · exact .inl e
    · exact .inr (.inl e)
    · exact .inr (.inr (.inl e))
    · rcases h.2 with h2 | ⟨g, h2, h3⟩
      · exact .inr (.inr (.inr (by rw [← h2]; exact e)))
      · rw [h2] at e; cases e; omega
  · rcases k.2 with k2 | ⟨g, k2, k3⟩
    · rcases h.2 with h2 | ⟨g, h2, h3⟩
      · exact .inl (k2.trans h2)
      · exact .inr ⟨g, k2.trans h2, h3⟩
    · exact .inr ⟨g, k2, by omega⟩
theorem Moved.no {A Td Nm : Nat} {w w' w'' : World} {v v' : Value} (h : Moved A Td Nm w w' v v') (k : Fr No w' w'') : Moved A Td Nm w w'' v v' := ⟨h.1.no k, h.2⟩
theorem Moved.alloc {A Td Nm : Nat} {w w' : World} {v v' : Value} (h : Moved A Td Nm w w' v v') (o : Obj) : Moved A Td Nm w (w'.alloc o) v v' := ⟨h.1.alloc o, h.2⟩
theorem FS.not_ts {B A Td Nm ab tb K : Nat} {w : World} {c : Pu.Cnt} {acc : List ByteArray} {v : Value} (h : FS B A Td Nm ab tb K w c acc v) {R : Nat} {cur : Array Value} {t : TypeId} {z : Nat × Nat} (hR : w.heap[R]? = some (.cells cur t z)) (h1 : t ≠ 9) (h2 : t ≠ 28) : ¬ TS A Td Nm v R := by
  rintro (e | e | e | e)
  · exact h.cnt.ne_cells hR e
  · exact h.told.ne_cells hR e
  · subst e; rw [h.box] at hR; injection hR with hR; injection hR with _ hR _; exact h2 hR.symm
  · exact row_ne_cells h.row hR h1 e
theorem FS.keep {B A Td Nm ab tb K : Nat} {w w' : World} {c : Pu.Cnt} {acc : List ByteArray} {v v' : Value} (h : FS B A Td Nm ab tb K w c acc v) {R : Nat} {cur : Array Value} {t : TypeId} {z : Nat × Nat} (hm : Moved A Td Nm w w' v v') (hR : w.heap[R]? = some (.cells cur t z)) (h1 : t ≠ 9) (h2 : t ≠ 28) :
    w'.heap[R]? = some (.cells cur t z) := fr_heap hR hm.1 (h.not_ts hR h1 h2)
theorem FS.old {B A Td Nm ab tb K : Nat} {w w' : World} {c : Pu.Cnt} {acc : List ByteArray} {v v' : Value} (h : FS B A Td Nm ab tb K w c acc v) (hm : Moved A Td Nm w w' v v') (hB : B ≤ w.heap.size) : Old B w w' := by
  refine hm.1.old hB ?_
  rintro i hi (e | e | e | e)
  · have := h.hA; omega
  · have := h.hT; omega
  · have := h.hN; omega
  · have := (h.row.lt i e).1; omega
theorem FS.no {B A Td Nm ab tb K : Nat} {w w' : World} {c : Pu.Cnt} {acc : List ByteArray} {v : Value} (h : FS B A Td Nm ab tb K w c acc v) (hf : Fr No w w') : FS B A Td Nm ab tb K w' c acc v :=
  ⟨h.cnt.fr hf (fun e => e), h.told.fr hf (fun e => e), fr_heap h.box hf (fun e => e), row_fr h.row hf (fun _ _ e => e), h.hA, h.hT, h.hN, h.ne, fr_heap h.bA hf (fun e => e), fr_heap h.bT hf (fun e => e), h.sh⟩
theorem FS.mono {B A Td Nm ab tb K K' : Nat} {w : World} {c : Pu.Cnt} {acc : List ByteArray} {v : Value} (h : FS B A Td Nm ab tb K w c acc v) (hK : K ≤ K') : FS B A Td Nm ab tb K' w c acc v :=
  ⟨h.cnt.mono hK, h.told.mono hK, h.box, h.row, h.hA, h.hT, h.hN, h.ne, h.bA, h.bT, h.sh⟩
/-- What 'needs' does at terms of k levels. -/
def NeedsC (k : Nat) : Prop := ∀ (B A Td Nm ab tb K : Nat) (w : World) (c : Pu.Cnt) (acc : List ByteArray) (v : Value) (cs : List Value) (t : Pu.TT k), RT k B w cs t → FS B A Td Nm ab tb K w c acc v → B ≤ w.heap.size →
  (∀ x, c x + Pu.wt k t ≤ 1099511627776) → K + 3 * Pu.wt k t ≤ 1099511627776 → acc.length + Pu.wt k t ≤ 1099511627776 →
  Calls Tryz.prog 123 #[.agg cs.toArray, .map (some A), Clo ab tb Nm] w fun e w' => e = .returned (.tuple #[]) ∧ ∃ v', FS B A Td Nm ab tb (K + 3 * Pu.wt k t) w' c (Pu.needs k c t acc) v' ∧ Moved A Td Nm w w' v v'
theorem ask_length (c : Pu.Cnt) (x : ByteArray) (acc : List ByteArray) : (Pu.ask c x acc).length ≤ acc.length + 1 := by
  unfold Pu.ask; split <;> simp
end Go.Proofs.YtomahbdidlglfacGreatDoor

/- 'needs', walked. -/
namespace Go.Proofs.YtomahbdidlglfacGreatDoor
open Go.RowKit Go.Maps Go.WideMaps
theorem args_at {k B : Nat} {w : World} {av : Value} {acs : List Value} {args : List (Pu.TT k)} (hr : Row B w av args.length acs) (he : Each 7 (RT k B w) acs args) (i : Nat) (hi : i < args.length) :
    ∃ g o cap kd n x y a0 n0 c0 a1 n1 c1 a2 n2 c2, av = .slice (some ⟨g, o, none⟩) args.length cap ∧ cap ≤ maxLen ∧ g < B ∧ g < w.heap.size ∧
      RT k B w [.int .i64 kd, .int .i64 n, .string x, .string y, .slice a0 n0 c0, .slice a1 n1 c1, .slice a2 n2 c2] args[i] ∧
      ∀ j, j < 7 → w.cell? ⟨g, o + i * 7 + j, none⟩ = [Value.int .i64 kd, .int .i64 n, .string x, .string y, .slice a0 n0 c0, .slice a1 n1 c1, .slice a2 n2 c2][j]? := by
  obtain ⟨g, o, cap, h1, h2, h3, h4, h5, h6⟩ := hr.at (by omega)
  obtain ⟨ck, hl, hrt, hxs⟩ := he.get i _ (List.getElem?_eq_getElem hi)
  obtain ⟨kd, n, x, y, a0, n0, c0, a1, n1, c1, a2, n2, c2, rfl⟩ := hrt.form
  refine ⟨g, o, cap, kd, n, x, y, a0, n0, c0, a1, n1, c1, a2, n2, c2, h1, h3, h4, h5, hrt, fun j hj => ?_⟩
  have hlen := he.length
  rw [Nat.add_assoc, h6 _ (by rw [hlen]; have := Nat.mul_le_mul_right 7 (show i + 1 ≤ args.length by omega); omega), hxs j hj]
theorem cases_at {k B : Nat} {w : World} {av : Value} {acs : List Value} {l : List (Int × List ByteArray × Pu.TT k)} (hr : Row B w av l.length acs) (he : Each 9 (RC (RT k B w) B w) acs l) (i : Nat) (hi : i < l.length) :
    ∃ g o cap ag av0 ac kd n x y a0 n0 c0 a1 n1 c1 a2 n2 c2, av = .slice (some ⟨g, o, none⟩) l.length cap ∧ cap ≤ maxLen ∧ g < B ∧ g < w.heap.size ∧ Names B w (.slice ag av0 ac) l[i].2.1 ∧ av0 = l[i].2.1.length ∧
      RT k B w [.int .i64 kd, .int .i64 n, .string x, .string y, .slice a0 n0 c0, .slice a1 n1 c1, .slice a2 n2 c2] l[i].2.2 ∧
      ∀ j, j < 9 → w.cell? ⟨g, o + i * 9 + j, none⟩ = [Value.int .i64 l[i].1, .slice ag av0 ac, Value.int .i64 kd, .int .i64 n, .string x, .string y, .slice a0 n0 c0, .slice a1 n1 c1, .slice a2 n2 c2][j]? := by
  obtain ⟨g, o, cap, h1, h2, h3, h4, h5, h6⟩ := hr.at (by omega)
  obtain ⟨ck, hl, ⟨vv, b, rfl, hnm, _, hrt⟩, hxs⟩ := he.get i _ (List.getElem?_eq_getElem hi)
  obtain ⟨kd, n, x, y, a0, n0, c0, a1, n1, c1, a2, n2, c2, rfl⟩ := hrt.form
  obtain ⟨ag, ac, rfl, _⟩ := hnm.1.form
  refine ⟨g, o, cap, ag, _, ac, kd, n, x, y, a0, n0, c0, a1, n1, c1, a2, n2, c2, h1, h3, h4, h5, hnm, rfl, hrt, fun j hj => ?_⟩
  have hlen := he.length
  rw [Nat.add_assoc, h6 _ (by rw [hlen]; have := Nat.mul_le_mul_right 9 (show i + 1 ≤ l.length by omega); omega), hxs j hj]
theorem Row.old {B : Nat} {w w' : World} {v : Value} {n : Nat} {xs : List Value} (h : Row B w v n xs) (ho : Old B w w') (hs : w.heap.size ≤ w'.heap.size) : Row B w' v n xs := h.kept ho (Nat.le_refl _) hs
theorem RT.old {B : Nat} {w w' : World} {k : Nat} {cs : List Value} {t : Pu.TT k} (h : RT k B w cs t) (ho : Old B w w') (hs : w.heap.size ≤ w'.heap.size) : RT k B w' cs t := h.kept ho (Nat.le_refl _) hs
theorem args_old {k B : Nat} {w w' : World} {acs : List Value} {args : List (Pu.TT k)} (he : Each 7 (RT k B w) acs args) (ho : Old B w w') (hs : w.heap.size ≤ w'.heap.size) : Each 7 (RT k B w') acs args := he.mono fun _ _ h => h.old ho hs
theorem cases_old {k B : Nat} {w w' : World} {acs : List Value} {l : List (Int × List ByteArray × Pu.TT k)} (he : Each 9 (RC (RT k B w) B w) acs l) (ho : Old B w w') (hs : w.heap.size ≤ w'.heap.size) : Each 9 (RC (RT k B w') B w') acs l :=
  he.mono fun _ _ h => h.kept ho (Nat.le_refl _) hs (fun _ _ h => RT.old h ho hs)
/-- The three variables of 'needs'. -/
structure Bx (A ab tb Nm s s1 s2 : Nat) (w : World) (cs : Array Value) : Prop where
  t : w.heap[s]? = some (.cells cs 32 (0, 0))
  m : w.heap[s1]? = some (.cells #[.map (some A)] 153 (0, 0))
  f : w.heap[s2]? = some (.cells #[Clo ab tb Nm] 91 (0, 0))
theorem Bx.moved {B A Td Nm ab tb K s s1 s2 : Nat} {w w' : World} {c : Pu.Cnt} {acc : List ByteArray} {v v' : Value} {cs : Array Value} (h : Bx A ab tb Nm s s1 s2 w cs) (hs : FS B A Td Nm ab tb K w c acc v) (hm : Moved A Td Nm w w' v v') : Bx A ab tb Nm s s1 s2 w' cs :=
  ⟨hs.keep hm h.t (by decide) (by decide), hs.keep hm h.m (by decide) (by decide), hs.keep hm h.f (by decide) (by decide)⟩
theorem Bx.no {A ab tb Nm s s1 s2 : Nat} {w w' : World} {cs : Array Value} (h : Bx A ab tb Nm s s1 s2 w cs) (hf : Fr No w w') : Bx A ab tb Nm s s1 s2 w' cs :=
  ⟨fr_heap h.t hf (fun e => e), fr_heap h.m hf (fun e => e), fr_heap h.f hf (fun e => e)⟩
set_option maxHeartbeats 1000000 in
theorem needs1_any (k : Nat) (hN : NeedsC k) (B A Td Nm ab tb K s s1 s2 : Nat) (w : World) (c : Pu.Cnt) (acc : List ByteArray) (v : Value) (c0 c1 c2 c3 c4 c6 av : Value) (acs : List Value) (args : List (Pu.TT k)) (h2' : args.length = 2)
    (hb : Bx A ab tb Nm s s1 s2 w #[c0, c1, c2, c3, c4, av, c6]) (hr : Row B w av args.length acs) (he : Each 7 (RT k B w) acs args) (hs : FS B A Td Nm ab tb K w c acc v) (hB : B ≤ w.heap.size)
    (hc : ∀ x, c x + Pu.wt k (args[1]'(by omega)) ≤ 1099511627776) (hK : K + 3 * Pu.wt k (args[1]'(by omega)) ≤ 1099511627776) (ha : acc.length + Pu.wt k (args[1]'(by omega)) ≤ 1099511627776) :
    Calls Tryz.prog 139 #[.pointer (some ⟨s, 0, none⟩), .pointer (some ⟨s1, 0, none⟩), .pointer (some ⟨s2, 0, none⟩)] w fun e w' => e = .returned (.tuple #[]) ∧ ∃ v', FS B A Td Nm ab tb (K + 3 * Pu.wt k (args[1]'(by omega))) w' c (Pu.needs k c (args[1]'(by omega)) acc) v' ∧ Moved A Td Nm w w' v v' := by
  obtain ⟨g, o, cap, kd, n, x, y, a0, n0, d0, a1, n1, d1, a2, n2, d2, rfl, hcap, hg, hgw, hrt, hcell⟩ := args_at hr he 1 (by omega)
  have e0 : w.cell? ⟨g, o + 7, none⟩ = some (.int .i64 kd) := hcell 0 (by omega)
  have e1 : w.cell? ⟨g, o + 7 + 1, none⟩ = some (.int .i64 n) := hcell 1 (by omega)
  have e2 : w.cell? ⟨g, o + 7 + 2, none⟩ = some (.string x) := hcell 2 (by omega)
  have e3 : w.cell? ⟨g, o + 7 + 3, none⟩ = some (.string y) := hcell 3 (by omega)
  have e4 : w.cell? ⟨g, o + 7 + 4, none⟩ = some (.slice a0 n0 d0) := hcell 4 (by omega)
  have e5 : w.cell? ⟨g, o + 7 + 5, none⟩ = some (.slice a1 n1 d1) := hcell 5 (by omega)
  have e6 : w.cell? ⟨g, o + 7 + 6, none⟩ = some (.slice a2 n2 d2) := hcell 6 (by omega)
  have b0 : w.cell? ⟨s, 5, none⟩ = some (.slice (some ⟨g, o, none⟩) 2 cap) := by rw [cell_of_heap hb.t]; simp [h2']
  have b1 : w.cell? ⟨s1, 0, none⟩ = some (.map (some A)) := by rw [cell_of_heap hb.m]; rfl
  have b2 : w.cell? ⟨s2, 0, none⟩ = some (Clo ab tb Nm) := by rw [cell_of_heap hb.f]; rfl
  have AS : Hid (∀ W, (∃ m, W = w.drewN m) → Calls Tryz.prog 123 #[.agg #[.int .i64 kd, .int .i64 n, .string x, .string y, .slice a0 n0 d0, .slice a1 n1 d1, .slice a2 n2 d2], .map (some A), Clo ab tb Nm] W fun e w' => e = .returned (.tuple #[]) ∧ (∃ v', FS B A Td Nm ab tb (K + 3 * Pu.wt k args[1]) w' c (Pu.needs k c args[1] acc) v' ∧ Moved A Td Nm w w' v v') ∧ (w'.cell? ⟨g, o + 7, none⟩ = some (.int .i64 kd) ∧ w'.cell? ⟨g, o + 7 + 1, none⟩ = some (.int .i64 n) ∧ w'.cell? ⟨g, o + 7 + 2, none⟩ = some (.string x) ∧ w'.cell? ⟨g, o + 7 + 3, none⟩ = some (.string y) ∧ w'.cell? ⟨g, o + 7 + 4, none⟩ = some (.slice a0 n0 d0) ∧ w'.cell? ⟨g, o + 7 + 5, none⟩ = some (.slice a1 n1 d1) ∧ w'.cell? ⟨g, o + 7 + 6, none⟩ = some (.slice a2 n2 d2) ∧ w'.cell? ⟨s, 5, none⟩ = some (.slice (some ⟨g, o, none⟩) 2 cap) ∧ w'.cell? ⟨s1, 0, none⟩ = some (.map (some A)) ∧ w'.cell? ⟨s2, 0, none⟩ = some (Clo ab tb Nm))) := by
    rintro W ⟨m, rfl⟩
    refine (hN B A Td Nm ab tb K (w.drewN m) c acc v _ _ (hrt.old (Old.of_heap rfl) (Nat.le_refl _)) (hs.no ((Fr.refl No w).drewN m)) hB hc hK ha).mono ?_
    rintro e w' ⟨he, v', h1, h2⟩
    have hm : Moved A Td Nm w w' v v' := (Moved.refl.no ((Fr.refl No w).drewN m)).trans h2
    have ho := hs.old hm hB
    have cg : ∀ i u, w.cell? ⟨g, i, none⟩ = some u → w'.cell? ⟨g, i, none⟩ = some u := fun i u hu => by rw [ho.cell (a := ⟨g, i, none⟩) hg]; exact hu
    have hb' := hb.moved hs hm
    exact ⟨he, ⟨v', h1, hm⟩, cg _ _ e0, cg _ _ e1, cg _ _ e2, cg _ _ e3, cg _ _ e4, cg _ _ e5, cg _ _ e6, by rw [cell_of_heap hb'.t]; simp [h2'], by rw [cell_of_heap hb'.m]; rfl, by rw [cell_of_heap hb'.f]; rfl⟩
  have HZ : Hid (w.drew.cell? ⟨g, o + 7, none⟩ = some (.int .i64 kd) ∧ w.drew.cell? ⟨g, o + 7 + 1, none⟩ = some (.int .i64 n) ∧ w.drew.cell? ⟨g, o + 7 + 2, none⟩ = some (.string x) ∧ w.drew.cell? ⟨g, o + 7 + 3, none⟩ = some (.string y) ∧ w.drew.cell? ⟨g, o + 7 + 4, none⟩ = some (.slice a0 n0 d0) ∧ w.drew.cell? ⟨g, o + 7 + 5, none⟩ = some (.slice a1 n1 d1) ∧ w.drew.cell? ⟨g, o + 7 + 6, none⟩ = some (.slice a2 n2 d2) ∧ w.drew.cell? ⟨s, 5, none⟩ = some (.slice (some ⟨g, o, none⟩) 2 cap) ∧ w.drew.cell? ⟨s1, 0, none⟩ = some (.map (some A)) ∧ w.drew.cell? ⟨s2, 0, none⟩ = some (Clo ab tb Nm)) := ⟨e0, e1, e2, e3, e4, e5, e6, b0, b1, b2⟩
  clear hcell hrt he hr hs hc hb hN hK ha hB
  go_enter Tryz.func139, Tryz.ntmps139
  go_wp2_with fail
  go_region_held3 (fun w' : World => w'.cell? ⟨g, o + 7, none⟩ = some (.int .i64 kd) ∧ w'.cell? ⟨g, o + 7 + 1, none⟩ = some (.int .i64 n) ∧ w'.cell? ⟨g, o + 7 + 2, none⟩ = some (.string x) ∧ w'.cell? ⟨g, o + 7 + 3, none⟩ = some (.string y) ∧ w'.cell? ⟨g, o + 7 + 4, none⟩ = some (.slice a0 n0 d0) ∧ w'.cell? ⟨g, o + 7 + 5, none⟩ = some (.slice a1 n1 d1) ∧ w'.cell? ⟨g, o + 7 + 6, none⟩ = some (.slice a2 n2 d2) ∧ w'.cell? ⟨s, 5, none⟩ = some (.slice (some ⟨g, o, none⟩) 2 cap) ∧ w'.cell? ⟨s1, 0, none⟩ = some (.map (some A)) ∧ w'.cell? ⟨s2, 0, none⟩ = some (Clo ab tb Nm)) (first | assumption | exact HZ.out | go_keep)
    (first
      | (go_at_call 123; refine (AS.out _ ⟨1, rfl⟩).mono ?_; rintro e w1 ⟨rfl, hv1, hz1⟩))
  all_goals
    go_end0
    exact ⟨rfl, hv1⟩
end Go.Proofs.YtomahbdidlglfacGreatDoor

/- The check: are they names, unlike each other? -/
namespace Go.Proofs.YtomahbdidlglfacGreatDoor
open Go.RowKit Go.Maps Go.WideMaps
/-- The variable of 'guarded'. -/
abbrev Gd (w : World) (P : Nat) : Prop := w.heap[P]? = some (.cells #[.func (.func 22) #[] #[]] 53 (0, 0))
theorem unlike_step (l : List ByteArray) (i : Nat) (h : i < l.length) : Pu.unlikeFrom (l.take i) (l.drop i) = (!(Pu.has (l.take i) l[i]) && isName l[i] && Pu.unlikeFrom (l.take (i + 1)) (l.drop (i + 1))) := by
  rw [List.drop_eq_getElem_cons h, List.take_succ_eq_append_getElem h]
  rfl
theorem Names.fr {B : Nat} {w w' : World} {v : Value} {l : List ByteArray} (h : Names B w v l) (hf : Fr No w w') : Names B w' v l := by
  refine ⟨?_, h.2⟩
  obtain ⟨a, cap, h1, h2, h3, h4⟩ := h.1
  refine ⟨a, cap, h1, h2, h3, fun hn => ?_⟩
  obtain ⟨g, o, h5, h6, h7, h8⟩ := h4 hn
  exact ⟨g, o, h5, h6, Nat.lt_of_lt_of_le h7 hf.size, fun i hi => by
    rw [show w'.cell? ⟨g, o + i, none⟩ = w.cell? ⟨g, o + i, none⟩ from by simp only [World.cell?, hf.block g h7 (fun e => e)]]
    exact h8 i hi⟩
end Go.Proofs.YtomahbdidlglfacGreatDoor

/- 'Same': lists of names. -/
namespace Go.Proofs.YtomahbdidlglfacGreatDoor
open Go.RowKit Go.Maps Go.WideMaps
namespace Pu
def sameList {α : Type} (S : α → α → Bool) : List α → List α → Bool
  | [], [] => true
  | a :: l, b :: r => S a b && sameList S l r
  | _, _ => false
def sameCase {α : Type} (S : α → α → Bool) (a b : Int × List ByteArray × α) : Bool := decide (a.1 = b.1) && decide (a.2.1 = b.2.1) && S a.2.2 b.2.2
def sameN {α : Type} (S : α → α → Bool) (a b : Node α) : Bool :=
  decide (a.kind = b.kind) && decide (a.n = b.n) && decide (a.name = b.name) && decide (a.token = b.token) && decide (a.vars = b.vars) && sameList S a.args b.args && sameList (sameCase S) a.cases b.cases
/-- Are two terms the same? -/
def same : (k : Nat) → TT k → TT k → Bool
  | 0, _, _ => true
  | k + 1, a, b => sameN (same k) a b
theorem sameList_ne {α : Type} (S : α → α → Bool) : ∀ (a b : List α), a.length ≠ b.length → sameList S a b = false
  | [], [], h => absurd rfl h
  | [], _ :: _, _ => rfl
  | _ :: _, [], _ => rfl
  | a :: l, b :: r, h => by simp only [sameList]; rw [sameList_ne S l r (by simpa using h)]; simp
theorem sameList_all {α : Type} (S : α → α → Bool) : ∀ (a b : List α), a.length = b.length → (∀ i (h : i < a.length) (h' : i < b.length), S a[i] b[i] = true) → sameList S a b = true
  | [], [], _, _ => rfl
  | [], _ :: _, h, _ => by simp at h
  | _ :: _, [], h, _ => by simp at h
  | a :: l, b :: r, h, hs => by
    simp only [sameList]
    rw [sameList_all S l r (by simpa using h) (fun i h1 h2 => hs (i + 1) (by simpa using h1) (by simpa using h2))]
    have := hs 0 (by simp) (by simp)
    simp at this
    simp [this]
theorem sameList_not {α : Type} (S : α → α → Bool) : ∀ (a b : List α) (i : Nat) (h : i < a.length) (h' : i < b.length), S a[i] b[i] = false → sameList S a b = false
  | [], _, i, h, _, _ => by simp at h
  | _ :: _, [], i, _, h, _ => by simp at h
  | a :: l, b :: r, 0, _, _, hs => by simp at hs; simp [sameList, hs]
  | a :: l, b :: r, i + 1, h, h', hs => by
    simp only [sameList]
    rw [sameList_not S l r i (by simpa using h) (by simpa using h') (by simpa using hs)]
    simp
theorem same_refl : ∀ (k : Nat) (t : TT k), same k t t = true
  | 0, _ => rfl
  | k + 1, t => by
    show sameN (same k) t t = true
    have h1 : sameList (same k) t.args t.args = true := sameList_all _ _ _ rfl (fun i _ _ => same_refl k _)
    have h2 : sameList (sameCase (same k)) t.cases t.cases = true := sameList_all _ _ _ rfl (fun i _ _ => by simp [sameCase, same_refl k])
    simp [sameN, h1, h2]
end Pu
theorem str_ne {x y : ByteArray} (h : ¬ x = y) : (!x.toList == y.toList) = true := by
  have : ¬ x.toList = y.toList := fun e => h (by rw [ByteArray.toList_eq, ByteArray.toList_eq] at e; exact WideShapes.bytes_inj e)
  simp [this]
theorem str_ne' {x y : ByteArray} (h : ¬ x = y) : (x.toList == y.toList) = false := by
  have := str_ne h
  simpa using this
theorem names_ext {a b : List ByteArray} (hl : a.length = b.length) (h : ∀ i (h1 : i < a.length) (h2 : i < b.length), a[i] = b[i]) : a = b := List.ext_getElem hl h
end Go.Proofs.YtomahbdidlglfacGreatDoor

/- The law's 'alive'. -/
namespace Go.Proofs.YtomahbdidlglfacGreatDoor
open Go.RowKit Go.Maps Go.WideMaps
abbrev sz : ByteArray := ⟨#[122]⟩
end Go.Proofs.YtomahbdidlglfacGreatDoor
