/- The text layer's reader as plain functions on lists of words: what the walks over the program are held against. No program in it. -/
import Derived.Lib.AtoiAll
import Derived.Lib.ItoaNum
import Derived.Lib.Strings
namespace Go.Proofs.YtodolmdiebgmjaaDoor.Pu

/-- A reader: the words that are left, and the first error. -/
structure St where
  ws : List ByteArray
  err : Int

def fail (c : Int) (s : St) : St := ⟨[], if s.err = 0 then c else s.err⟩

def next (s : St) : ByteArray × St :=
  match s.ws with
  | [] => (⟨#[]⟩, fail 8 s)
  | w :: r => (w, ⟨r, s.err⟩)

def expect (x : ByteArray) (s : St) : St := if ((next s).1.toList == x.toList) = true then (next s).2 else fail 2 (next s).2

def more (s : St) : Bool × St :=
  match s.ws with
  | [] => (false, fail 8 s)
  | w :: r => if (w.toList == [41]) = true then (false, ⟨r, s.err⟩) else (true, s)

def letter (c : UInt8) : Bool := decide (97 ≤ c.toNat ∧ c.toNat ≤ 122)
def digit (c : UInt8) : Bool := decide (48 ≤ c.toNat ∧ c.toNat ≤ 57)

def okAll (l : List UInt8) : Bool := l.all (fun x => letter x || digit x)
def head1 (l : List UInt8) : Bool := match l with | [] => false | c :: _ => letter c

def isName (s : ByteArray) : Bool := decide (s.size ≤ 8) && head1 s.data.toList && okAll s.data.toList

def name (x : ByteArray) (s : St) : St := if isName x then s else fail 7 s

/-- Names up to a bracket; n: enough rounds. -/
def namesTo : Nat → St → List ByteArray × St
  | 0, s => ([], s)
  | n + 1, s =>
    if (more s).1 then
      ((next s).1 :: (namesTo n (name (next s).1 (next s).2)).1, (namesTo n (name (next s).1 (next s).2)).2)
    else ([], (more s).2)

/-- Names in brackets. -/
def names (s : St) : List ByteArray × St := namesTo (s.ws.length + 1) (expect ⟨#[40]⟩ s)

def number (x : ByteArray) : Int × Bool :=
  match Lib.atoiAll x.data.toList with
  | .ok v => (v, Lib.itoa v == x.toList)
  | .range => (Lib.atoiSat x.data.toList, false)
  | _ => (0, false)

def sign (p : Int) : List UInt8 := if p = 1 then [43] else if p = 2 then [45] else if p = 3 then [42] else if p = 4 then [60] else if p = 5 then [61] else []

def primitive (x : ByteArray) : Int := if x.toList = [43] then 1 else if x.toList = [45] then 2 else if x.toList = [42] then 3 else if x.toList = [60] then 4 else if x.toList = [61] then 5 else 0

/-- A constructor's word: its number. -/
def tagOf (x : ByteArray) : Int × Bool :=
  ((number ⟨(Lib.trimPrefix x.data.toList [35]).toArray⟩).1, Lib.hasPrefix x.data.toList [35] && (number ⟨(Lib.trimPrefix x.data.toList [35]).toArray⟩).2)

def tag (x : ByteArray) (s : St) : Int × St := ((tagOf x).1, if (tagOf x).2 = true then s else fail 2 s)

/-- A term over terms of another kind. -/
structure Node (α : Type) where
  kind : Int
  n : Int
  name : ByteArray
  args : List α
  cases : List (Int × List ByteArray × α)

/-- Terms with at most so many levels. -/
def TT : Nat → Type
  | 0 => Unit
  | k + 1 => Node (TT k)

def leaf {α : Type} (x : ByteArray) (s : St) : Node α × St :=
  if (number x).2 = true then (⟨2, (number x).1, ⟨#[]⟩, [], []⟩, s) else (⟨1, 0, x, [], []⟩, name x s)

def terms {α : Type} (T : St → α × St) : Nat → St → List α × St
  | 0, s => ([], s)
  | n + 1, s =>
    if (more s).1 then ((T (more s).2).1 :: (terms T n (T (more s).2).2).1, (terms T n (T (more s).2).2).2)
    else ([], (more s).2)

def two {α : Type} (T : St → α × St) (s : St) : List α × St :=
  ([(T s).1, (T (T s).2).1], expect ⟨#[41]⟩ (T (T s).2).2)

/-- A case, from its first bracket to its last. -/
def case1 {α : Type} (T : St → α × St) (s : St) : (Int × List ByteArray × α) × St :=
  let s1 := expect ⟨#[40]⟩ s
  let t := tag (next s1).1 (next s1).2
  let l := names t.2
  let b := T l.2
  ((t.1, l.1, b.1), expect ⟨#[41]⟩ b.2)

def cases {α : Type} (T : St → α × St) : Nat → St → List (Int × List ByteArray × α) × St
  | 0, s => ([], s)
  | n + 1, s =>
    if (more s).1 then ((case1 T (more s).2).1 :: (cases T n (case1 T (more s).2).2).1, (cases T n (case1 T (more s).2).2).2)
    else ([], (more s).2)

/-- What stands behind a term's first bracket. -/
def branch {α : Type} (T : St → α × St) (s : St) : Node α × St :=
  let h := (next s).1
  let s1 := (next s).2
  if Lib.hasPrefix h.data.toList [35] = true then
    let t := tag h s1
    let l := terms T (t.2.ws.length + 1) t.2
    (⟨3, t.1, ⟨#[]⟩, l.1, []⟩, l.2)
  else if (h.toList == [108, 101, 116]) = true then
    let s2 := name (next s1).1 (next s1).2
    let l := two T s2
    (⟨6, 0, (next s1).1, l.1, []⟩, l.2)
  else if (h.toList == [109, 97, 116, 99, 104]) = true then
    let t := T s1
    let l := cases T (t.2.ws.length + 1) t.2
    (⟨7, 0, ⟨#[]⟩, [t.1], l.1⟩, l.2)
  else if (primitive h != 0) = true then
    let l := two T s1
    (⟨5, primitive h, ⟨#[]⟩, l.1, []⟩, l.2)
  else
    let s2 := name h s1
    let l := terms T (s2.ws.length + 1) s2
    (⟨4, 0, h, l.1, []⟩, l.2)

/-- A term over terms that T reads; d: it lies too deep. -/
def termN {α : Type} (T : St → α × St) (d : Bool) (s : St) : Node α × St :=
  let h := (next s).1
  let s1 := (next s).2
  if (h.toList == [40]) = true then branch T (if d = true then fail 9 s1 else s1)
  else ((leaf h s1).1, if d = true then fail 9 (leaf (α := α) h s1).2 else (leaf (α := α) h s1).2)

/-- A term; k + 1: 26 less those that are around it. -/
def term : (k : Nat) → St → TT k × St
  | 0, s => ((), s)
  | k + 1, s => termN (term k) (decide (k = 0)) s

/-- A function: its name, its parameters, its term. -/
def function (s : St) : (ByteArray × List ByteArray × TT 26) × St :=
  let s1 := expect ⟨#[102, 110]⟩ (expect ⟨#[40]⟩ s)
  let s2 := name (next s1).1 (next s1).2
  let l := names s2
  let b := term 26 l.2
  (((next s1).1, l.1, b.1), expect ⟨#[41]⟩ b.2)

def functions : Nat → St → List (ByteArray × List ByteArray × TT 26) × St
  | 0, s => ([], s)
  | n + 1, s =>
    match s.ws with
    | [] => ([], s)
    | _ => ((function s).1 :: (functions n (function s).2).1, (functions n (function s).2).2)

/-- A text's functions, or what is wrong with it. -/
def parseWs (ws : List ByteArray) : List (ByteArray × List ByteArray × TT 26) × Int :=
  if (functions (ws.length + 1) ⟨ws, 0⟩).2.err = 0 then ((functions (ws.length + 1) ⟨ws, 0⟩).1, 0) else ([], (functions (ws.length + 1) ⟨ws, 0⟩).2.err)

/-- The words of a text, by places: what was found ahead of place k, and where the next one begins. -/
def isBr (c : UInt8) : Bool := c.toNat == 40 || c.toNat == 41
def isBl (c : UInt8) : Bool := c.toNat == 32 || c.toNat == 10 || c.toNat == 9

def splitTo (s : ByteArray) : Nat → List ByteArray × Nat
  | 0 => ([], 0)
  | k + 1 =>
    if isBr (s.data.getD k 0) = true then ((if (splitTo s k).2 < k then (splitTo s k).1 ++ [s.extract (splitTo s k).2 k] else (splitTo s k).1) ++ [s.extract k (k + 1)], k + 1)
    else if isBl (s.data.getD k 0) = true then ((if (splitTo s k).2 < k then (splitTo s k).1 ++ [s.extract (splitTo s k).2 k] else (splitTo s k).1), k + 1)
    else splitTo s k

def split (s : ByteArray) : List ByteArray := if (splitTo s s.size).2 < s.size then (splitTo s s.size).1 ++ [s.extract (splitTo s s.size).2 s.size] else (splitTo s s.size).1

def parse (s : ByteArray) : List (ByteArray × List ByteArray × TT 26) × Int := if 1500 < s.size then ([], 4) else parseWs (split s)

theorem splitTo_le (s : ByteArray) : ∀ k, (splitTo s k).1.length ≤ (splitTo s k).2 ∧ (splitTo s k).2 ≤ k
  | 0 => ⟨Nat.le_refl _, Nat.le_refl _⟩
  | k + 1 => by
    have h := splitTo_le s k
    unfold splitTo
    split
    · split
      · simp; omega
      · simp; omega
    · split
      · split
        · simp; omega
        · simp; omega
      · omega

theorem split_length (s : ByteArray) : (split s).length ≤ s.size := by
  have h := splitTo_le s s.size
  unfold split
  split
  · simp; omega
  · omega
theorem splitTo_size (s : ByteArray) : ∀ k x, x ∈ (splitTo s k).1 → x.size ≤ s.size
  | 0, x, h => by simp [splitTo] at h
  | k + 1, x, h => by
    have ih := splitTo_size s k x
    have hx : ∀ a b : Nat, (s.extract a b).size ≤ s.size := fun a b => by simp [ByteArray.size_extract]; omega
    unfold splitTo at h
    split at h
    · simp only [List.mem_append, List.mem_singleton] at h
      rcases h with h | h
      · split at h
        · simp only [List.mem_append, List.mem_singleton] at h
          rcases h with h | h
          · exact ih h
          · rw [h]; exact hx _ _
        · exact ih h
      · rw [h]; exact hx _ _
    · split at h
      · dsimp only at h
        split at h
        · simp only [List.mem_append, List.mem_singleton] at h
          rcases h with h | h
          · exact ih h
          · rw [h]; exact hx _ _
        · exact ih h
      · exact ih h
theorem split_size (s : ByteArray) (x : ByteArray) (h : x ∈ split s) : x.size ≤ s.size := by
  have hx : ∀ a b : Nat, (s.extract a b).size ≤ s.size := fun a b => by simp [ByteArray.size_extract]; omega
  unfold split at h
  split at h
  · simp only [List.mem_append, List.mem_singleton] at h
    rcases h with h | h
    · exact splitTo_size s _ x h
    · rw [h]; exact hx _ _
  · exact splitTo_size s _ x h

/- What is left of the words is an end of them. -/
theorem fail_suf (c : Int) (s : St) : (fail c s).ws <:+ s.ws := ⟨s.ws, by simp [fail]⟩
theorem next_suf (s : St) : (next s).2.ws <:+ s.ws := by
  obtain ⟨ws, e⟩ := s
  cases ws with
  | nil => exact fail_suf 8 _
  | cons x r => exact ⟨[x], rfl⟩
theorem next_mem (s : St) : (next s).1 = ⟨#[]⟩ ∨ (next s).1 ∈ s.ws := by
  obtain ⟨ws, e⟩ := s
  cases ws with
  | nil => exact .inl rfl
  | cons x r => exact .inr (by simp [next])
theorem expect_suf (x : ByteArray) (s : St) : (expect x s).ws <:+ s.ws := by
  unfold expect
  split
  · exact next_suf s
  · exact (fail_suf 2 _).trans (next_suf s)
theorem name_suf (x : ByteArray) (s : St) : (name x s).ws <:+ s.ws := by
  unfold name
  split
  · exact List.suffix_refl _
  · exact fail_suf 7 s
theorem more_suf (s : St) : (more s).2.ws <:+ s.ws := by
  obtain ⟨ws, e⟩ := s
  cases ws with
  | nil => exact fail_suf 8 _
  | cons x r =>
    by_cases hx : (x.toList == [41]) = true
    · simp only [more, hx, if_true]; exact ⟨[x], rfl⟩
    · simp only [more, hx]; exact List.suffix_refl _
theorem more_true {s : St} (h : (more s).1 = true) : (more s).2 = s ∧ 0 < s.ws.length := by
  obtain ⟨ws, e⟩ := s
  cases ws with
  | nil => simp [more] at h
  | cons x r =>
    by_cases hx : (x.toList == [41]) = true
    · simp only [more, hx, if_true] at h; cases h
    · simp only [more, hx]; exact ⟨rfl, Nat.succ_pos _⟩
theorem next_less {s : St} (h : 0 < s.ws.length) : (next s).2.ws.length + 1 = s.ws.length := by
  obtain ⟨ws, e⟩ := s
  cases ws with
  | nil => simp at h
  | cons x r => simp [next]
theorem tag_suf (x : ByteArray) (s : St) : (tag x s).2.ws <:+ s.ws := by
  unfold tag
  dsimp only
  split
  · exact List.suffix_refl _
  · exact fail_suf 2 s
theorem leaf_suf {α : Type} (x : ByteArray) (s : St) : (leaf (α := α) x s).2.ws <:+ s.ws := by
  unfold leaf
  split
  · exact List.suffix_refl _
  · exact name_suf x s
theorem namesTo_suf : ∀ (n : Nat) (s : St), (namesTo n s).2.ws <:+ s.ws
  | 0, s => List.suffix_refl _
  | n + 1, s => by
    unfold namesTo
    split
    · exact ((namesTo_suf n _).trans (name_suf _ _)).trans (next_suf s)
    · exact more_suf s
theorem names_suf (s : St) : (names s).2.ws <:+ s.ws := (namesTo_suf _ _).trans (expect_suf _ _)

/-- A reading of terms that never gives words back. -/
def Eats {α : Type} (T : St → α × St) : Prop := ∀ s, (T s).2.ws <:+ s.ws

theorem terms_suf {α : Type} {T : St → α × St} (hT : Eats T) : ∀ (n : Nat) (s : St), (terms T n s).2.ws <:+ s.ws
  | 0, s => List.suffix_refl _
  | n + 1, s => by
    unfold terms
    split
    · exact ((terms_suf hT n _).trans (hT _)).trans (more_suf s)
    · exact more_suf s
theorem two_suf {α : Type} {T : St → α × St} (hT : Eats T) (s : St) : (two T s).2.ws <:+ s.ws := ((expect_suf _ _).trans (hT _)).trans (hT s)
theorem case1_suf {α : Type} {T : St → α × St} (hT : Eats T) (s : St) : (case1 T s).2.ws <:+ s.ws := by
  unfold case1
  exact ((((((expect_suf _ _).trans (hT _)).trans (names_suf _)).trans (tag_suf _ _)).trans (next_suf _)).trans (expect_suf _ _))
theorem cases_suf {α : Type} {T : St → α × St} (hT : Eats T) : ∀ (n : Nat) (s : St), (cases T n s).2.ws <:+ s.ws
  | 0, s => List.suffix_refl _
  | n + 1, s => by
    unfold cases
    split
    · exact ((cases_suf hT n _).trans (case1_suf hT _)).trans (more_suf s)
    · exact more_suf s
theorem branch_suf {α : Type} {T : St → α × St} (hT : Eats T) (s : St) : (branch T s).2.ws <:+ s.ws := by
  unfold branch
  dsimp only
  split
  · exact ((terms_suf hT _ _).trans (tag_suf _ _)).trans (next_suf s)
  · split
    · exact (((two_suf hT _).trans (name_suf _ _)).trans (next_suf _)).trans (next_suf s)
    · split
      · exact ((cases_suf hT _ _).trans (hT _)).trans (next_suf s)
      · split
        · exact (two_suf hT _).trans (next_suf s)
        · exact ((terms_suf hT _ _).trans (name_suf _ _)).trans (next_suf s)
theorem termN_suf {α : Type} {T : St → α × St} (hT : Eats T) (d : Bool) (s : St) : (termN T d s).2.ws <:+ s.ws := by
  unfold termN
  dsimp only
  split
  · refine (branch_suf hT _).trans ?_
    split
    · exact (fail_suf 9 _).trans (next_suf s)
    · exact next_suf s
  · dsimp only
    split
    · exact ((fail_suf 9 _).trans (leaf_suf _ _)).trans (next_suf s)
    · exact (leaf_suf _ _).trans (next_suf s)
theorem term_suf : ∀ (k : Nat), Eats (term k)
  | 0 => fun _ => List.suffix_refl _
  | k + 1 => fun s => termN_suf (term_suf k) _ s
theorem termN_less {α : Type} {T : St → α × St} (hT : Eats T) (d : Bool) (s : St) (h : 0 < s.ws.length) : (termN T d s).2.ws.length + 1 ≤ s.ws.length := by
  have hn := next_less h
  unfold termN
  dsimp only
  split
  · have h1 := (branch_suf hT (if d = true then fail 9 (next s).2 else (next s).2)).length_le
    have h2 : (if d = true then fail 9 (next s).2 else (next s).2).ws.length ≤ (next s).2.ws.length := by
      split
      · exact (fail_suf 9 _).length_le
      · exact Nat.le_refl _
    omega
  · dsimp only
    have h1 := (leaf_suf (α := α) (next s).1 (next s).2).length_le
    split
    · have h2 := (fail_suf 9 (leaf (α := α) (next s).1 (next s).2).2).length_le
      omega
    · omega
theorem term_less (k : Nat) (hk : 1 ≤ k) (s : St) (h : 0 < s.ws.length) : (term k s).2.ws.length + 1 ≤ s.ws.length := by
  cases k with
  | zero => omega
  | succ k => exact termN_less (term_suf k) _ s h
theorem expect_less (x : ByteArray) {s : St} (h : 0 < s.ws.length) : (expect x s).ws.length + 1 ≤ s.ws.length := by
  have hn := next_less h
  unfold expect
  split
  · omega
  · have := (fail_suf 2 (next s).2).length_le; omega
theorem case1_less {α : Type} {T : St → α × St} (hT : Eats T) {s : St} (h : 0 < s.ws.length) : (case1 T s).2.ws.length + 1 ≤ s.ws.length := by
  have h1 := expect_less ⟨#[40]⟩ h
  unfold case1
  dsimp only
  have h2 := (((((expect_suf ⟨#[41]⟩ (T (names (tag (next (expect ⟨#[40]⟩ s)).1 (next (expect ⟨#[40]⟩ s)).2).2).2).2).trans (hT _)).trans (names_suf _)).trans (tag_suf _ _)).trans (next_suf _)).length_le
  omega
theorem function_less {s : St} (h : 0 < s.ws.length) : (function s).2.ws.length + 1 ≤ s.ws.length := by
  have h1 := expect_less ⟨#[40]⟩ h
  unfold function
  dsimp only
  have h2 := ((((((expect_suf ⟨#[41]⟩ (term 26 (names (name (next (expect ⟨#[102, 110]⟩ (expect ⟨#[40]⟩ s))).1 (next (expect ⟨#[102, 110]⟩ (expect ⟨#[40]⟩ s))).2)).2).2).trans (term_suf 26 _)).trans (names_suf _)).trans (name_suf _ _)).trans (next_suf _)).trans (expect_suf _ _)).length_le
  omega
theorem function_suf (s : St) : (function s).2.ws <:+ s.ws := by
  unfold function
  exact (((((((expect_suf _ _).trans (term_suf 26 _)).trans (names_suf _)).trans (name_suf _ _)).trans (next_suf _)).trans (expect_suf _ _)).trans (expect_suf _ _))

end Go.Proofs.YtodolmdiebgmjaaDoor.Pu
