/- The names that a term needs, as the document's answer puts them together; it is the same. No walk in it. -/
import Derived.Test.YtmjpfiecgkoaeaaNp
namespace Go.Proofs.Ytmjpfiecgkoaeaa

namespace Pu
def putOne (bt acc : List ByteArray) (x : ByteArray) : List ByteArray := if has bt x = false ∧ has acc x = false then acc ++ [x] else acc
def putAll (bt acc l : List ByteArray) : List ByteArray := l.foldl (putOne bt) acc
def putArgs {α : Type} (F : α → List ByteArray) (l2 : Bool) (name : ByteArray) : Nat → List α → List ByteArray → List ByteArray
  | _, [], acc => acc
  | i, a :: r, acc => putArgs F l2 name (i + 1) r (putAll (argNames l2 name i) acc (F a))
def putCases {α : Type} (F : α → List ByteArray) : List (Int × List ByteArray × α) → List ByteArray → List ByteArray
  | [], acc => acc
  | c :: r, acc => putCases F r (putAll c.2.1 acc (F c.2.2))
def isLet {α : Type} (t : Node α) : Bool := decide (t.kind = 6 ∧ t.args.length = 2)
def first {α : Type} (t : Node α) : List ByteArray := if asks t.kind = true then [t.name] else []
def freeRN {α : Type} (F : α → List ByteArray) (t : Node α) : List ByteArray :=
  if t.kind = 1 then [t.name]
  else if isLet t = true then putArgs F (isLet t) t.name 0 t.args (first t)
  else putCases F t.cases (putArgs F (isLet t) t.name 0 t.args (first t))
/-- The names that a term needs, by the document's answer. -/
def freeR : (k : Nat) → TT k → List ByteArray
  | 0, _ => []
  | k + 1, t => freeRN (freeR k) t

/-- All are asked for. -/
def askAll (c : Cnt) (l acc : List ByteArray) : List ByteArray := l.foldl (fun acc x => ask c x acc) acc
end Pu
open Pu

theorem putArgs_snoc {α : Type} (F : α → List ByteArray) (l2 : Bool) (name : ByteArray) (a : α) : ∀ (l : List α) (i : Nat) (acc : List ByteArray), putArgs F l2 name i (l ++ [a]) acc = putAll (argNames l2 name (i + l.length)) (putArgs F l2 name i l acc) (F a)
  | [], i, acc => rfl
  | b :: l, i, acc => by
    show putArgs F l2 name (i + 1) (l ++ [a]) _ = _
    rw [putArgs_snoc F l2 name a l (i + 1)]
    rw [show i + 1 + l.length = i + (b :: l).length by simp; omega]
    rfl
theorem putArgs_succ {α : Type} (F : α → List ByteArray) (l2 : Bool) (name : ByteArray) (l : List α) (acc : List ByteArray) (i : Nat) (h : i < l.length) : putArgs F l2 name 0 (l.take (i + 1)) acc = putAll (argNames l2 name i) (putArgs F l2 name 0 (l.take i) acc) (F l[i]) := by
  rw [List.take_succ_eq_append_getElem h, putArgs_snoc, List.length_take, Nat.zero_add, Nat.min_eq_left (by omega)]
theorem putCases_snoc {α : Type} (F : α → List ByteArray) (c : Int × List ByteArray × α) : ∀ (l : List (Int × List ByteArray × α)) (acc : List ByteArray), putCases F (l ++ [c]) acc = putAll c.2.1 (putCases F l acc) (F c.2.2)
  | [], _ => rfl
  | b :: l, acc => by show putCases F (l ++ [c]) _ = _; rw [putCases_snoc F c l]; rfl
theorem putCases_succ {α : Type} (F : α → List ByteArray) (l : List (Int × List ByteArray × α)) (acc : List ByteArray) (i : Nat) (h : i < l.length) : putCases F (l.take (i + 1)) acc = putAll l[i].2.1 (putCases F (l.take i) acc) (F l[i].2.2) := by
  rw [List.take_succ_eq_append_getElem h, putCases_snoc]

theorem has_iff {l : List ByteArray} {x : ByteArray} : has l x = true ↔ x ∈ l := by
  unfold has
  rw [List.any_eq_true]
  constructor
  · rintro ⟨y, h1, h2⟩; simp at h2; subst h2; exact h1
  · intro h; exact ⟨x, h, by simp⟩
theorem has_no {l : List ByteArray} {x : ByteArray} : has l x = false ↔ ¬ x ∈ l := by
  rw [← has_iff]; simp

theorem with_has (c : Cnt) (l : List ByteArray) (x : ByteArray) : with' c l x = 0 ↔ (c x = 0 ∧ has l x = false) := by
  unfold with'
  rw [has_no]
  constructor
  · intro h
    refine ⟨by omega, fun hm => ?_⟩
    have : 0 < l.countP (fun y => decide (y = x)) := List.countP_pos_iff.2 ⟨x, hm, by simp⟩
    omega
  · rintro ⟨h1, h2⟩
    have : l.countP (fun y => decide (y = x)) = 0 := List.countP_eq_zero.2 (fun y hy => by simp; intro e; exact h2 (e ▸ hy))
    omega

theorem mem_ask_old {c : Cnt} {x y : ByteArray} {acc : List ByteArray} (h : y ∈ acc) : y ∈ Pu.ask c x acc := by
  unfold Pu.ask
  split
  · exact List.mem_append_left _ h
  · exact h
theorem mem_askAll_old {c : Cnt} {y : ByteArray} : ∀ {l acc : List ByteArray}, y ∈ acc → y ∈ askAll c l acc
  | [], _, h => h
  | _ :: l, _, h => mem_askAll_old (l := l) (mem_ask_old h)
theorem mem_ask_self {c : Cnt} {x : ByteArray} {acc : List ByteArray} (h : c x = 0) : x ∈ Pu.ask c x acc := by
  unfold Pu.ask
  split
  · simp
  · next h1 =>
    have : ¬ has acc x = false := fun e => h1 ⟨h, e⟩
    rw [← has_iff]; simpa using this
theorem mem_askAll {c : Cnt} {y : ByteArray} (hc : c y = 0) : ∀ {l acc : List ByteArray}, y ∈ l → y ∈ askAll c l acc
  | x :: l, acc, h => by
    rcases List.mem_cons.1 h with rfl | h
    · exact mem_askAll_old (l := l) (mem_ask_self hc)
    · exact mem_askAll hc (l := l) (acc := Pu.ask c x acc) h
theorem ask_same {c : Cnt} {x : ByteArray} {acc : List ByteArray} (h : x ∈ acc) : Pu.ask c x acc = acc := by
  unfold Pu.ask
  rw [if_neg]
  rintro ⟨_, h2⟩
  exact has_no.1 h2 h
theorem askAll_snoc (c : Cnt) (l acc : List ByteArray) (x : ByteArray) : askAll c (l ++ [x]) acc = Pu.ask c x (askAll c l acc) := by unfold askAll; rw [List.foldl_append]; rfl

/-- What is put together, and then asked for. -/
theorem askAll_put (c : Cnt) (bt acc : List ByteArray) : ∀ (l a0 : List ByteArray), askAll c (putAll bt a0 l) acc = askAll (with' c bt) l (askAll c a0 acc)
  | [], _ => rfl
  | x :: l, a0 => by
    show askAll c (putAll bt (putOne bt a0 x) l) acc = askAll (with' c bt) l (Pu.ask (with' c bt) x (askAll c a0 acc))
    rw [askAll_put c bt acc l]
    congr 1
    unfold putOne
    by_cases h1 : has bt x = false
    · have hw : with' c bt x = 0 ↔ c x = 0 := by rw [with_has]; exact ⟨fun h => h.1, fun h => ⟨h, h1⟩⟩
      have hask : ∀ m, Pu.ask (with' c bt) x m = Pu.ask c x m := fun m => by
        unfold Pu.ask
        by_cases h : c x = 0 ∧ has m x = false
        · rw [if_pos h, if_pos ⟨hw.2 h.1, h.2⟩]
        · rw [if_neg h, if_neg (fun e => h ⟨hw.1 e.1, e.2⟩)]
      rw [hask]
      by_cases h2 : has a0 x = false
      · rw [if_pos ⟨h1, h2⟩, askAll_snoc]
      · rw [if_neg (fun e => h2 e.2)]
        by_cases hc : c x = 0
        · rw [ask_same (mem_askAll hc (has_iff.1 (by simpa using h2)))]
        · unfold Pu.ask
          rw [if_neg (fun e => hc e.1)]
    · rw [if_neg (fun e => h1 e.1)]
      unfold Pu.ask
      rw [if_neg]
      rintro ⟨e, _⟩
      exact h1 ((with_has c bt x).1 e).2

theorem askAll_one (c : Cnt) (x : ByteArray) (acc : List ByteArray) : askAll c [x] acc = Pu.ask c x acc := rfl

theorem argNames_no (name : ByteArray) (i : Nat) : argNames false name i = [] := by unfold argNames; simp

theorem needs_eq : ∀ (k : Nat) (c : Cnt) (t : TT k) (acc : List ByteArray), needs k c t acc = askAll c (freeR k t) acc
  | 0, _, t, _ => nomatch t
  | k + 1, c, t, acc => by
    have ih := needs_eq k
    have ha : ∀ (l : List (TT k)) (i : Nat) (a0 : List ByteArray), askAll c (putArgs (freeR k) false t.name i l a0) acc = needsArgs (needs k) c l (askAll c a0 acc) := by
      intro l
      induction l with
      | nil => intro i a0; rfl
      | cons a l ihl =>
        intro i a0
        simp only [putArgs, needsArgs]
        rw [ihl, argNames_no, askAll_put, with_nil', ih]
    have hcs : ∀ (l : List (Int × List ByteArray × TT k)) (a0 : List ByteArray), askAll c (putCases (freeR k) l a0) acc = needsCases (needs k) c l (askAll c a0 acc) := by
      intro l
      induction l with
      | nil => intro a0; rfl
      | cons a l ihl =>
        intro a0
        simp only [putCases, needsCases]
        rw [ihl, askAll_put, ih]
    have hfirst : askAll c (first t) acc = if asks t.kind = true then Pu.ask c t.name acc else acc := by
      unfold first
      split
      · rfl
      · rfl
    show needsN (needs k) c t acc = askAll c (freeRN (freeR k) t) acc
    unfold freeRN
    by_cases h1 : t.kind = 1
    · rw [if_pos h1, askAll_one]
      unfold needsN
      simp only [h1, if_true]
      rfl
    · rw [if_neg h1]
      by_cases h6 : t.kind = 6 ∧ t.args.length = 2
      · have hl : isLet t = true := by unfold isLet; rw [decide_eq_true h6]
        obtain ⟨a, b, hab⟩ := two_of h6.2
        rw [if_pos hl, hl, needsN_two _ _ _ _ a b h6.1 hab, hab]
        simp only [putArgs]
        rw [askAll_put, askAll_put, hfirst, ← ih, ← ih]
        rfl
      · have hl : isLet t = false := by unfold isLet; rw [decide_eq_false h6]
        rw [if_neg (by rw [hl]; simp), hl, needsN_other _ _ _ _ h1 h6, hcs, ha, hfirst]

theorem putOne_nodup {bt acc : List ByteArray} {x : ByteArray} (h : acc.Nodup) : (putOne bt acc x).Nodup := by
  unfold putOne
  split
  · next h1 =>
    have := has_no.1 h1.2
    rw [List.nodup_append]
    exact ⟨h, by simp, fun a ha b hb e => by simp at hb; subst hb; subst e; exact this ha⟩
  · exact h
theorem putAll_nodup {bt : List ByteArray} : ∀ {l acc : List ByteArray}, acc.Nodup → (putAll bt acc l).Nodup
  | [], _, h => h
  | _ :: l, _, h => putAll_nodup (l := l) (putOne_nodup h)
theorem putArgs_nodup {α : Type} (F : α → List ByteArray) (l2 : Bool) (name : ByteArray) : ∀ {l : List α} {i : Nat} {acc : List ByteArray}, acc.Nodup → (putArgs F l2 name i l acc).Nodup
  | [], _, _, h => h
  | a :: l, i, acc, h => putArgs_nodup F l2 name (l := l) (i := i + 1) (acc := putAll (argNames l2 name i) acc (F a)) (putAll_nodup h)
theorem putCases_nodup {α : Type} (F : α → List ByteArray) : ∀ {l : List (Int × List ByteArray × α)} {acc : List ByteArray}, acc.Nodup → (putCases F l acc).Nodup
  | [], _, h => h
  | c :: l, acc, h => putCases_nodup F (l := l) (acc := putAll c.2.1 acc (F c.2.2)) (putAll_nodup h)
theorem freeR_nodup : ∀ (k : Nat) (t : TT k), (freeR k t).Nodup
  | 0, t => nomatch t
  | k + 1, t => by
    have h0 : (first t).Nodup := by unfold first; split <;> simp
    show (freeRN (freeR k) t).Nodup
    unfold freeRN
    split
    · simp
    · split
      · exact putArgs_nodup _ _ _ h0
      · exact putCases_nodup _ (putArgs_nodup _ _ _ h0)

theorem askAll_nodup : ∀ (l acc : List ByteArray), l.Nodup → (∀ x, x ∈ l → ¬ x ∈ acc) → askAll (fun _ => 0) l acc = acc ++ l
  | [], acc, _, _ => by simp [askAll]
  | x :: l, acc, h, hd => by
    have hx : Pu.ask (fun _ => 0) x acc = acc ++ [x] := by unfold Pu.ask; rw [if_pos ⟨rfl, has_no.2 (hd x (by simp))⟩]
    show askAll (fun _ => 0) l (Pu.ask (fun _ => 0) x acc) = _
    rw [hx, askAll_nodup l _ (List.nodup_cons.1 h).2 (fun y hy hm => ?_)]
    · simp
    · rcases List.mem_append.1 hm with h2 | h2
      · exact hd y (by simp [hy]) h2
      · simp at h2; subst h2; exact (List.nodup_cons.1 h).1 hy

/-- Both tell the same names. -/
theorem free_eq (k : Nat) (t : TT k) : freeR k t = free k t := by
  have := needs_eq k (fun _ => 0) t []
  unfold free
  rw [this, askAll_nodup _ _ (freeR_nodup k t) (fun _ _ h => by simp at h)]
  simp

theorem freeR_length (k : Nat) (t : TT k) : (freeR k t).length ≤ wt k t := by
  rw [free_eq]
  have := needs_length k (fun _ => 0) t []
  unfold free
  simpa using this
end Go.Proofs.Ytmjpfiecgkoaeaa
