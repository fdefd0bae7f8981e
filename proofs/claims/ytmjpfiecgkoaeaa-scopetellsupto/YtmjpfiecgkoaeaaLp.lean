/- What a term in a let needs, as plain functions. No walk in it. -/
import Derived.Test.YtmjpfiecgkoaeaaPc
import Derived.Test.YtmjpfiecgkoaeaaW5
namespace Go.Proofs.Ytmjpfiecgkoaeaa

/-- All but one name. -/
def but (s : ByteArray) (l : List ByteArray) : List ByteArray := l.filter (fun x => decide (x ≠ s))

theorem has_but (s x : ByteArray) (l : List ByteArray) (h : x ≠ s) : Pu.has (but s l) x = Pu.has l x := by
  unfold Pu.has but
  rw [Bool.eq_iff_iff]
  simp only [List.any_eq_true, List.mem_filter, decide_eq_true_eq]
  constructor
  · rintro ⟨y, ⟨h1, _⟩, h2⟩; exact ⟨y, h1, h2⟩
  · rintro ⟨y, h1, h2⟩; exact ⟨y, ⟨h1, by rw [h2]; exact h⟩, h2⟩

theorem ask_but {c c' : Pu.Cnt} {s : ByteArray} (hc : ∀ x, c' x = 0 ↔ (c x = 0 ∧ x ≠ s)) (x : ByteArray) (acc : List ByteArray) : Pu.ask c' x (but s acc) = but s (Pu.ask c x acc) := by
  unfold Pu.ask
  by_cases hs : x = s
  · subst hs
    have : ¬ c' x = 0 := fun h => ((hc x).1 h).2 rfl
    rw [if_neg (fun h => this h.1)]
    split
    · simp [but]
    · rfl
  · have e : c' x = 0 ↔ c x = 0 := ⟨fun h => ((hc x).1 h).1, fun h => (hc x).2 ⟨h, hs⟩⟩
    rw [has_but s x acc hs]
    by_cases h1 : c x = 0 ∧ Pu.has acc x = false
    · rw [if_pos ⟨e.2 h1.1, h1.2⟩, if_pos h1]
      simp [but, hs]
    · rw [if_neg (fun h => h1 ⟨e.1 h.1, h.2⟩), if_neg h1]

theorem with_but {c c' : Pu.Cnt} {s : ByteArray} (hc : ∀ x, c' x = 0 ↔ (c x = 0 ∧ x ≠ s)) (l : List ByteArray) : ∀ x, Pu.with' c' l x = 0 ↔ (Pu.with' c l x = 0 ∧ x ≠ s) := by
  intro x
  unfold Pu.with'
  have := hc x
  constructor
  · intro h
    have h1 : c' x = 0 := by omega
    have h2 := this.1 h1
    exact ⟨by omega, h2.2⟩
  · rintro ⟨h1, h2⟩
    have h3 : c' x = 0 := this.2 ⟨by omega, h2⟩
    omega

theorem needs_but (s : ByteArray) : ∀ (k : Nat) (c c' : Pu.Cnt) (t : Pu.TT k) (acc : List ByteArray), (∀ x, c' x = 0 ↔ (c x = 0 ∧ x ≠ s)) → Pu.needs k c' t (but s acc) = but s (Pu.needs k c t acc)
  | 0, _, _, t, _, _ => nomatch t
  | k + 1, c, c', t, acc, hc => by
    have ih := needs_but s k
    have ha : ∀ (l : List (Pu.TT k)) (acc : List ByteArray), Pu.needsArgs (Pu.needs k) c' l (but s acc) = but s (Pu.needsArgs (Pu.needs k) c l acc) := by
      intro l
      induction l with
      | nil => intro acc; rfl
      | cons a l ihl => intro acc; simp only [Pu.needsArgs]; rw [ih c c' a acc hc, ihl]
    have hcs : ∀ (l : List (Int × List ByteArray × Pu.TT k)) (acc : List ByteArray), Pu.needsCases (Pu.needs k) c' l (but s acc) = but s (Pu.needsCases (Pu.needs k) c l acc) := by
      intro l
      induction l with
      | nil => intro acc; rfl
      | cons a l ihl => intro acc; simp only [Pu.needsCases]; rw [ih _ _ a.2.2 acc (with_but hc a.2.1), ihl]
    have hask : (if Pu.asks t.kind = true then Pu.ask c' t.name (but s acc) else but s acc) = but s (if Pu.asks t.kind = true then Pu.ask c t.name acc else acc) := by
      split
      · exact ask_but hc _ _
      · rfl
    show Pu.needsN (Pu.needs k) c' t (but s acc) = but s (Pu.needsN (Pu.needs k) c t acc)
    by_cases h1 : t.kind = 1
    · have e1 : ∀ (c : Pu.Cnt) (acc : List ByteArray), Pu.needsN (Pu.needs k) c t acc = if Pu.asks t.kind = true then Pu.ask c t.name acc else acc := fun c acc => by unfold Pu.needsN; simp only [h1, if_true]
      rw [e1, e1, hask]
    · by_cases h6 : t.kind = 6 ∧ t.args.length = 2
      · rw [needsN_let _ _ _ _ h6.1 h6.2, needsN_let _ _ _ _ h6.1 h6.2, hask, ih c c' _ _ hc, ih _ _ _ _ (with_but hc [t.name])]
      · rw [needsN_other _ _ _ _ h1 h6, needsN_other _ _ _ _ h1 h6, hask, ha, hcs]

theorem free_but (s : ByteArray) (k : Nat) (t : Pu.TT k) : Pu.needs k (Pu.with' (fun _ => 0) [s]) t [] = but s (Pu.free k t) := by
  have := needs_but s k (fun _ => 0) (Pu.with' (fun _ => 0) [s]) t [] (fun x => by
    unfold Pu.with'
    by_cases h : s = x
    · subst h; simp
    · simp [h, Ne.symm h])
  exact this
end Go.Proofs.Ytmjpfiecgkoaeaa
