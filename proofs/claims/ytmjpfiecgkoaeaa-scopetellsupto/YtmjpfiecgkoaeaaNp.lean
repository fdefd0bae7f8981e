/- What a right term needs is there: as plain functions. No walk in it. -/
import Derived.Test.YtmjpfiecgkoaeaaPc
import Derived.Test.YtmjpfiecgkoaeaaLp
namespace Go.Proofs.Ytmjpfiecgkoaeaa

theorem mem_ask {c : Pu.Cnt} {x y : ByteArray} {acc : List ByteArray} (h : y ∈ Pu.ask c x acc) : y ∈ acc ∨ (y = x ∧ c x = 0) := by
  unfold Pu.ask at h
  split at h
  · next h1 =>
    rcases List.mem_append.1 h with h | h
    · exact .inl h
    · simp at h; exact .inr ⟨h, h1.1⟩
  · exact .inl h

theorem orErr_zero {b : Bool} {e : Int} (he : e ≠ 0) (h : Pu.orErr b e = 0) : b = true := by
  unfold Pu.orErr at h
  split at h
  · assumption
  · exact absurd h he

theorem with_zero {c : Pu.Cnt} {l : List ByteArray} {x : ByteArray} {b : Pu.Cnt} (h : Pu.with' b l x = 0 ∧ 0 < Pu.with' c l x) : b x = 0 ∧ 0 < c x := by
  unfold Pu.with' at h
  omega

/-- Names that a right term adds are there. -/
def Adds (c b : Pu.Cnt) (acc l : List ByteArray) : Prop := ∀ x, x ∈ l → x ∈ acc ∨ (b x = 0 ∧ 0 < c x)
theorem Adds.refl (c b : Pu.Cnt) (acc : List ByteArray) : Adds c b acc acc := fun _ h => .inl h
theorem Adds.trans {c b : Pu.Cnt} {l1 l2 l3 : List ByteArray} (h : Adds c b l1 l2) (k : Adds c b l2 l3) : Adds c b l1 l3 := fun x hx => (k x hx).elim (h x) .inr
theorem Adds.out {c b : Pu.Cnt} {l l1 l2 : List ByteArray} (h : Adds (Pu.with' c l) (Pu.with' b l) l1 l2) : Adds c b l1 l2 := fun x hx => (h x hx).imp id with_zero

theorem with_nil' (c : Pu.Cnt) : Pu.with' c [] = c := by funext x; simp [Pu.with']

theorem two_of {α : Type} {l : List α} (h : l.length = 2) : ∃ a b, l = [a, b] := by
  match l, h with
  | [a, b], _ => exact ⟨a, b, rfl⟩
theorem needsN_two {α : Type} (F : Pu.Cnt → α → List ByteArray → List ByteArray) (c : Pu.Cnt) (t : Pu.Node α) (acc : List ByteArray) (a b : α) (h6 : t.kind = 6) (hab : t.args = [a, b]) :
    Pu.needsN F c t acc = F (Pu.with' c [t.name]) b (F c a (if Pu.asks t.kind = true then Pu.ask c t.name acc else acc)) := by
  obtain ⟨kind, n, name, token, vars, args, cases⟩ := t
  simp only at h6 hab
  subst h6 hab
  rfl

theorem term_adds (fns : ByteArray → Option Int) : ∀ (k : Nat) (c b : Pu.Cnt) (t : Pu.TT k) (d : Nat) (acc : List ByteArray), Pu.term fns k c t d = 0 → Adds c b acc (Pu.needs k b t acc)
  | 0, _, _, t, _, _, _ => nomatch t
  | k + 1, c, b, t, d, acc, h => by
    have ih := term_adds fns k
    have h' : Pu.termN fns (Pu.term fns k) c t d = 0 := h
    unfold Pu.termN at h'
    have hown : Pu.own fns c t d = 0 := by
      by_cases e : Pu.own fns c t d = 0
      · exact e
      · rw [if_neg e] at h'; exact absurd h' e
    rw [if_pos hown] at h'
    have hargs : Pu.chkArgs (Pu.term fns k) c (decide (t.kind = 6)) t.name (d + 1) 0 t.args = 0 := by
      by_cases e : Pu.chkArgs (Pu.term fns k) c (decide (t.kind = 6)) t.name (d + 1) 0 t.args = 0
      · exact e
      · rw [if_neg e] at h'; exact absurd h' e
    rw [if_pos hargs] at h'
    unfold Pu.own at hown
    have hd : ¬ 24 < d := by
      intro e; rw [if_pos e] at hown; exact absurd hown (by decide)
    rw [if_neg hd] at hown
    have hk : ¬ (t.kind < 1 ∨ 7 < t.kind) := by
      intro e; rw [if_pos e] at hown; exact absurd hown (by decide)
    rw [if_neg hk] at hown
    have hfit : Pu.fits t = true := by
      cases e : Pu.fits t with
      | true => rfl
      | false => rw [e, if_pos rfl] at hown; exact absurd hown (by decide)
    rw [hfit, if_neg (by decide)] at hown
    show Adds c b acc (Pu.needsN (Pu.needs k) b t acc)
    by_cases h1 : t.kind = 1
    · have e1 : Pu.needsN (Pu.needs k) b t acc = Pu.ask b t.name acc := by
        unfold Pu.needsN
        simp only [h1, if_true]
        rw [if_pos (by decide)]
      rw [e1]
      intro x hx
      rcases mem_ask hx with hx | ⟨rfl, hb⟩
      · exact .inl hx
      · refine .inr ⟨hb, ?_⟩
        unfold Pu.alone at hown
        rw [if_pos h1] at hown
        exact of_decide_eq_true (orErr_zero (by decide) hown)
    · have hask : Pu.asks t.kind = false := by
        unfold Pu.asks
        simp [h1]
        omega
      have argsAdd : ∀ (l : List (Pu.TT k)) (i : Nat) (acc : List ByteArray), ¬ t.kind = 6 → Pu.chkArgs (Pu.term fns k) c (decide (t.kind = 6)) t.name (d + 1) i l = 0 → Adds c b acc (Pu.needsArgs (Pu.needs k) b l acc) := by
        intro l
        induction l with
        | nil => intro i acc _ _; exact Adds.refl _ _ _
        | cons a l ihl =>
          intro i acc h6 hc
          simp only [Pu.chkArgs] at hc
          have en : Pu.argNames (decide (t.kind = 6)) t.name i = [] := by unfold Pu.argNames; rw [if_neg (by simp [h6])]
          rw [en, with_nil'] at hc
          have h0 : Pu.term fns k c a (d + 1) = 0 := by
            by_cases e : Pu.term fns k c a (d + 1) = 0
            · exact e
            · rw [if_neg e] at hc; exact absurd hc e
          rw [if_pos h0] at hc
          exact (ih c b a (d + 1) acc h0).trans (ihl (i + 1) _ h6 hc)
      have casesAdd : ∀ (l ahead : List (Int × List ByteArray × Pu.TT k)) (acc : List ByteArray), Pu.chkCases (Pu.term fns k) c (d + 1) ahead l = 0 → Adds c b acc (Pu.needsCases (Pu.needs k) b l acc) := by
        intro l
        induction l with
        | nil => intro _ acc _; exact Adds.refl _ _ _
        | cons a l ihl =>
          intro ahead acc hc
          simp only [Pu.chkCases] at hc
          have ho : Pu.caseOwn ahead a = 0 := by
            by_cases e : Pu.caseOwn ahead a = 0
            · exact e
            · rw [if_neg e] at hc; exact absurd hc e
          rw [if_pos ho] at hc
          have h0 : Pu.term fns k (Pu.with' c a.2.1) a.2.2 (d + 1) = 0 := by
            by_cases e : Pu.term fns k (Pu.with' c a.2.1) a.2.2 (d + 1) = 0
            · exact e
            · rw [if_neg e] at hc; exact absurd hc e
          rw [if_pos h0] at hc
          exact (ih (Pu.with' c a.2.1) (Pu.with' b a.2.1) a.2.2 (d + 1) acc h0).out.trans (ihl _ _ hc)
      by_cases h6 : t.kind = 6
      · have hl : t.args.length = 2 := by
          unfold Pu.fits at hfit
          rw [if_neg (by omega), if_neg (by omega), if_pos (.inr h6)] at hfit
          exact (of_decide_eq_true hfit).1
        obtain ⟨a, a', hab⟩ := two_of hl
        rw [needsN_two _ _ _ _ a a' h6 hab, hask, if_neg (by decide)]
        · rw [hab] at hargs
          simp only [Pu.chkArgs] at hargs
          have en0 : Pu.argNames (decide (t.kind = 6)) t.name 0 = [] := by unfold Pu.argNames; rw [if_neg (by simp)]
          have en1 : Pu.argNames (decide (t.kind = 6)) t.name (0 + 1) = [t.name] := by unfold Pu.argNames; rw [if_pos ⟨by simp [h6], rfl⟩]
          rw [en0, with_nil', en1] at hargs
          have h0 : Pu.term fns k c a (d + 1) = 0 := by
            by_cases e : Pu.term fns k c a (d + 1) = 0
            · exact e
            · rw [if_neg e] at hargs; exact absurd hargs e
          rw [if_pos h0] at hargs
          have h2 : Pu.term fns k (Pu.with' c [t.name]) a' (d + 1) = 0 := by
            by_cases e : Pu.term fns k (Pu.with' c [t.name]) a' (d + 1) = 0
            · exact e
            · rw [if_neg e] at hargs; exact absurd hargs e
          exact (ih c b a (d + 1) acc h0).trans (ih (Pu.with' c [t.name]) (Pu.with' b [t.name]) a' (d + 1) _ h2).out
      · rw [needsN_other _ _ _ _ h1 (fun h => h6 h.1), hask, if_neg (by decide)]
        refine (argsAdd t.args 0 acc h6 hargs).trans ?_
        by_cases h7 : t.kind = 7
        · rw [if_pos h7] at h'
          unfold Pu.cases' at h'
          split at h'
          · exact absurd h' (by decide)
          · exact casesAdd t.cases [] _ h'
        · have hl : t.cases.length = 0 := by
            unfold Pu.fits at hfit
            rw [if_neg h7] at hfit
            split at hfit
            · exact (of_decide_eq_true hfit).2
            · split at hfit
              · exact (of_decide_eq_true hfit).2
              · exact (of_decide_eq_true hfit).2
          rw [List.length_eq_zero_iff.1 hl]
          exact Adds.refl _ _ _

theorem has_of_count {l : List ByteArray} {x : ByteArray} (h : 0 < Pu.with' (fun _ => 0) l x) : Pu.has l x = true := by
  unfold Pu.with' at h
  rw [Nat.zero_add, List.countP_pos_iff] at h
  unfold Pu.has
  rw [List.any_eq_true]
  exact h

theorem body_needs {k : Nat} (fns : ByteArray → Option Int) (ps : List ByteArray) (t : Pu.TT k) (h : Pu.term fns k (Pu.with' (fun _ => 0) ps) t 0 = 0) : ∀ x, x ∈ Pu.free k t → Pu.has ps x = true := by
  intro x hx
  rcases term_adds fns k (Pu.with' (fun _ => 0) ps) (fun _ => 0) t 0 [] h x hx with h1 | h1
  · simp at h1
  · exact has_of_count h1.2

theorem bodies_all {k : Nat} (fns : ByteArray → Option Int) : ∀ (l : List (Pu.Fn k)), Pu.bodies fns l = 0 → ∀ f, f ∈ l → Pu.term fns k (Pu.with' (fun _ => 0) f.2.1) f.2.2 0 = 0
  | [], _, f, hf => by simp at hf
  | g :: l, h, f, hf => by
    simp only [Pu.bodies] at h
    have h0 : Pu.term fns k (Pu.with' (fun _ => 0) g.2.1) g.2.2 0 = 0 := by
      by_cases e : Pu.term fns k (Pu.with' (fun _ => 0) g.2.1) g.2.2 0 = 0
      · exact e
      · rw [if_neg e] at h; exact absurd h e
    rw [if_pos h0] at h
    rcases List.mem_cons.1 hf with rfl | hf
    · exact h0
    · exact bodies_all fns l h f hf

theorem check_needs {k : Nat} (l : List (Pu.Fn k)) (h : Pu.check l = 0) (f : Pu.Fn k) (hf : f ∈ l) : ∀ x, x ∈ Pu.free k f.2.2 → Pu.has f.2.1 x = true := by
  unfold Pu.check at h
  split at h
  · exact absurd h (by decide)
  · have hh : Pu.heads (fun _ => none) l = 0 := by
      by_cases e : Pu.heads (fun _ => none) l = 0
      · exact e
      · rw [if_neg e] at h; exact absurd h e
    rw [if_pos hh] at h
    exact body_needs _ f.2.1 f.2.2 (bodies_all _ l h f hf)

theorem has_but_self (s : ByteArray) (l : List ByteArray) : Pu.has (but s l) s = false := by
  unfold Pu.has but
  rw [List.any_eq_false]
  intro x hx
  have := (List.mem_filter.1 hx).2
  simpa using this

theorem check_less {k : Nat} (x s : ByteArray) (ps : List ByteArray) (t : Pu.TT k) (hs : s ∈ Pu.free k t) : Pu.check [((x, but s ps, t) : Pu.Fn k)] ≠ 0 := by
  intro h
  have := check_needs _ h (x, but s ps, t) (by simp) s hs
  rw [has_but_self] at this
  exact absurd this (by decide)
end Go.Proofs.Ytmjpfiecgkoaeaa
