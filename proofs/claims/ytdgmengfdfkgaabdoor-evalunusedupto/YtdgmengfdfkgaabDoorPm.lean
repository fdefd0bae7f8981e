/- More is no less; what is not called is no matter; what is right: as plain functions. No program in it. -/
import Derived.Test.YtdgmengfdfkgaabDoorPuPeRel
import Derived.Test.YtdgmengfdfkgaabDoorN1Pc
namespace Go.Proofs.YtdgmengfdfkgaabDoor.Pu

/-! More is no less. -/
def Keeps (o o' : Out) : Prop := o.e ≠ 12 → o' = o

theorem evL_keeps {α : Type} {E E' : α → Nat → Out} (h : ∀ a c, Keeps (E a c) (E' a c)) : ∀ (l : List α) (c : Nat), (evL E l c).2.1 ≠ 12 → evL E' l c = evL E l c
  | [], _, _ => rfl
  | a :: l, c, hne => by
    have ih := evL_keeps h l
    simp only [evL] at hne ⊢
    by_cases h0 : (E a c).e = 0
    · have e1 := h a c (by rw [h0]; decide)
      rw [e1]
      rw [if_pos h0] at hne ⊢
      by_cases h1 : (evL E l (E a c).c).2.1 = 0
      · have e2 := ih (E a c).c (by rw [h1]; decide)
        rw [e2, if_pos h1]
        rw [if_pos h0]
      · rw [if_neg h1] at hne
        have e2 := ih (E a c).c hne
        rw [e2, if_neg h1, if_pos h0]
    · rw [if_neg h0] at hne
      have e1 := h a c hne
      rw [e1, if_neg h0, if_neg h0]

theorem evMatch_keeps {α : Type} {E E' : Env → α → Nat → Out} (h : ∀ env a c, Keeps (E env a c) (E' env a c)) (env : Env) (cases : List (Int × List ByteArray × α)) (vs : List V) (c : Nat) : Keeps (evMatch E env cases vs c) (evMatch E' env cases vs c) := by
  unfold evMatch
  split
  · split
    · split
      · split
        · exact h _ _ _
        · exact fun _ => rfl
      · exact fun _ => rfl
    · exact fun _ => rfl
  · exact fun _ => rfl
theorem evLet_keeps {α : Type} {E E' : Env → α → Nat → Out} (h : ∀ env a c, Keeps (E env a c) (E' env a c)) (env : Env) (name : ByteArray) (args : List α) (c : Nat) : Keeps (evLet E env name args c) (evLet E' env name args c) := by
  unfold evLet
  split
  · next a b =>
    intro hne
    by_cases h0 : (E env a c).e = 0
    · have e1 := h env a c (by rw [h0]; decide)
      rw [if_pos h0] at hne
      rw [e1, if_pos h0, if_pos h0]
      exact h _ _ _ hne
    · rw [if_neg h0] at hne
      have e1 := h env a c hne
      rw [e1, if_neg h0, if_neg h0]
  · exact fun _ => rfl
theorem evN_keeps {α : Type} {call call' : ByteArray → List V → Nat → Out} {E E' : Env → α → Nat → Out} (hc : ∀ n vs c, Keeps (call n vs c) (call' n vs c)) (h : ∀ env a c, Keeps (E env a c) (E' env a c)) (env : Env) (t : Node α) (c : Nat) : Keeps (evN call E env t c) (evN call' E' env t c) := by
  unfold evN
  by_cases h1 : t.kind = 1
  · rw [if_pos h1, if_pos h1]; exact fun _ => rfl
  rw [if_neg h1, if_neg h1]
  by_cases h2 : t.kind = 2
  · rw [if_pos h2, if_pos h2]; exact fun _ => rfl
  rw [if_neg h2, if_neg h2]
  by_cases h6 : t.kind = 6
  · rw [if_pos h6, if_pos h6]; exact evLet_keeps h _ _ _ _
  rw [if_neg h6, if_neg h6]
  intro hne
  unfold evOf at hne ⊢
  by_cases h0 : (evL (E env) t.args c).2.1 = 0
  · have e1 := evL_keeps (h env) t.args c (by rw [h0]; decide)
    rw [if_pos h0] at hne
    rw [e1, if_pos h0, if_pos h0]
    by_cases h3 : t.kind = 3
    · rw [if_pos h3, if_pos h3]
    rw [if_neg h3] at hne ⊢
    rw [if_neg h3]
    by_cases h4 : t.kind = 4
    · rw [if_pos h4] at hne ⊢
      rw [if_pos h4]
      exact hc _ _ _ hne
    rw [if_neg h4] at hne ⊢
    rw [if_neg h4]
    by_cases h5 : t.kind = 5
    · rw [if_pos h5, if_pos h5]
    rw [if_neg h5] at hne ⊢
    rw [if_neg h5]
    by_cases h7 : t.kind = 7
    · rw [if_pos h7] at hne ⊢
      rw [if_pos h7]
      exact evMatch_keeps h _ _ _ _ hne
    rw [if_neg h7, if_neg h7]
  · rw [if_neg h0] at hne
    have e1 := evL_keeps (h env) t.args c hne
    rw [e1, if_neg h0, if_neg h0]
theorem ev_keeps {call call' : ByteArray → List V → Nat → Out} (hc : ∀ n vs c, Keeps (call n vs c) (call' n vs c)) : ∀ (k : Nat) (env : Env) (t : TT k) (c : Nat), Keeps (ev call k env t c) (ev call' k env t c)
  | 0, _, _, _ => fun _ => rfl
  | k + 1, env, t, c => evN_keeps hc (ev_keeps hc k) env t c
theorem call_keeps {k : Nat} (l : List (Fun k)) {F F' : Nat} (hF : F ≤ F') : ∀ (D : Nat) (n : ByteArray) (vs : List V) (c : Nat), Keeps (call l F D n vs c) (call l F' D n vs c)
  | 0, n, vs, c => by
    unfold call
    split
    · exact fun _ => rfl
    · by_cases h : F ≤ c
      · rw [if_pos h]; exact fun h => absurd rfl h
      · rw [if_neg h]
        by_cases h' : F' ≤ c
        · omega
        · rw [if_neg h']; exact fun _ => rfl
  | D + 1, n, vs, c => by
    unfold call
    split
    · exact fun _ => rfl
    · by_cases h : F ≤ c
      · rw [if_pos h]; exact fun h => absurd rfl h
      · rw [if_neg h]
        by_cases h' : F' ≤ c
        · omega
        · rw [if_neg h']; exact ev_keeps (call_keeps l hF D) _ _ _ _

theorem run_zed {k : Nat} (l : List (Fun k)) (name : ByteArray) (args : List Int) (fuel : Int) (h : (run l name args fuel).2 ≠ 0) : (run l name args fuel).1 = V.zero := by
  unfold run at h ⊢
  split
  · rfl
  · next hr =>
    rw [if_neg hr] at h
    split
    · next h0 =>
      rw [if_pos h0] at h
      split
      · next h1 => rw [if_pos h1] at h; exact absurd rfl h
      · rfl
    · rfl
theorem run_keeps {k : Nat} (l : List (Fun k)) (name : ByteArray) (args : List Int) (fuel more : Int) (h1 : ¬ (fuel < 0 ∨ 300 < fuel)) (h2 : ¬ (more < 0 ∨ 300 < more)) (hm : fuel ≤ more) (h : (run l name args fuel).2 ≠ 12) : run l name args more = run l name args fuel := by
  have hk := call_keeps l (show fuel.toNat ≤ more.toNat by omega) 40 name (args.map num) 0
  have hne : (call l fuel.toNat 40 name (args.map num) 0).e ≠ 12 := by
    intro e
    apply h
    unfold run
    rw [if_neg h1, if_neg (by rw [e]; decide), e]
  unfold run
  rw [if_neg h1, if_neg h2, hk hne]

/-! What a right term is. -/
theorem if_zero {p : Prop} [Decidable p] {a b : Int} (h : (if p then a else b) = 0) (hb : ¬ p → b ≠ 0) : p ∧ a = 0 := by
  by_cases hp : p
  · rw [if_pos hp] at h; exact ⟨hp, h⟩
  · rw [if_neg hp] at h; exact absurd h (hb hp)
theorem if_not {p : Prop} [Decidable p] {a b : Int} (h : (if p then a else b) = 0) (ha : a ≠ 0) : ¬ p ∧ b = 0 := by
  by_cases hp : p
  · rw [if_pos hp] at h; exact absurd h ha
  · rw [if_neg hp] at h; exact ⟨hp, h⟩
theorem orErr_ok {b : Bool} {e : Int} (he : e ≠ 0) (h : orErr b e = 0) : b = true := by
  unfold orErr at h
  by_cases hb : b = true
  · exact hb
  · rw [if_neg hb] at h; exact absurd h he

theorem chkArgs_at {α : Type} {F : Cnt → α → Nat → Int} {c : Cnt} {l6 : Bool} {name : ByteArray} {d : Nat} : ∀ (l : List α) (i : Nat), chkArgs F c l6 name d i l = 0 → ∀ j (hj : j < l.length), F (with' c (argNames l6 name (i + j))) l[j] d = 0
  | [], _, _, j, hj => by simp at hj
  | a :: l, i, h, j, hj => by
    simp only [chkArgs] at h
    obtain ⟨h0, h1⟩ := if_zero h (fun e => e)
    cases j with
    | zero => simpa using h0
    | succ j =>
      have := chkArgs_at l (i + 1) h1 j (by simpa using hj)
      rw [show i + (j + 1) = i + 1 + j by omega]
      simpa using this
theorem chkCases_at {α : Type} {F : Cnt → α → Nat → Int} {c : Cnt} {d : Nat} : ∀ (l ahead : List (Int × List ByteArray × α)), chkCases F c d ahead l = 0 → ∀ k ∈ l, F (with' c k.2.1) k.2.2 d = 0 ∧ unlike k.2.1 = true
  | [], _, _, k, hk => by simp at hk
  | a :: l, ahead, h, k, hk => by
    simp only [chkCases] at h
    obtain ⟨h0, h1⟩ := if_zero h (fun e => e)
    obtain ⟨h2, h3⟩ := if_zero h1 (fun e => e)
    rcases List.mem_cons.1 hk with rfl | hk
    · refine ⟨h2, ?_⟩
      unfold caseOwn at h0
      have h4 := (if_not (if_not h0 (by decide)).2 (by decide)).1
      cases hu : unlike k.2.1 with
      | true => rfl
      | false => exact absurd (Or.inr hu) h4
    · exact chkCases_at l _ h3 k hk

/-- A right term, laid open. -/
structure Right {α : Type} (fns : ByteArray → Option Int) (F : Cnt → α → Nat → Int) (c : Cnt) (t : Node α) (d : Nat) : Prop where
  kind : 1 ≤ t.kind ∧ t.kind ≤ 7
  var : t.kind = 1 → 0 < c t.name ∧ t.args.length = 0
  int : t.kind = 2 → t.args.length = 0 ∧ -2147483648 ≤ t.n ∧ t.n ≤ 2147483647
  call : t.kind = 4 → fns t.name = some (t.args.length : Int)
  prim : t.kind = 5 → t.args.length = 2 ∧ 1 ≤ t.n ∧ t.n ≤ 5
  let' : t.kind = 6 → t.args.length = 2
  mtch : t.kind = 7 → t.args.length = 1
  args : ∀ j (hj : j < t.args.length), F (with' c (argNames (decide (t.kind = 6)) t.name j)) t.args[j] (d + 1) = 0
  cases : t.kind = 7 → ∀ k ∈ t.cases, F (with' c k.2.1) k.2.2 (d + 1) = 0 ∧ unlike k.2.1 = true

theorem right_of {α : Type} {fns : ByteArray → Option Int} {F : Cnt → α → Nat → Int} {c : Cnt} {t : Node α} {d : Nat} (h : termN fns F c t d = 0) : Right fns F c t d := by
  unfold termN at h
  obtain ⟨hown, h⟩ := if_zero h (fun e => e)
  obtain ⟨hargs, h⟩ := if_zero h (fun e => e)
  unfold own at hown
  obtain ⟨_, hown⟩ := if_not hown (by decide)
  obtain ⟨hk, hown⟩ := if_not hown (by decide)
  obtain ⟨hf, hown⟩ := if_not hown (by decide)
  have hf : fits t = true := by simpa using hf
  have A := chkArgs_at t.args 0 hargs
  unfold alone at hown
  unfold fits at hf
  refine ⟨by omega, ?_, ?_, ?_, ?_, ?_, ?_, fun j hj => by have := A j hj; rwa [Nat.zero_add] at this, ?_⟩
  · intro e
    rw [if_pos e] at hown
    rw [if_neg (by omega), if_pos (.inl e)] at hf
    exact ⟨of_decide_eq_true (orErr_ok (by decide) hown), (of_decide_eq_true hf).1⟩
  · intro e
    rw [if_neg (by omega), if_pos e] at hown
    rw [if_neg (by omega), if_pos (.inr e)] at hf
    exact ⟨(of_decide_eq_true hf).1, of_decide_eq_true (orErr_ok (by decide) hown)⟩
  · intro e
    rw [if_neg (by omega), if_neg (by omega), if_neg (by omega), if_neg (by omega), if_neg (by omega), if_pos e] at hown
    cases hx : fns t.name with
    | none => rw [hx] at hown; exact absurd (show (6 : Int) = 0 from hown) (by decide)
    | some n => rw [hx] at hown; exact congrArg some (of_decide_eq_true (orErr_ok (by decide) hown))
  · intro e
    rw [if_neg (by omega), if_neg (by omega), if_neg (by omega), if_pos e] at hown
    rw [if_neg (by omega), if_neg (by omega), if_pos (.inl e)] at hf
    exact ⟨(of_decide_eq_true hf).1, of_decide_eq_true (orErr_ok (by decide) hown)⟩
  · intro e
    rw [if_neg (by omega), if_neg (by omega), if_pos (.inr e)] at hf
    exact (of_decide_eq_true hf).1
  · intro e
    rw [if_pos e] at hf
    exact of_decide_eq_true hf
  · intro e
    rw [if_pos e] at h
    unfold cases' at h
    exact chkCases_at _ _ (if_not h (by decide)).2

/-! What a right program is. -/
theorem notes_some {k : Nat} : ∀ (l : List (Fn k)) (fns : ByteArray → Option Int) (x : ByteArray) (n : Int), notes fns l x = some n → (∃ f ∈ l, f.1 = x ∧ (f.2.1.length : Int) = n) ∨ fns x = some n
  | [], _, _, _, h => .inr h
  | f :: l, fns, x, n, h => by
    rcases notes_some l (note fns f) x n h with ⟨g, hg, h1⟩ | h1
    · exact .inl ⟨g, List.mem_cons_of_mem _ hg, h1⟩
    · unfold note at h1
      by_cases e : x = f.1
      · rw [if_pos e] at h1
        injection h1 with h1
        exact .inl ⟨f, List.mem_cons_self, e.symm, h1⟩
      · rw [if_neg e] at h1
        exact .inr h1
theorem bodies_at {k : Nat} {fns : ByteArray → Option Int} : ∀ (l : List (Fn k)), bodies fns l = 0 → ∀ f ∈ l, term fns k (with' (fun _ => 0) f.2.1) f.2.2 0 = 0
  | [], _, f, hf => by simp at hf
  | a :: l, h, f, hf => by
    simp only [bodies] at h
    obtain ⟨h0, h1⟩ := if_zero h (fun e => e)
    rcases List.mem_cons.1 hf with rfl | hf
    · exact h0
    · exact bodies_at l h1 f hf
theorem heads_at {k : Nat} : ∀ (l : List (Fn k)) (fns : ByteArray → Option Int), heads fns l = 0 → ∀ f ∈ l, unlike f.2.1 = true ∧ f.2.1.length ≤ 6 ∧ fns f.1 = none
  | [], _, _, f, hf => by simp at hf
  | a :: l, fns, h, f, hf => by
    simp only [heads] at h
    obtain ⟨h0, h1⟩ := if_zero h (fun e => e)
    unfold head at h0
    obtain ⟨h2, h3⟩ := if_not h0 (by decide)
    obtain ⟨h4, _⟩ := if_not h3 (by decide)
    rcases List.mem_cons.1 hf with rfl | hf
    · refine ⟨?_, by omega, ?_⟩
      · cases hu : unlike f.2.1 with
        | true => rfl
        | false => exact absurd (Or.inr (Or.inr hu)) h2
      · cases hu : fns f.1 with
        | none => rfl
        | some n => exact absurd (Or.inl (by rw [hu]; rfl)) h2
    · obtain ⟨h5, h6, h7⟩ := heads_at l _ h1 f hf
      refine ⟨h5, h6, ?_⟩
      unfold note at h7
      by_cases e : f.1 = a.1
      · rw [if_pos e] at h7; exact absurd h7 (by simp)
      · rw [if_neg e] at h7; exact h7

/-- A right program, laid open. -/
structure RightP {k : Nat} (l : List (Fn k)) : Prop where
  body : ∀ f ∈ l, term (notes (fun _ => none) l) k (with' (fun _ => 0) f.2.1) f.2.2 0 = 0
  params : ∀ f ∈ l, unlike f.2.1 = true ∧ f.2.1.length ≤ 6
  there : ∀ x n, notes (fun _ => none) l x = some n → ∃ f ∈ l, f.1 = x ∧ (f.2.1.length : Int) = n

theorem rightP_of {k : Nat} {l : List (Fn k)} (h : check l = 0) : RightP l := by
  unfold check at h
  obtain ⟨_, h⟩ := if_not h (by decide)
  obtain ⟨h1, h2⟩ := if_zero h (fun e => e)
  refine ⟨bodies_at l h2, fun f hf => ⟨(heads_at l _ h1 f hf).1, (heads_at l _ h1 f hf).2.1⟩, fun x n hx => ?_⟩
  rcases notes_some l _ x n hx with h | h
  · exact h
  · exact absurd h (by simp)

/-! What is not called is no matter. -/
theorem pick_some {k : Nat} {l : List (Fun k)} {x : ByteArray} {n : Nat} (h : ∃ f ∈ l, f.1 = x ∧ f.2.1.length = n) : ∃ f, pick l x n = some f := by
  obtain ⟨f, hf, h1, h2⟩ := h
  have : (l.find? fun f => decide (f.1 = x) && decide (f.2.1.length = n)).isSome = true := by
    rw [List.find?_isSome]
    exact ⟨f, hf, by simp [h1, h2]⟩
  exact Option.isSome_iff_exists.1 this
theorem pick_more {k : Nat} {l : List (Fun k)} {m : Fun k} {x : ByteArray} {n : Nat} {f : Fun k} (h : pick l x n = some f) : pick (l ++ [m]) x n = some f := by
  unfold pick at h ⊢
  rw [List.find?_append, h]; rfl
theorem pick_other {k : Nat} {l : List (Fun k)} {m : Fun k} {x : ByteArray} {n : Nat} (h : m.1 ≠ x) : pick (l ++ [m]) x n = pick l x n := by
  unfold pick
  rw [List.find?_append]
  have : List.find? (fun f : Fun k => decide (f.1 = x) && decide (f.2.1.length = n)) [m] = none := by simp [h]
  rw [this, Option.or_none]

theorem evL_same {α : Type} {E E' : α → Nat → Out} : ∀ (l : List α) (c : Nat), (∀ a ∈ l, ∀ c, E' a c = E a c) → evL E' l c = evL E l c
  | [], _, _ => rfl
  | a :: l, c, h => by
    have ih := fun c => evL_same l c (fun b hb => h b (List.mem_cons_of_mem _ hb))
    simp only [evL]
    rw [h a List.mem_cons_self c, ih]

theorem evL_length {α : Type} {E : α → Nat → Out} : ∀ (l : List α) (c : Nat), (evL E l c).2.1 = 0 → (evL E l c).1.length = l.length
  | [], _, _ => rfl
  | a :: l, c, h => by
    simp only [evL] at h ⊢
    by_cases h0 : (E a c).e = 0
    · rw [if_pos h0] at h ⊢
      by_cases h1 : (evL E l (E a c).c).2.1 = 0
      · rw [if_pos h1]
        simp [evL_length l _ h1]
      · rw [if_neg h1] at h; exact absurd h h1
    · rw [if_neg h0] at h; exact absurd h h0

theorem ev_same {K : Nat} {l : List (Fn K)} (hl : RightP l) {call call' : ByteArray → List V → Nat → Out} (hc : ∀ n vs c, (∃ f, pick l n vs.length = some f) → call' n vs c = call n vs c) :
    ∀ (k : Nat) (cn : Cnt) (d : Nat) (env : Env) (t : TT k) (c : Nat), term (notes (fun _ => none) l) k cn t d = 0 → ev call' k env t c = ev call k env t c
  | 0, _, _, _, _, _, _ => rfl
  | k + 1, cn, d, env, t, c, h => by
    have ih := ev_same hl hc k
    have R := right_of (show termN _ (term (notes (fun _ => none) l) k) cn t d = 0 from h)
    have hmem : ∀ env, ∀ a ∈ t.args, ∀ c, ev call' k env a c = ev call k env a c := by
      intro env a ha c
      obtain ⟨j, hj, rfl⟩ := List.getElem_of_mem ha
      exact ih _ _ env _ c (R.args j hj)
    show evN call' (ev call' k) env t c = evN call (ev call k) env t c
    unfold evN
    by_cases h1 : t.kind = 1
    · rw [if_pos h1, if_pos h1]
    rw [if_neg h1, if_neg h1]
    by_cases h2 : t.kind = 2
    · rw [if_pos h2, if_pos h2]
    rw [if_neg h2, if_neg h2]
    by_cases h6 : t.kind = 6
    · rw [if_pos h6, if_pos h6]
      unfold evLet
      split
      · next a b hab =>
        rw [hmem env a (by rw [hab]; simp), hmem _ b (by rw [hab]; simp)]
      · rfl
    rw [if_neg h6, if_neg h6]
    rw [evL_same (E' := ev call' k env) (E := ev call k env) t.args c (hmem env)]
    unfold evOf
    by_cases h0 : (evL (ev call k env) t.args c).2.1 = 0
    · rw [if_pos h0, if_pos h0]
      by_cases h3 : t.kind = 3
      · rw [if_pos h3, if_pos h3]
      rw [if_neg h3, if_neg h3]
      by_cases h4 : t.kind = 4
      · rw [if_pos h4, if_pos h4]
        refine hc _ _ _ ?_
        rw [evL_length _ _ h0]
        obtain ⟨f, hf, h5, h7⟩ := hl.there _ _ (R.call h4)
        exact pick_some ⟨f, hf, h5, by omega⟩
      rw [if_neg h4, if_neg h4]
      by_cases h5 : t.kind = 5
      · rw [if_pos h5, if_pos h5]
      rw [if_neg h5, if_neg h5]
      by_cases h7 : t.kind = 7
      · rw [if_pos h7, if_pos h7]
        unfold evMatch
        split
        · split
          · split
            · next a hfind =>
              rw [ih _ _ _ _ _ (R.cases h7 _ (List.mem_of_find?_eq_some hfind)).1]
            · rfl
          · rfl
        · rfl
      rw [if_neg h7, if_neg h7]
    · rw [if_neg h0, if_neg h0]

theorem call_same {K : Nat} {l : List (Fn K)} (hl : RightP l) (m : Fn K) (F : Nat) : ∀ (D : Nat) (n : ByteArray) (vs : List V) (c : Nat), (m.1 ≠ n ∨ ∃ f, pick l n vs.length = some f) → call (l ++ [m]) F D n vs c = call l F D n vs c
  | 0, n, vs, c, h => by
    have hp : pick (l ++ [m]) n vs.length = pick l n vs.length := by
      rcases h with h | ⟨f, h⟩
      · exact pick_other h
      · rw [h]; exact pick_more h
    simp only [call]
    rw [hp]
  | D + 1, n, vs, c, h => by
    have hp : pick (l ++ [m]) n vs.length = pick l n vs.length := by
      rcases h with h | ⟨f, h⟩
      · exact pick_other h
      · rw [h]; exact pick_more h
    simp only [call]
    rw [hp]
    split
    · rfl
    · next f hf =>
      split
      · rfl
      · refine ev_same hl (fun n vs c hx => call_same hl m F D n vs c (.inr hx)) K _ 0 _ _ _ (hl.body f ?_)
        unfold pick at hf
        exact List.mem_of_find?_eq_some hf
theorem run_same {K : Nat} {l : List (Fn K)} (hl : check l = 0) (m : Fn K) (name : ByteArray) (args : List Int) (fuel : Int) (h : m.1 ≠ name) : run (l ++ [m]) name args fuel = run l name args fuel := by
  unfold run
  rw [call_same (rightP_of hl) m _ _ _ _ _ (.inl h)]

end Go.Proofs.YtdgmengfdfkgaabDoor.Pu
