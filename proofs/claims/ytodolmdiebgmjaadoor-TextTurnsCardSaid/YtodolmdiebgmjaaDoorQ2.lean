/- What was read right is read the same with more words behind. No program in it. -/
import Derived.Test.YtodolmdiebgmjaaDoorQ1
namespace Go.Proofs.YtodolmdiebgmjaaDoor.Pu

def St.ext (s : St) (x : List ByteArray) : St := ⟨s.ws ++ x, s.err⟩

/-- Read right, it was right before; and with more words behind it is read the same. -/
def ExtS (f : St → St) : Prop := ∀ s, (f s).err = 0 → s.err = 0 ∧ ∀ x, f (s.ext x) = (f s).ext x
def ExtP {α : Type} (g : St → α × St) : Prop := ∀ s, (g s).2.err = 0 → s.err = 0 ∧ ∀ x, g (s.ext x) = ((g s).1, (g s).2.ext x)

theorem fail_err (c : Int) (hc : c ≠ 0) (s : St) : (fail c s).err ≠ 0 := by
  unfold fail; dsimp only; split <;> assumption
theorem next_ext : ExtP next := by
  rintro ⟨ws, e⟩ h
  cases ws with
  | nil => exact absurd h (fail_err 8 (by decide) _)
  | cons w r => exact ⟨h, fun x => rfl⟩
theorem next_pos {s : St} (h : (next s).2.err = 0) : 0 < s.ws.length := by
  obtain ⟨ws, e⟩ := s
  cases ws with
  | nil => exact absurd h (fail_err 8 (by decide) _)
  | cons w r => simp
theorem expect_ext (y : ByteArray) : ExtS (expect y) := by
  intro s h
  by_cases hb : ((next s).1.toList == y.toList) = true
  · have e : expect y s = (next s).2 := by unfold expect; rw [if_pos hb]
    rw [e] at h
    obtain ⟨h1, h2⟩ := next_ext s h
    refine ⟨h1, fun x => ?_⟩
    unfold expect; rw [h2 x]; dsimp only; rw [if_pos hb, if_pos hb]
  · have e : expect y s = fail 2 (next s).2 := by unfold expect; rw [if_neg hb]
    rw [e] at h
    exact absurd h (fail_err 2 (by decide) _)
theorem name_ext (y : ByteArray) : ExtS (name y) := by
  intro s h
  unfold name at h ⊢
  cases hb : isName y
  · rw [hb] at h; exact absurd h (fail_err 7 (by decide) _)
  · rw [hb] at h; exact ⟨h, fun x => rfl⟩
theorem more_ext : ExtP more := by
  rintro ⟨ws, e⟩ h
  cases ws with
  | nil => exact absurd h (fail_err 8 (by decide) _)
  | cons w r =>
    by_cases hb : (w.toList == [41]) = true
    · simp only [more, hb, if_true] at h
      refine ⟨h, fun x => ?_⟩
      simp only [St.ext, more, List.cons_append, hb, if_true]
    · have hb' : (w.toList == [41]) = false := by simpa using hb
      simp only [more, hb'] at h
      refine ⟨h, fun x => ?_⟩
      simp only [St.ext, more, List.cons_append, hb']; rfl
theorem tag_ext (y : ByteArray) : ExtP (tag y) := by
  intro s h
  unfold tag at h ⊢
  dsimp only at h ⊢
  cases hb : (tagOf y).2
  · rw [hb] at h; exact absurd h (fail_err 2 (by decide) _)
  · rw [hb] at h; exact ⟨h, fun x => rfl⟩
theorem leaf_ext {α : Type} (y : ByteArray) : ExtP (leaf (α := α) y) := by
  intro s h
  unfold leaf at h ⊢
  cases hb : (number y).2
  · rw [hb] at h
    obtain ⟨h1, h2⟩ := name_ext y s h
    refine ⟨h1, fun x => ?_⟩
    simp only [Bool.false_eq_true, if_false]; rw [h2 x]
  · rw [hb] at h; exact ⟨h, fun x => rfl⟩

/- Enough rounds are enough. -/
theorem namesTo_fuel : ∀ (n m : Nat) (s : St), s.ws.length < n → s.ws.length < m → namesTo n s = namesTo m s
  | 0, m, s, h, _ => by omega
  | n + 1, 0, s, _, h => by omega
  | n + 1, m + 1, s, h1, h2 => by
    unfold namesTo
    by_cases hm : (more s).1 = true
    · have hp := (more_true hm).2
      have hl := (name_suf (next s).1 (next s).2).length_le
      have hn := next_less hp
      rw [if_pos hm, if_pos hm, namesTo_fuel n m _ (by omega) (by omega)]
    · rw [if_neg hm, if_neg hm]
theorem terms_fuel {α : Type} {T : St → α × St} (hT : ∀ s, 0 < s.ws.length → (T s).2.ws.length + 1 ≤ s.ws.length) : ∀ (n m : Nat) (s : St), s.ws.length < n → s.ws.length < m → terms T n s = terms T m s
  | 0, m, s, h, _ => by omega
  | n + 1, 0, s, _, h => by omega
  | n + 1, m + 1, s, h1, h2 => by
    unfold terms
    by_cases hm : (more s).1 = true
    · obtain ⟨hs, hp⟩ := more_true hm
      rw [if_pos hm, if_pos hm, hs]
      have := hT s hp
      rw [terms_fuel hT n m _ (by omega) (by omega)]
    · rw [if_neg hm, if_neg hm]
theorem cases_fuel {α : Type} {T : St → α × St} (hT : Eats T) : ∀ (n m : Nat) (s : St), s.ws.length < n → s.ws.length < m → cases T n s = cases T m s
  | 0, m, s, h, _ => by omega
  | n + 1, 0, s, _, h => by omega
  | n + 1, m + 1, s, h1, h2 => by
    unfold cases
    by_cases hm : (more s).1 = true
    · obtain ⟨hs, hp⟩ := more_true hm
      rw [if_pos hm, if_pos hm, hs]
      have := case1_less hT hp
      rw [cases_fuel hT n m _ (by omega) (by omega)]
    · rw [if_neg hm, if_neg hm]

theorem namesTo_ext : ∀ n, ExtP (namesTo n)
  | 0 => fun s h => ⟨h, fun x => rfl⟩
  | n + 1 => fun s h => by
    by_cases hm : (more s).1 = true
    · rw [namesTo, if_pos hm] at h
      dsimp only at h
      obtain ⟨h1, h2⟩ := namesTo_ext n _ h
      obtain ⟨h3, h4⟩ := name_ext _ _ h1
      obtain ⟨h5, h6⟩ := next_ext _ h3
      obtain ⟨hs, _⟩ := more_true hm
      refine ⟨h5, fun x => ?_⟩
      have h7 := (more_ext s (by rw [hs]; exact h5)).2 x
      rw [namesTo, namesTo, h7]
      dsimp only
      rw [if_pos hm, if_pos hm, h6 x]
      dsimp only
      rw [h4 x, h2 x]
    · rw [namesTo, if_neg hm] at h
      dsimp only at h
      obtain ⟨h1, h2⟩ := more_ext s h
      refine ⟨h1, fun x => ?_⟩
      rw [namesTo, namesTo, h2 x]
      dsimp only
      rw [if_neg hm, if_neg hm]
theorem names_ext : ExtP names := by
  intro s h
  obtain ⟨h1, _⟩ := namesTo_ext _ _ h
  obtain ⟨h3, h4⟩ := expect_ext _ _ h1
  refine ⟨h3, fun x => ?_⟩
  unfold names
  have hl := (expect_suf ⟨#[40]⟩ (s.ext x)).length_le
  have hl2 := (expect_suf ⟨#[40]⟩ s).length_le
  rw [namesTo_fuel _ ((s.ext x).ws.length + s.ws.length + 2) _ (by omega) (by omega), h4 x]
  have h5 := namesTo_fuel (s.ws.length + 1) ((s.ext x).ws.length + s.ws.length + 2) (expect ⟨#[40]⟩ s) (by omega) (by omega)
  have h6 : (namesTo (s.ws.length + 1) (expect ⟨#[40]⟩ s)).2.err = 0 := h
  rw [h5] at h6 ⊢
  exact (namesTo_ext _ _ h6).2 x

theorem terms_ext {α : Type} {T : St → α × St} (hT : ExtP T) : ∀ n, ExtP (terms T n)
  | 0 => fun s h => ⟨h, fun x => rfl⟩
  | n + 1 => fun s h => by
    by_cases hm : (more s).1 = true
    · rw [terms, if_pos hm] at h
      dsimp only at h
      obtain ⟨h1, h2⟩ := terms_ext hT n _ h
      obtain ⟨h3, h4⟩ := hT _ h1
      obtain ⟨h5, h6⟩ := more_ext s h3
      refine ⟨h5, fun x => ?_⟩
      rw [terms, terms, h6 x]
      dsimp only
      rw [if_pos hm, if_pos hm, h4 x]
      dsimp only
      rw [h2 x]
    · rw [terms, if_neg hm] at h
      dsimp only at h
      obtain ⟨h1, h2⟩ := more_ext s h
      refine ⟨h1, fun x => ?_⟩
      rw [terms, terms, h2 x]
      dsimp only
      rw [if_neg hm, if_neg hm]
theorem two_ext {α : Type} {T : St → α × St} (hT : ExtP T) : ExtP (two T) := by
  intro s h
  unfold two at h ⊢
  dsimp only at h ⊢
  obtain ⟨h1, h2⟩ := expect_ext _ _ h
  obtain ⟨h3, h4⟩ := hT _ h1
  obtain ⟨h5, h6⟩ := hT _ h3
  refine ⟨h5, fun x => ?_⟩
  rw [h6 x]; dsimp only; rw [h4 x]; dsimp only; rw [h2 x]
theorem case1_ext {α : Type} {T : St → α × St} (hT : ExtP T) : ExtP (case1 T) := by
  intro s h
  unfold case1 at h ⊢
  dsimp only at h ⊢
  obtain ⟨h1, h2⟩ := expect_ext _ _ h
  obtain ⟨h3, h4⟩ := hT _ h1
  obtain ⟨h5, h6⟩ := names_ext _ h3
  obtain ⟨h7, h8⟩ := tag_ext _ _ h5
  obtain ⟨h9, h10⟩ := next_ext _ h7
  obtain ⟨h11, h12⟩ := expect_ext _ _ h9
  refine ⟨h11, fun x => ?_⟩
  rw [h12 x, h10 x]; dsimp only; rw [h8 x]; dsimp only; rw [h6 x]; dsimp only; rw [h4 x]; dsimp only; rw [h2 x]
theorem cases_ext {α : Type} {T : St → α × St} (hT : ExtP T) : ∀ n, ExtP (cases T n)
  | 0 => fun s h => ⟨h, fun x => rfl⟩
  | n + 1 => fun s h => by
    by_cases hm : (more s).1 = true
    · rw [cases, if_pos hm] at h
      dsimp only at h
      obtain ⟨h1, h2⟩ := cases_ext hT n _ h
      obtain ⟨h3, h4⟩ := case1_ext hT _ h1
      obtain ⟨h5, h6⟩ := more_ext s h3
      refine ⟨h5, fun x => ?_⟩
      rw [cases, cases, h6 x]
      dsimp only
      rw [if_pos hm, if_pos hm, h4 x]
      dsimp only
      rw [h2 x]
    · rw [cases, if_neg hm] at h
      dsimp only at h
      obtain ⟨h1, h2⟩ := more_ext s h
      refine ⟨h1, fun x => ?_⟩
      rw [cases, cases, h2 x]
      dsimp only
      rw [if_neg hm, if_neg hm]

/-- Terms that always take a word, if there is one. -/
def Less {α : Type} (T : St → α × St) : Prop := ∀ s, 0 < s.ws.length → (T s).2.ws.length + 1 ≤ s.ws.length

theorem terms_ext' {α : Type} {T : St → α × St} (hT : ExtP T) (hL : Less T) (s : St) (h : (terms T (s.ws.length + 1) s).2.err = 0) :
    s.err = 0 ∧ ∀ x, terms T ((s.ext x).ws.length + 1) (s.ext x) = ((terms T (s.ws.length + 1) s).1, (terms T (s.ws.length + 1) s).2.ext x) := by
  obtain ⟨h1, _⟩ := terms_ext hT _ _ h
  refine ⟨h1, fun x => ?_⟩
  have e := terms_fuel hL (s.ws.length + 1) ((s.ext x).ws.length + s.ws.length + 2) s (by omega) (by omega)
  rw [terms_fuel hL _ ((s.ext x).ws.length + s.ws.length + 2) (s.ext x) (by omega) (by omega)]
  rw [e] at h ⊢
  exact (terms_ext hT _ _ h).2 x
theorem cases_ext' {α : Type} {T : St → α × St} (hT : ExtP T) (hE : Eats T) (s : St) (h : (cases T (s.ws.length + 1) s).2.err = 0) :
    s.err = 0 ∧ ∀ x, cases T ((s.ext x).ws.length + 1) (s.ext x) = ((cases T (s.ws.length + 1) s).1, (cases T (s.ws.length + 1) s).2.ext x) := by
  obtain ⟨h1, _⟩ := cases_ext hT _ _ h
  refine ⟨h1, fun x => ?_⟩
  have e := cases_fuel hE (s.ws.length + 1) ((s.ext x).ws.length + s.ws.length + 2) s (by omega) (by omega)
  rw [cases_fuel hE _ ((s.ext x).ws.length + s.ws.length + 2) (s.ext x) (by omega) (by omega)]
  rw [e] at h ⊢
  exact (cases_ext hT _ _ h).2 x

theorem branch_ext {α : Type} {T : St → α × St} (hT : ExtP T) (hL : Less T) (hE : Eats T) : ExtP (branch T) := by
  intro s h
  unfold branch at h ⊢
  dsimp only at h ⊢
  by_cases c1 : Lib.hasPrefix (next s).1.data.toList [35] = true
  · rw [if_pos c1] at h
    dsimp only at h
    obtain ⟨h1, h2⟩ := terms_ext' hT hL _ h
    obtain ⟨h3, h4⟩ := tag_ext _ _ h1
    obtain ⟨h5, h6⟩ := next_ext _ h3
    refine ⟨h5, fun x => ?_⟩
    rw [h6 x]; dsimp only; rw [if_pos c1, if_pos c1, h4 x]; dsimp only; rw [h2 x]
  · rw [if_neg c1] at h
    by_cases c2 : ((next s).1.toList == [108, 101, 116]) = true
    · rw [if_pos c2] at h
      dsimp only at h
      obtain ⟨h1, h2⟩ := two_ext hT _ h
      obtain ⟨h3, h4⟩ := name_ext _ _ h1
      obtain ⟨h5, h6⟩ := next_ext _ h3
      obtain ⟨h7, h8⟩ := next_ext _ h5
      refine ⟨h7, fun x => ?_⟩
      rw [h8 x]; dsimp only; rw [if_neg c1, if_neg c1, if_pos c2, if_pos c2, h6 x]; dsimp only; rw [h4 x, h2 x]
    · rw [if_neg c2] at h
      by_cases c3 : ((next s).1.toList == [109, 97, 116, 99, 104]) = true
      · rw [if_pos c3] at h
        dsimp only at h
        obtain ⟨h1, h2⟩ := cases_ext' hT hE _ h
        obtain ⟨h3, h4⟩ := hT _ h1
        obtain ⟨h5, h6⟩ := next_ext _ h3
        refine ⟨h5, fun x => ?_⟩
        rw [h6 x]; dsimp only; rw [if_neg c1, if_neg c1, if_neg c2, if_neg c2, if_pos c3, if_pos c3, h4 x]; dsimp only; rw [h2 x]
      · rw [if_neg c3] at h
        by_cases c4 : (primitive (next s).1 != 0) = true
        · rw [if_pos c4] at h
          dsimp only at h
          obtain ⟨h1, h2⟩ := two_ext hT _ h
          obtain ⟨h3, h4⟩ := next_ext _ h1
          refine ⟨h3, fun x => ?_⟩
          rw [h4 x]; dsimp only; rw [if_neg c1, if_neg c1, if_neg c2, if_neg c2, if_neg c3, if_neg c3, if_pos c4, if_pos c4, h2 x]
        · rw [if_neg c4] at h
          dsimp only at h
          obtain ⟨h1, h2⟩ := terms_ext' hT hL _ h
          obtain ⟨h3, h4⟩ := name_ext _ _ h1
          obtain ⟨h5, h6⟩ := next_ext _ h3
          refine ⟨h5, fun x => ?_⟩
          rw [h6 x]; dsimp only; rw [if_neg c1, if_neg c1, if_neg c2, if_neg c2, if_neg c3, if_neg c3, if_neg c4, if_neg c4, h4 x, h2 x]

theorem termN_ext {α : Type} {T : St → α × St} (hT : ExtP (branch T)) (d : Bool) : ExtP (termN T d) := by
  intro s h
  unfold termN at h ⊢
  dsimp only at h ⊢
  by_cases c1 : ((next s).1.toList == [40]) = true
  · rw [if_pos c1] at h
    obtain ⟨h1, h2⟩ := hT _ h
    cases d with
    | true => rw [if_pos rfl] at h1; exact absurd h1 (fail_err 9 (by decide) _)
    | false =>
      rw [if_neg (by decide)] at h1 h2
      obtain ⟨h3, h4⟩ := next_ext _ h1
      refine ⟨h3, fun x => ?_⟩
      rw [h4 x]; dsimp only; rw [if_pos c1, if_pos c1, if_neg (by decide), if_neg (by decide), h2 x]
  · rw [if_neg c1] at h
    dsimp only at h
    cases d with
    | true => rw [if_pos rfl] at h; exact absurd h (fail_err 9 (by decide) _)
    | false =>
      rw [if_neg (by decide)] at h
      obtain ⟨h1, h2⟩ := leaf_ext _ _ h
      obtain ⟨h3, h4⟩ := next_ext _ h1
      refine ⟨h3, fun x => ?_⟩
      rw [h4 x]; dsimp only; rw [if_neg c1, if_neg c1, if_neg (by decide), if_neg (by decide), h2 x]

theorem empty_toList : (⟨#[]⟩ : ByteArray).toList = [] := ByteArray.toList_mk []

/-- With no word left nothing comes right. -/
theorem branch_none {α : Type} (T : St → α × St) (s : St) (hw : s.ws = []) : (branch T s).2.err ≠ 0 := by
  obtain ⟨ws, e⟩ := s
  have hw : ws = [] := hw
  subst hw
  have e1 : next ⟨[], e⟩ = (⟨#[]⟩, fail 8 ⟨[], e⟩) := rfl
  have e2 : isName ⟨#[]⟩ = false := rfl
  unfold branch
  dsimp only
  rw [e1]
  dsimp only
  rw [if_neg (by decide), if_neg (by rw [empty_toList]; decide), if_neg (by rw [empty_toList]; decide), if_neg (by simp [primitive])]
  dsimp only
  unfold name
  rw [e2, if_neg (by decide)]
  have e3 : (fail 7 (fail 8 ⟨[], e⟩)).ws = [] := rfl
  have hm : ∀ s : St, s.ws = [] → (more s).1 = false ∧ (more s).2 = fail 8 s := by
    rintro ⟨ws, e⟩ h
    have h : ws = [] := h
    subst h; exact ⟨rfl, rfl⟩
  rw [terms, if_neg (by rw [(hm _ e3).1]; decide)]
  dsimp only
  rw [(hm _ e3).2]
  exact fail_err 8 (by decide) _

theorem term_ext : ∀ k, ExtP (term (k + 1))
  | 0 => fun s h => by
    exfalso
    have h : (termN (term 0) true s).2.err = 0 := h
    unfold termN at h
    dsimp only at h
    by_cases c1 : ((next s).1.toList == [40]) = true
    · rw [if_pos c1, if_pos rfl] at h
      exact branch_none _ _ rfl h
    · rw [if_neg c1] at h
      dsimp only at h
      rw [if_pos rfl] at h
      exact fail_err 9 (by decide) _ h
  | k + 1 => termN_ext (branch_ext (term_ext k) (fun s hs => term_less (k + 1) (by omega) s hs) (term_suf (k + 1))) _

theorem function_ext : ExtP function := by
  intro s h
  unfold function at h ⊢
  dsimp only at h ⊢
  obtain ⟨h1, h2⟩ := expect_ext _ _ h
  obtain ⟨h3, h4⟩ := term_ext 25 _ h1
  obtain ⟨h5, h6⟩ := names_ext _ h3
  obtain ⟨h7, h8⟩ := name_ext _ _ h5
  obtain ⟨h9, h10⟩ := next_ext _ h7
  obtain ⟨h11, h12⟩ := expect_ext _ _ h9
  obtain ⟨h13, h14⟩ := expect_ext _ _ h11
  refine ⟨h13, fun x => ?_⟩
  rw [h14 x, h12 x, h10 x]; dsimp only; rw [h8 x, h6 x]; dsimp only; rw [h4 x]; dsimp only; rw [h2 x]

theorem functions_err : ∀ n s, (functions n s).2.err = 0 → s.err = 0
  | 0, _, h => h
  | _ + 1, ⟨[], _⟩, h => h
  | n + 1, ⟨_ :: _, _⟩, h => (function_ext _ (functions_err n _ h)).1

theorem functions_fuel : ∀ (n m : Nat) (s : St), s.ws.length < n → s.ws.length < m → functions n s = functions m s
  | 0, _, _, h, _ => by omega
  | _ + 1, 0, _, _, h => by omega
  | n + 1, m + 1, ⟨[], e⟩, _, _ => rfl
  | n + 1, m + 1, ⟨w :: r, e⟩, h1, h2 => by
    have hl := function_less (s := ⟨w :: r, e⟩) (by simp)
    simp only [List.length_cons] at h1 h2 hl
    show ((function ⟨w :: r, e⟩).1 :: (functions n (function ⟨w :: r, e⟩).2).1, (functions n (function ⟨w :: r, e⟩).2).2) = ((function ⟨w :: r, e⟩).1 :: (functions m (function ⟨w :: r, e⟩).2).1, (functions m (function ⟨w :: r, e⟩).2).2)
    rw [functions_fuel n m _ (by omega) (by omega)]

theorem functions_end : ∀ (n : Nat) (s : St), s.ws.length < n → (functions n s).2.err = 0 → (functions n s).2.ws = []
  | 0, _, h, _ => by omega
  | n + 1, ⟨[], e⟩, _, _ => rfl
  | n + 1, ⟨w :: r, e⟩, h, he => by
    have hl := function_less (s := ⟨w :: r, e⟩) (by simp)
    simp only [List.length_cons] at h hl
    exact functions_end n _ (by omega) he

theorem functions_app (ws2 : List ByteArray) : ∀ (n : Nat) (s : St), s.ws.length < n → (functions n s).2.err = 0 → ∀ m, (s.ext ws2).ws.length < m →
    functions m (s.ext ws2) = ((functions n s).1 ++ (functions m ⟨ws2, 0⟩).1, (functions m ⟨ws2, 0⟩).2)
  | 0, _, h, _, _, _ => by omega
  | n + 1, ⟨[], e⟩, _, he, m, _ => by
    have he : e = 0 := he
    subst he
    simp [functions, St.ext]
  | n + 1, ⟨w :: r, e⟩, h, he, 0, hm => by omega
  | n + 1, ⟨w :: r, e⟩, h, he, m + 1, hm => by
    have hl := function_less (s := ⟨w :: r, e⟩) (by simp)
    simp only [List.length_cons, St.ext, List.cons_append, List.length_append] at h hl hm
    have he' : (functions n (function ⟨w :: r, e⟩).2).2.err = 0 := he
    obtain ⟨h1, h2⟩ := function_ext _ (functions_err n _ he')
    have h3 := h2 ws2
    show ((function (St.ext ⟨w :: r, e⟩ ws2)).1 :: (functions m (function (St.ext ⟨w :: r, e⟩ ws2)).2).1, (functions m (function (St.ext ⟨w :: r, e⟩ ws2)).2).2) = ((function ⟨w :: r, e⟩).1 :: (functions n (function ⟨w :: r, e⟩).2).1 ++ (functions (m + 1) ⟨ws2, 0⟩).1, (functions (m + 1) ⟨ws2, 0⟩).2)
    rw [h3]
    dsimp only
    have ih := functions_app ws2 n _ (by omega) he' m (by simp only [St.ext, List.length_append]; omega)
    rw [ih, functions_fuel m (m + 1) ⟨ws2, 0⟩ (by show ws2.length < m; omega) (by show ws2.length < m + 1; omega)]
    rfl

/-- ONE BEHIND THE OTHER. -/
theorem parse_line (s t : ByteArray) (hs : (parse s).2 = 0) (ht : (parse t).2 = 0) (hl : s.size + t.size + 1 ≤ 1500) : parse (s ++ ⟨#[10]⟩ ++ t) = ((parse s).1 ++ (parse t).1, 0) := by
  have e1 : parse s = parseWs (split s) := by unfold parse; rw [if_neg (by omega)]
  have e2 : parse t = parseWs (split t) := by unfold parse; rw [if_neg (by omega)]
  have e3 : parse (s ++ ⟨#[10]⟩ ++ t) = parseWs (split s ++ split t) := by
    unfold parse; rw [if_neg (by simp only [ByteArray.size_append]; show ¬ 1500 < s.size + 1 + t.size; omega), split_line]
  rw [e1] at hs ⊢
  rw [e2] at ht ⊢
  rw [e3]
  have ok : ∀ ws, (parseWs ws).2 = 0 → (functions (ws.length + 1) ⟨ws, 0⟩).2.err = 0 ∧ parseWs ws = ((functions (ws.length + 1) ⟨ws, 0⟩).1, 0) := by
    intro ws h
    unfold parseWs at h ⊢
    by_cases c : (functions (ws.length + 1) ⟨ws, 0⟩).2.err = 0
    · exact ⟨c, by rw [if_pos c]⟩
    · rw [if_neg c] at h; exact absurd h c
  obtain ⟨o1, p1⟩ := ok _ hs
  obtain ⟨o2, p2⟩ := ok _ ht
  rw [p1, p2]
  have ha := functions_app (split t) _ ⟨split s, 0⟩ (by simp) o1 ((split s ++ split t).length + 1) (by simp [St.ext])
  have hf := functions_fuel ((split t).length + 1) ((split s ++ split t).length + 1) ⟨split t, 0⟩ (by simp) (by simp; omega)
  rw [← hf] at ha
  unfold parseWs
  have ha' : functions ((split s ++ split t).length + 1) ⟨split s ++ split t, 0⟩ = _ := ha
  rw [ha']
  dsimp only
  rw [if_pos o2]

end Go.Proofs.YtodolmdiebgmjaaDoor.Pu
