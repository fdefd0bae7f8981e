/- What was read right is, word for word, the words of what came of it. No program in it. -/
import Derived.Test.YtodolmdiebgmjaaDoorQ5
namespace Go.Proofs.YtodolmdiebgmjaaDoor.Pu

abbrev Ws := List (List UInt8)

def brW (l : List ByteArray) : Ws := [40] :: (l.map (·.data.toList) ++ [[41]])
def headW {α : Type} (t : Node α) : Ws :=
  if t.kind = 3 then [tagB t.n] else if t.kind = 4 then [t.name.data.toList] else if t.kind = 5 then [sign t.n]
  else if t.kind = 6 then [[108, 101, 116], t.name.data.toList] else [[109, 97, 116, 99, 104]]
def argsW {α : Type} (W : α → Ws) (l : List α) : Ws := (l.map W).flatten
def caseW {α : Type} (W : α → Ws) (c : Int × List ByteArray × α) : Ws := [40] :: tagB c.1 :: (brW c.2.1 ++ (W c.2.2 ++ [[41]]))
def casesW {α : Type} (W : α → Ws) (l : List (Int × List ByteArray × α)) : Ws := (l.map (caseW W)).flatten
def wordsN {α : Type} (W : α → Ws) (t : Node α) : Ws :=
  if t.kind = 1 then [t.name.data.toList] else if t.kind = 2 then [Lib.itoa t.n]
  else [40] :: (headW t ++ (argsW W t.args ++ ((if t.kind = 7 then casesW W t.cases else []) ++ [[41]])))
/-- The words of a term. -/
def wordsT : (k : Nat) → TT k → Ws
  | 0, _ => []
  | k + 1, t => wordsN (wordsT k) t
def fnW (f : ByteArray × List ByteArray × TT 26) : Ws := [40] :: [102, 110] :: f.1.data.toList :: (brW f.2.1 ++ (wordsT 26 f.2.2 ++ [[41]]))
def allW (l : List (ByteArray × List ByteArray × TT 26)) : Ws := (l.map fnW).flatten

/-- What stands for a name is one. -/
def WellN {α : Type} (G : α → Prop) (t : Node α) : Prop :=
  ((t.kind = 1 ∨ t.kind = 4 ∨ t.kind = 6) → isName t.name = true) ∧ (t.kind = 5 → 1 ≤ t.n ∧ t.n ≤ 5) ∧ (∀ a, a ∈ t.args → G a) ∧ (∀ c, c ∈ t.cases → (∀ x, x ∈ c.2.1 → isName x = true) ∧ G c.2.2)
def Well : (k : Nat) → TT k → Prop
  | 0, _ => False
  | k + 1, t => WellN (Well k) t
def WellF (f : ByteArray × List ByteArray × TT 26) : Prop := isName f.1 = true ∧ (∀ x, x ∈ f.2.1 → isName x = true) ∧ Well 26 f.2.2

theorem toList_eq (x : ByteArray) : x.toList = x.data.toList := by
  have h := mk_list x.data.toList
  rwa [mkB_data] at h
theorem eq_of_toList {x y : ByteArray} (h : (x.toList == y.toList) = true) : x = y := by
  have h := eq_of_beq h
  rw [toList_eq, toList_eq] at h
  exact (mkB_data x).symm.trans ((congrArg mkB h).trans (mkB_data y))
theorem eq_mk {x : ByteArray} {l : List UInt8} (h : x.data.toList = l) : x = mkB l := by rw [← h, mkB_data]
theorem map_back (l : List ByteArray) : (l.map (·.data.toList)).map mkB = l := by
  rw [List.map_map]; conv => rhs; rw [← List.map_id l]
  exact List.map_congr_left fun x _ => mkB_data x

theorem next_rd {s : St} (h : (next s).2.err = 0) : s.ws = (next s).1 :: (next s).2.ws := by
  obtain ⟨ws, e⟩ := s
  cases ws with
  | nil => exact absurd h (fail_err 8 (by decide) _)
  | cons w r => rfl
theorem expect_rd {y : ByteArray} {s : St} (h : (expect y s).err = 0) : s.ws = y :: (expect y s).ws := by
  by_cases hb : ((next s).1.toList == y.toList) = true
  · have e : expect y s = (next s).2 := by unfold expect; rw [if_pos hb]
    rw [e] at h ⊢
    have h1 := next_rd h
    rw [eq_of_toList hb] at h1
    exact h1
  · have e : expect y s = fail 2 (next s).2 := by unfold expect; rw [if_neg hb]
    rw [e] at h
    exact absurd h (fail_err 2 (by decide) _)
theorem name_rd {x : ByteArray} {s : St} (h : (name x s).err = 0) : isName x = true ∧ name x s = s := by
  unfold name at h ⊢
  cases hb : isName x
  · rw [hb] at h; exact absurd h (fail_err 7 (by decide) _)
  · exact ⟨rfl, rfl⟩
theorem more_rd {s : St} (hm : ¬ (more s).1 = true) (h : (more s).2.err = 0) : s.ws = mkB [41] :: (more s).2.ws := by
  obtain ⟨ws, e⟩ := s
  cases ws with
  | nil => exact absurd h (fail_err 8 (by decide) _)
  | cons w r =>
    by_cases hb : (w.toList == [41]) = true
    · have hw : w = mkB [41] := eq_of_toList (by rw [mk_list]; exact hb)
      simp only [more, hb, if_true]
      rw [hw]
    · have hb' : (w.toList == [41]) = false := by simpa using hb
      exfalso; apply hm
      simp only [more, hb']; rfl
theorem number_word {x : ByteArray} (h : (number x).2 = true) : Lib.itoa (number x).1 = x.data.toList := by
  unfold number at h ⊢
  cases hh : Lib.atoiAll x.data.toList with
  | ok v =>
    rw [hh] at h
    dsimp only at h ⊢
    rw [← toList_eq]
    exact eq_of_beq h
  | range => rw [hh] at h; cases h
  | _ => rw [hh] at h; cases h
theorem tagOf_word {x : ByteArray} (h : (tagOf x).2 = true) : tagB (tagOf x).1 = x.data.toList := by
  unfold tagOf at h ⊢
  dsimp only at h ⊢
  rw [Bool.and_eq_true] at h
  obtain ⟨h1, h2⟩ := h
  unfold tagB
  rw [number_word h2]
  show 35 :: (mkB (Lib.trimPrefix x.data.toList [35])).data.toList = _
  rw [data_mkB, Lib.trimPrefix, if_pos h1]
  obtain ⟨r, hr⟩ := List.isPrefixOf_iff_prefix.1 h1
  rw [← hr]; rfl
theorem tag_rd {x : ByteArray} {s : St} (h : (tag x s).2.err = 0) : (tag x s).2 = s ∧ x = mkB (tagB (tag x s).1) := by
  unfold tag at h ⊢
  dsimp only at h ⊢
  cases hb : (tagOf x).2
  · rw [hb] at h; exact absurd h (fail_err 2 (by decide) _)
  · exact ⟨rfl, eq_mk (tagOf_word hb).symm⟩
theorem leaf_rd {α : Type} (W : α → Ws) (G : α → Prop) {x : ByteArray} {s : St} (h : (leaf (α := α) x s).2.err = 0) :
    (leaf (α := α) x s).2 = s ∧ x = mkB (wordsN W (leaf (α := α) x s).1).flatten ∧ (wordsN W (leaf (α := α) x s).1) = [(wordsN W (leaf (α := α) x s).1).flatten] ∧ WellN G (leaf (α := α) x s).1 := by
  unfold leaf at h ⊢
  cases hb : (number x).2
  · rw [hb, if_neg (by decide)] at h
    obtain ⟨h1, h2⟩ := name_rd h
    rw [if_neg (by decide)]
    refine ⟨h2, ?_, ?_, ?_⟩
    · simp [wordsN, mkB_data]
    · simp [wordsN]
    · exact ⟨fun _ => h1, by simp, by simp, by simp⟩
  · rw [if_pos rfl]
    have h1 := number_word hb
    refine ⟨rfl, ?_, ?_, ?_⟩
    · simp [wordsN, h1, mkB_data]
    · simp [wordsN]
    · exact ⟨by simp, by simp, by simp, by simp⟩
theorem namesTo_rd : ∀ (n : Nat) (s : St), s.ws.length < n → (namesTo n s).2.err = 0 → (∀ x, x ∈ (namesTo n s).1 → isName x = true) ∧ s.ws = (namesTo n s).1 ++ mkB [41] :: (namesTo n s).2.ws
  | 0, s, h, _ => by omega
  | n + 1, s, hl, h => by
    by_cases hm : (more s).1 = true
    · rw [namesTo, if_pos hm] at h ⊢
      dsimp only at h ⊢
      have h1 := (namesTo_ext n _ h).1
      obtain ⟨h2, h3⟩ := name_rd h1
      rw [h3] at h h1 ⊢
      have h4 := next_rd h1
      have hp := next_less (more_true hm).2
      obtain ⟨i1, i2⟩ := namesTo_rd n _ (by omega) h
      refine ⟨?_, h4.trans (congrArg (_ :: ·) i2)⟩
      intro x hx
      simp only [List.mem_cons] at hx
      rcases hx with rfl | hx
      · exact h2
      · exact i1 x hx
    · rw [namesTo, if_neg hm] at h ⊢
      exact ⟨by simp, more_rd hm h⟩
theorem names_rd {s : St} (h : (names s).2.err = 0) : (∀ x, x ∈ (names s).1 → isName x = true) ∧ s.ws = (brW (names s).1).map mkB ++ (names s).2.ws := by
  unfold names at h ⊢
  have h2 := expect_rd (namesTo_ext _ _ h).1
  obtain ⟨i1, i2⟩ := namesTo_rd _ _ (by have := (expect_suf ⟨#[40]⟩ s).length_le; omega) h
  refine ⟨i1, h2.trans ?_⟩
  rw [i2]
  simp only [brW, List.map_cons, List.map_append, map_back, List.map_nil, List.append_assoc, List.cons_append, List.nil_append]
  rfl

/-- What a reading takes is what it gives, in words. -/
def Rd {α : Type} (W : α → Ws) (G : α → Prop) (T : St → α × St) : Prop := ∀ s, (T s).2.err = 0 → G (T s).1 ∧ s.ws = (W (T s).1).map mkB ++ (T s).2.ws

theorem terms_rd {α : Type} {W : α → Ws} {G : α → Prop} {T : St → α × St} (hE : ExtP T) (hT : Rd W G T) (hL : Less T) : ∀ (n : Nat) (s : St), s.ws.length < n → (terms T n s).2.err = 0 →
    (∀ a, a ∈ (terms T n s).1 → G a) ∧ s.ws = (argsW W (terms T n s).1).map mkB ++ mkB [41] :: (terms T n s).2.ws
  | 0, s, h, _ => by omega
  | n + 1, s, hl, h => by
    by_cases hm : (more s).1 = true
    · rw [terms, if_pos hm] at h ⊢
      dsimp only at h ⊢
      obtain ⟨hs, hp⟩ := more_true hm
      rw [hs] at h ⊢
      have h1 := (terms_ext hE n _ h).1
      obtain ⟨g1, g2⟩ := hT s h1
      have := hL s hp
      obtain ⟨i1, i2⟩ := terms_rd hE hT hL n _ (by omega) h
      refine ⟨?_, g2.trans ?_⟩
      · intro a ha
        simp only [List.mem_cons] at ha
        rcases ha with rfl | ha
        · exact g1
        · exact i1 a ha
      · rw [i2]
        simp only [argsW, List.map_cons, List.flatten_cons, List.map_append, List.append_assoc]
    · rw [terms, if_neg hm] at h ⊢
      exact ⟨by simp, more_rd hm h⟩
theorem two_rd {α : Type} {W : α → Ws} {G : α → Prop} {T : St → α × St} (hE : ExtP T) (hT : Rd W G T) (s : St) (h : (two T s).2.err = 0) :
    (∀ a, a ∈ (two T s).1 → G a) ∧ s.ws = (argsW W (two T s).1).map mkB ++ mkB [41] :: (two T s).2.ws := by
  unfold two at h ⊢
  dsimp only at h ⊢
  have h1 := (expect_ext _ _ h).1
  have h2 := expect_rd h
  obtain ⟨a1, a2⟩ := hT _ h1
  obtain ⟨b1, b2⟩ := hT _ (hE _ h1).1
  refine ⟨?_, b2.trans ?_⟩
  · intro a ha
    simp only [List.mem_cons, List.not_mem_nil, or_false] at ha
    rcases ha with rfl | rfl
    · exact b1
    · exact a1
  · rw [a2, h2]
    simp only [argsW, List.map_cons, List.flatten_cons, List.map_append, List.append_assoc, List.map_nil, List.flatten_nil, List.nil_append]
    rfl
theorem case1_rd {α : Type} {W : α → Ws} {G : α → Prop} {T : St → α × St} (hE : ExtP T) (hT : Rd W G T) (s : St) (h : (case1 T s).2.err = 0) :
    ((∀ x, x ∈ (case1 T s).1.2.1 → isName x = true) ∧ G (case1 T s).1.2.2) ∧ s.ws = (caseW W (case1 T s).1).map mkB ++ (case1 T s).2.ws := by
  unfold case1 at h ⊢
  dsimp only at h ⊢
  have h1 := (expect_ext _ _ h).1
  have h2 := expect_rd h
  obtain ⟨a1, a2⟩ := hT _ h1
  have h3 := (hE _ h1).1
  obtain ⟨b1, b2⟩ := names_rd h3
  have h4 := (names_ext _ h3).1
  obtain ⟨c1, c2⟩ := tag_rd h4
  have h5 := (tag_ext _ _ h4).1
  have h6 := next_rd h5
  have h7 := expect_rd (next_ext _ h5).1
  refine ⟨⟨b1, a1⟩, h7.trans ?_⟩
  rw [c1] at b2 a2 h2 ⊢
  rw [h6, b2, a2, h2]
  simp only [caseW, List.map_cons, List.map_append, List.append_assoc, List.map_nil, List.cons_append, List.nil_append]
  rw [← c2]
  rfl
theorem cases_rd {α : Type} {W : α → Ws} {G : α → Prop} {T : St → α × St} (hE : ExtP T) (hT : Rd W G T) (hL : Eats T) : ∀ (n : Nat) (s : St), s.ws.length < n → (cases T n s).2.err = 0 →
    (∀ c, c ∈ (cases T n s).1 → (∀ x, x ∈ c.2.1 → isName x = true) ∧ G c.2.2) ∧ s.ws = (casesW W (cases T n s).1).map mkB ++ mkB [41] :: (cases T n s).2.ws
  | 0, s, h, _ => by omega
  | n + 1, s, hl, h => by
    by_cases hm : (more s).1 = true
    · rw [cases, if_pos hm] at h ⊢
      dsimp only at h ⊢
      obtain ⟨hs, hp⟩ := more_true hm
      rw [hs] at h ⊢
      have h1 := (cases_ext hE n _ h).1
      obtain ⟨g1, g2⟩ := case1_rd hE hT s h1
      have := case1_less hL hp
      obtain ⟨i1, i2⟩ := cases_rd hE hT hL n _ (by omega) h
      refine ⟨?_, g2.trans ?_⟩
      · intro a ha
        simp only [List.mem_cons] at ha
        rcases ha with rfl | ha
        · exact g1
        · exact i1 a ha
      · rw [i2]
        simp only [casesW, List.map_cons, List.flatten_cons, List.map_append, List.append_assoc]
    · rw [cases, if_neg hm] at h ⊢
      exact ⟨by simp, more_rd hm h⟩
theorem sign_word {x : ByteArray} (h : (primitive x != 0) = true) : sign (primitive x) = x.data.toList := by
  rw [← toList_eq]
  unfold primitive at h ⊢
  by_cases h1 : x.toList = [43]
  · simp [h1, sign]
  · by_cases h2 : x.toList = [45]
    · simp [h2, sign]
    · by_cases h3 : x.toList = [42]
      · simp [h3, sign]
      · by_cases h4 : x.toList = [60]
        · simp [h4, sign]
        · by_cases h5 : x.toList = [61]
          · simp [h5, sign]
          · simp [h1, h2, h3, h4, h5] at h

theorem branch_rd {α : Type} {W : α → Ws} {G : α → Prop} {T : St → α × St} (hE : ExtP T) (hT : Rd W G T) (hL : Less T) (hA : Eats T) (s : St) (h : (branch T s).2.err = 0) :
    WellN G (branch T s).1 ∧ mkB [40] :: s.ws = (wordsN W (branch T s).1).map mkB ++ (branch T s).2.ws := by
  unfold branch at h ⊢
  dsimp only at h ⊢
  by_cases c1 : Lib.hasPrefix (next s).1.data.toList [35] = true
  · rw [if_pos c1] at h ⊢
    dsimp only at h ⊢
    obtain ⟨g1, g2⟩ := terms_rd hE hT hL _ _ (Nat.lt_succ_self _) h
    have h1 := (terms_ext hE _ _ h).1
    obtain ⟨t1, t2⟩ := tag_rd h1
    have h2 := next_rd (tag_ext _ _ h1).1
    refine ⟨⟨by simp, by simp, g1, by simp⟩, ?_⟩
    rw [h2]
    generalize terms T _ _ = q at g2 ⊢
    rw [t1] at g2
    rw [g2]
    simp [wordsN, headW]
    exact t2
  · rw [if_neg c1] at h ⊢
    by_cases c2 : ((next s).1.toList == [108, 101, 116]) = true
    · rw [if_pos c2] at h ⊢
      dsimp only at h ⊢
      obtain ⟨g1, g2⟩ := two_rd hE hT _ h
      have h1 := (two_ext hE _ h).1
      obtain ⟨t1, t2⟩ := name_rd h1
      have h2 := (name_ext _ _ h1).1
      have h3 := next_rd h2
      have h4 := next_rd (next_ext _ h2).1
      have e1 : (next s).1 = mkB [108, 101, 116] := eq_of_toList (by rw [mk_list]; exact c2)
      refine ⟨⟨fun _ => t1, by simp, g1, by simp⟩, ?_⟩
      rw [h4, h3]
      generalize two T _ = q at g2 ⊢
      rw [t2] at g2
      rw [g2, e1]
      simp [wordsN, headW, mkB_data]
    · rw [if_neg c2] at h ⊢
      by_cases c3 : ((next s).1.toList == [109, 97, 116, 99, 104]) = true
      · rw [if_pos c3] at h ⊢
        dsimp only at h ⊢
        obtain ⟨g1, g2⟩ := cases_rd hE hT hA _ _ (Nat.lt_succ_self _) h
        have h1 := (cases_ext hE _ _ h).1
        obtain ⟨t1, t2⟩ := hT _ h1
        have h2 := next_rd (hE _ h1).1
        have e1 : (next s).1 = mkB [109, 97, 116, 99, 104] := eq_of_toList (by rw [mk_list]; exact c3)
        refine ⟨⟨by simp, by simp, by simp; exact t1, g1⟩, ?_⟩
        rw [h2, t2]
        generalize cases T _ _ = q at g2 ⊢
        rw [g2, e1]
        simp [wordsN, headW, argsW]
      · rw [if_neg c3] at h ⊢
        by_cases c4 : (primitive (next s).1 != 0) = true
        · rw [if_pos c4] at h ⊢
          dsimp only at h ⊢
          obtain ⟨g1, g2⟩ := two_rd hE hT _ h
          have h1 := next_rd (two_ext hE _ h).1
          refine ⟨⟨by simp, fun _ => prim_in _ c4, g1, by simp⟩, ?_⟩
          rw [h1]
          generalize two T _ = q at g2 ⊢
          rw [g2]
          simp [wordsN, headW, sign_word c4, mkB_data]
        · rw [if_neg c4] at h ⊢
          dsimp only at h ⊢
          obtain ⟨g1, g2⟩ := terms_rd hE hT hL _ _ (Nat.lt_succ_self _) h
          have h1 := (terms_ext hE _ _ h).1
          obtain ⟨t1, t2⟩ := name_rd h1
          have h2 := next_rd (name_ext _ _ h1).1
          refine ⟨⟨fun _ => t1, by simp, g1, by simp⟩, ?_⟩
          rw [h2]
          generalize terms T _ _ = q at g2 ⊢
          rw [t2] at g2
          rw [g2]
          simp [wordsN, headW, mkB_data]
theorem termN_rd {α : Type} {W : α → Ws} {G : α → Prop} {T : St → α × St} (hE : ExtP T) (hT : Rd W G T) (hL : Less T) (hA : Eats T) (d : Bool) : Rd (wordsN W) (WellN G) (termN T d) := by
  intro s h
  unfold termN at h ⊢
  dsimp only at h ⊢
  by_cases c1 : ((next s).1.toList == [40]) = true
  · rw [if_pos c1] at h ⊢
    cases d with
    | true => rw [if_pos rfl] at h; exact absurd h (branch_none _ _ rfl)
    | false =>
      rw [if_neg (by decide)] at h ⊢
      have h1 := next_rd (branch_ext hE hL hA _ h).1
      have e1 : (next s).1 = mkB [40] := eq_of_toList (by rw [mk_list]; exact c1)
      obtain ⟨g1, g2⟩ := branch_rd hE hT hL hA _ h
      refine ⟨g1, ?_⟩
      rw [h1, e1]; exact g2
  · rw [if_neg c1] at h ⊢
    dsimp only at h ⊢
    cases d with
    | true => rw [if_pos rfl] at h; exact absurd h (fail_err 9 (by decide) _)
    | false =>
      rw [if_neg (by decide)] at h ⊢
      have h1 := next_rd (leaf_ext _ _ h).1
      obtain ⟨l1, l2, l3, l4⟩ := leaf_rd W G h
      refine ⟨l4, ?_⟩
      rw [l1, l3, List.map_cons, ← l2]
      exact h1
theorem term_rd : ∀ k, Rd (wordsT (k + 1)) (Well (k + 1)) (term (k + 1))
  | 0 => fun s h => by
    exfalso
    have h : (termN (term 0) true s).2.err = 0 := h
    unfold termN at h
    dsimp only at h
    by_cases c1 : ((next s).1.toList == [40]) = true
    · rw [if_pos c1, if_pos rfl] at h
      exact branch_none _ _ rfl h
    · rw [if_neg c1] at h
      dsimp only at h
      rw [if_pos rfl] at h
      exact fail_err 9 (by decide) _ h
  | k + 1 => termN_rd (term_ext k) (term_rd k) (fun s hs => term_less (k + 1) (by omega) s hs) (term_suf (k + 1)) _
theorem function_rd : Rd fnW WellF function := by
  intro s h
  unfold function at h ⊢
  dsimp only at h ⊢
  have h1 := (expect_ext _ _ h).1
  have h2 := expect_rd h
  obtain ⟨a1, a2⟩ := term_rd 25 _ h1
  have h3 := (term_ext 25 _ h1).1
  obtain ⟨b1, b2⟩ := names_rd h3
  have h4 := (names_ext _ h3).1
  obtain ⟨c1, c2⟩ := name_rd h4
  have h5 := (name_ext _ _ h4).1
  have h6 := next_rd h5
  have h7 := (next_ext _ h5).1
  have h8 := expect_rd h7
  have h9 := expect_rd (expect_ext _ _ h7).1
  refine ⟨⟨c1, b1, a1⟩, h9.trans ?_⟩
  rw [c2] at b2 a2 h2 ⊢
  rw [h8, h6, b2, a2, h2]
  simp only [fnW, List.map_cons, List.map_append, List.append_assoc, List.map_nil, List.cons_append, List.nil_append, mkB_data]
  rfl
theorem functions_rd : ∀ (n : Nat) (s : St), s.ws.length < n → (functions n s).2.err = 0 → (∀ f, f ∈ (functions n s).1 → WellF f) ∧ s.ws = (allW (functions n s).1).map mkB
  | 0, _, h, _ => by omega
  | n + 1, ⟨[], e⟩, _, _ => ⟨by simp [functions], rfl⟩
  | n + 1, ⟨w :: r, e⟩, hl, h => by
    have hl' := function_less (s := ⟨w :: r, e⟩) (by simp)
    simp only [List.length_cons] at hl hl'
    have h' : (functions n (function ⟨w :: r, e⟩).2).2.err = 0 := h
    obtain ⟨i1, i2⟩ := functions_rd n _ (by omega) h'
    obtain ⟨g1, g2⟩ := function_rd _ (functions_err n _ h')
    show (∀ f, f ∈ (function ⟨w :: r, e⟩).1 :: (functions n (function ⟨w :: r, e⟩).2).1 → WellF f) ∧ w :: r = (allW ((function ⟨w :: r, e⟩).1 :: (functions n (function ⟨w :: r, e⟩).2).1)).map mkB
    refine ⟨?_, ?_⟩
    · intro f hf
      simp only [List.mem_cons] at hf
      rcases hf with rfl | hf
      · exact g1
      · exact i1 f hf
    · refine (show w :: r = _ from g2).trans ?_
      rw [i2]
      simp only [allW, List.map_cons, List.flatten_cons, List.map_append]
theorem parse_words (s : ByteArray) (h : (parse s).2 = 0) : (∀ f, f ∈ (parse s).1 → WellF f) ∧ split s = (allW (parse s).1).map mkB := by
  have hs := parse_size s h
  unfold parse at h ⊢
  rw [if_neg (by omega)] at h ⊢
  unfold parseWs at h ⊢
  by_cases c : (functions ((split s).length + 1) ⟨split s, 0⟩).2.err = 0
  · rw [if_pos c] at h ⊢
    exact functions_rd _ ⟨split s, 0⟩ (Nat.lt_succ_self _) c
  · rw [if_neg c] at h; exact absurd h c

end Go.Proofs.YtodolmdiebgmjaaDoor.Pu
