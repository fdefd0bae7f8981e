/- The words of what is written are those that were written; how long it is; so it is read again as it was. No program in it. -/
import Derived.Test.YtodolmdiebgmjaaDoorQ6
namespace Go.Proofs.YtodolmdiebgmjaaDoor.Pu

def sep (c : UInt8) : Prop := isBr c = true ∨ isBl c = true
def plain (w : List UInt8) : Prop := w ≠ [] ∧ ∀ c, c ∈ w → isBr c = false ∧ isBl c = false

theorem toks_plain (r : List UInt8) : ∀ (w cur : List UInt8), (∀ c, c ∈ w → isBr c = false ∧ isBl c = false) → toks cur (w ++ r) = toks (cur ++ w) r
  | [], cur, _ => by simp
  | c :: w, cur, h => by
    have hc := h c (by simp)
    rw [List.cons_append, toks, if_neg (by rw [hc.1]; decide), if_neg (by rw [hc.2]; decide), toks_plain r w _ (fun d hd => h d (by simp [hd])), List.append_assoc]; rfl
theorem toks_sep {cur : List UInt8} (hc : cur ≠ []) (c : UInt8) (r : List UInt8) (h : sep c) : toks cur (c :: r) = cur :: toks [] (c :: r) := by
  rw [toks, toks]
  by_cases h1 : isBr c = true
  · rw [if_pos h1, if_pos h1]; simp [flush, hc]
  · have h2 : isBl c = true := h.resolve_left h1
    rw [if_neg h1, if_neg h1, if_pos h2, if_pos h2]; simp [flush, hc]

/-- Bytes whose words are these, if no word goes on behind them. -/
def Tk (b : List UInt8) (W : Ws) : Prop := ∀ c r, sep c → toks [] (b ++ c :: r) = W ++ toks [] (c :: r)
/-- Nothing, or what a word ends at. -/
def Cut (b : List UInt8) : Prop := b = [] ∨ ∃ c r, b = c :: r ∧ sep c

theorem Tk.word {w : List UInt8} (h : plain w) : Tk w [w] := fun c r hc => by
  rw [toks_plain _ _ _ h.2, List.nil_append, toks_sep h.1 c r hc]; rfl
theorem Tk.nil : Tk [] [] := fun _ _ _ => rfl
theorem Tk.blank {b : List UInt8} {W : Ws} (h : Tk b W) (d : UInt8) (h0 : isBr d = false) (h1 : isBl d = true) : Tk (d :: b) W := fun c r hc => by
  rw [List.cons_append, toks, if_neg (by rw [h0]; decide), if_pos h1]; exact h c r hc
theorem Tk.sp {b : List UInt8} {W : Ws} (h : Tk b W) : Tk (32 :: b) W := h.blank 32 (by decide) (by decide)
theorem Tk.br {b : List UInt8} {W : Ws} (h : Tk b W) (d : UInt8) (h0 : isBr d = true) : Tk (d :: b) ([d] :: W) := fun c r hc => by
  rw [List.cons_append, toks, if_pos h0, h c r hc]; rfl
theorem Tk.app {a b : List UInt8} {A B : Ws} (ha : Tk a A) (hb : Tk b B) (hs : Cut b) : Tk (a ++ b) (A ++ B) := by
  rcases hs with rfl | ⟨d, b', rfl, hd⟩
  · intro c r hc
    have h1 : toks [] (c :: r) = B ++ toks [] (c :: r) := hb c r hc
    rw [List.append_nil, ha c r hc, List.append_assoc, ← h1]
  · intro c r hc
    have h1 := hb c r hc
    rw [List.cons_append] at h1
    rw [List.append_assoc, List.cons_append, ha d _ hd, h1, List.append_assoc]
theorem cut_br (d : UInt8) (h : isBr d = true) (b : List UInt8) : Cut (d :: b) := .inr ⟨d, b, rfl, .inl h⟩
theorem cut_sp (b : List UInt8) : Cut (32 :: b) := .inr ⟨32, b, rfl, .inr (by decide)⟩
theorem Cut.app {a b : List UInt8} (ha : Cut a) (hb : Cut b) : Cut (a ++ b) := by
  rcases ha with rfl | ⟨c, r, rfl, hc⟩
  · exact hb
  · exact .inr ⟨c, r ++ b, rfl, hc⟩
theorem tk41 : Tk [41] [[41]] := Tk.nil.br 41 (by decide)

theorem args_cut {α : Type} (S : α → List UInt8) (l : List α) : Cut (argsB S l) := by
  cases l with
  | nil => exact .inl rfl
  | cons a l => exact cut_sp _
theorem args_tk {α : Type} {S : α → List UInt8} {W : α → Ws} : ∀ (l : List α), (∀ a, a ∈ l → Tk (S a) (W a)) → Tk (argsB S l) (argsW W l)
  | [], _ => Tk.nil
  | a :: l, h => Tk.app (a := 32 :: S a) (h a (by simp)).sp (args_tk l fun b hb => h b (by simp [hb])) (args_cut S l)
theorem one_each : ∀ l : Ws, argsW (fun w => [w]) l = l
  | [] => rfl
  | w :: l => congrArg (w :: ·) (one_each l)
theorem join_tk (l : Ws) (h : ∀ w, w ∈ l → plain w) : Tk (Lib.join l [32] ++ [41]) (l ++ [[41]]) := by
  cases l with
  | nil => rw [Lib.join_nil]; exact tk41
  | cons x r =>
    rw [Lib.join_cons]
    refine Tk.app ?_ tk41 (cut_br 41 (by decide) _)
    have h1 : Tk (argsB (fun w : List UInt8 => w) r) r := by
      have h2 := args_tk (S := fun w : List UInt8 => w) (W := fun w => [w]) r (fun w hw => Tk.word (h w (by simp [hw])))
      rwa [one_each] at h2
    exact Tk.app (A := [x]) (Tk.word (h x (by simp))) h1 (args_cut _ _)

theorem plain_name {x : ByteArray} (h : isName x = true) : plain x.data.toList := by
  unfold isName at h
  simp only [Bool.and_eq_true] at h
  obtain ⟨⟨_, h1⟩, h2⟩ := h
  constructor
  · intro e
    rw [e] at h1; cases h1
  · intro c hc
    unfold okAll at h2
    have h3 := List.all_eq_true.1 h2 c hc
    simp only [letter, digit, Bool.or_eq_true, decide_eq_true_eq] at h3
    constructor
    · simp [isBr]; omega
    · simp [isBl]; omega
theorem digits_in (u : Nat) : Lib.decDigits u ≠ [] ∧ ∀ c, c ∈ Lib.decDigits u → 48 ≤ c.toNat ∧ c.toNat ≤ 57 := by
  induction u using Nat.strongRecOn with
  | _ u ih =>
    rw [Lib.decDigits]
    split
    · refine ⟨by simp, ?_⟩
      intro c hc
      simp only [List.mem_singleton] at hc
      subst hc
      simp only [UInt8.toNat_ofNat']
      omega
    · refine ⟨by simp, ?_⟩
      intro c hc
      simp only [List.mem_append, List.mem_singleton] at hc
      rcases hc with hc | hc
      · exact (ih (u / 10) (by omega)).2 c hc
      · subst hc
        simp only [UInt8.toNat_ofNat']
        omega
theorem plain_digits {c : UInt8} (h : (48 ≤ c.toNat ∧ c.toNat ≤ 57) ∨ c = 45 ∨ c = 35) : isBr c = false ∧ isBl c = false := by
  rcases h with h | rfl | rfl
  · constructor
    · simp [isBr]; omega
    · simp [isBl]; omega
  · decide
  · decide
theorem itoa_in (n : Int) : Lib.itoa n ≠ [] ∧ ∀ c, c ∈ Lib.itoa n → isBr c = false ∧ isBl c = false := by
  unfold Lib.itoa
  split
  · refine ⟨by simp, fun c hc => ?_⟩
    simp only [List.mem_cons] at hc
    rcases hc with rfl | hc
    · decide
    · exact plain_digits (.inl ((digits_in _).2 c hc))
  · exact ⟨(digits_in _).1, fun c hc => plain_digits (.inl ((digits_in _).2 c hc))⟩
theorem plain_itoa (n : Int) : plain (Lib.itoa n) := itoa_in n
theorem plain_tag (n : Int) : plain (tagB n) := by
  refine ⟨by simp [tagB], fun c hc => ?_⟩
  simp only [tagB, List.mem_cons] at hc
  rcases hc with rfl | hc
  · decide
  · exact (itoa_in n).2 c hc
theorem plain_sign {n : Int} (h : 1 ≤ n ∧ n ≤ 5) : plain (sign n) := by
  have h1 : n = 1 ∨ n = 2 ∨ n = 3 ∨ n = 4 ∨ n = 5 := by omega
  rcases h1 with rfl | rfl | rfl | rfl | rfl <;> exact ⟨by decide, by intro c hc; simp [sign] at hc; subst hc; decide⟩
theorem plain_let : plain [108, 101, 116] := ⟨by decide, by intro c hc; simp at hc; rcases hc with rfl | rfl | rfl <;> decide⟩
theorem plain_match : plain [109, 97, 116, 99, 104] := ⟨by decide, by intro c hc; simp at hc; rcases hc with rfl | rfl | rfl | rfl | rfl <;> decide⟩
theorem plain_fn : plain [102, 110] := ⟨by decide, by intro c hc; simp at hc; rcases hc with rfl | rfl <;> decide⟩

theorem bracket_tk (l : List ByteArray) (h : ∀ x, x ∈ l → isName x = true) : Tk (bracketB l) (brW l) := by
  have h1 := join_tk (l.map (·.data.toList)) fun w hw => by
    obtain ⟨x, hx, rfl⟩ := List.mem_map.1 hw
    exact plain_name (h x hx)
  exact Tk.br h1 40 (by decide)
theorem head_tk {α : Type} {G : α → Prop} {t : Node α} (h : WellN G t) : Tk (headB t) (headW t) := by
  unfold headB headW
  by_cases h3 : t.kind = 3
  · rw [if_pos h3, if_pos h3]; exact Tk.word (plain_tag _)
  · rw [if_neg h3, if_neg h3]
    by_cases h4 : t.kind = 4
    · rw [if_pos h4, if_pos h4]; exact Tk.word (plain_name (h.1 (.inr (.inl h4))))
    · rw [if_neg h4, if_neg h4]
      by_cases h5 : t.kind = 5
      · rw [if_pos h5, if_pos h5]; exact Tk.word (plain_sign (h.2.1 h5))
      · rw [if_neg h5, if_neg h5]
        by_cases h6 : t.kind = 6
        · rw [if_pos h6, if_pos h6]
          exact Tk.app (a := [108, 101, 116]) (b := 32 :: t.name.data.toList) (A := [[108, 101, 116]]) (Tk.word plain_let) (Tk.word (plain_name (h.1 (.inr (.inr h6))))).sp (cut_sp _)
        · rw [if_neg h6, if_neg h6]; exact Tk.word plain_match
theorem case_tk {α : Type} {S : α → List UInt8} {W : α → Ws} (c : Int × List ByteArray × α) (h1 : ∀ x, x ∈ c.2.1 → isName x = true) (h2 : Tk (S c.2.2) (W c.2.2)) : Tk (caseB S c) (caseW W c) := by
  have e : caseB S c = 32 :: 40 :: (tagB c.1 ++ 32 :: (bracketB c.2.1 ++ 32 :: (S c.2.2 ++ [41]))) := by simp [caseB]
  rw [e]
  exact Tk.sp (Tk.br (Tk.app (A := [tagB c.1]) (Tk.word (plain_tag _)) (Tk.sp (Tk.app (bracket_tk _ h1) (Tk.sp (Tk.app h2 tk41 (cut_br 41 (by decide) _))) (cut_sp _))) (cut_sp _)) 40 (by decide))
theorem cases_cut {α : Type} (S : α → List UInt8) (l : List (Int × List ByteArray × α)) : Cut (casesB S l) := by
  cases l with
  | nil => exact .inl rfl
  | cons a l => exact cut_sp _
theorem cases_tk {α : Type} {S : α → List UInt8} {W : α → Ws} : ∀ (l : List (Int × List ByteArray × α)), (∀ c, c ∈ l → (∀ x, x ∈ c.2.1 → isName x = true) ∧ Tk (S c.2.2) (W c.2.2)) → Tk (casesB S l) (casesW W l)
  | [], _ => Tk.nil
  | c :: l, h => Tk.app (a := caseB S c) (case_tk c (h c (by simp)).1 (h c (by simp)).2) (cases_tk l fun b hb => h b (by simp [hb])) (cases_cut S l)
theorem show_tk {α : Type} {S : α → List UInt8} {W : α → Ws} {G : α → Prop} (hS : ∀ a, G a → Tk (S a) (W a)) {t : Node α} (h : WellN G t) : Tk (showN S t) (wordsN W t) := by
  unfold showN wordsN
  by_cases h1 : t.kind = 1
  · rw [if_pos h1, if_pos h1]; exact Tk.word (plain_name (h.1 (.inl h1)))
  · rw [if_neg h1, if_neg h1]
    by_cases h2 : t.kind = 2
    · rw [if_pos h2, if_pos h2]; exact Tk.word (plain_itoa _)
    · rw [if_neg h2, if_neg h2]
      have hc : Tk (if t.kind = 7 then casesB S t.cases else []) (if t.kind = 7 then casesW W t.cases else []) ∧ Cut (if t.kind = 7 then casesB S t.cases else []) := by
        by_cases h7 : t.kind = 7
        · rw [if_pos h7, if_pos h7]; exact ⟨cases_tk _ fun c hc => ⟨(h.2.2.2 c hc).1, hS _ (h.2.2.2 c hc).2⟩, cases_cut _ _⟩
        · rw [if_neg h7, if_neg h7]; exact ⟨Tk.nil, .inl rfl⟩
      have k41 := cut_br 41 (by decide) []
      exact Tk.br (Tk.app (head_tk h) (Tk.app (args_tk _ fun a ha => hS a (h.2.2.1 a ha)) (Tk.app hc.1 tk41 k41) (hc.2.app k41)) ((args_cut _ _).app (hc.2.app k41))) 40 (by decide)
theorem term_tk : ∀ k (t : TT k), Well k t → Tk (showT k t) (wordsT k t)
  | 0, _, h => h.elim
  | k + 1, t, h => show_tk (α := TT k) (fun a ha => term_tk k a ha) (t := t) h
theorem fn_tk {f : ByteArray × List ByteArray × TT 26} (h : WellF f) : Tk (fnB f) (fnW f) := by
  have e : fnB f = 40 :: ([102, 110] ++ 32 :: (f.1.data.toList ++ 32 :: (bracketB f.2.1 ++ 32 :: (showT 26 f.2.2 ++ 41 :: [10])))) := by simp [fnB]
  rw [e]
  have h10 : Tk (41 :: [10]) [[41]] := (Tk.nil.blank 10 (by decide) (by decide)).br 41 (by decide)
  exact Tk.br (Tk.app (A := [[102, 110]]) (Tk.word plain_fn) (Tk.sp (Tk.app (A := [f.1.data.toList]) (Tk.word (plain_name h.1)) (Tk.sp (Tk.app (bracket_tk _ h.2.1) (Tk.sp (Tk.app (term_tk 26 _ h.2.2) h10 (cut_br 41 (by decide) _))) (cut_sp _))) (cut_sp _))) (cut_sp _)) 40 (by decide)
theorem fn_cut (f : ByteArray × List ByteArray × TT 26) (b : List UInt8) : Cut (fnB f ++ b) := by
  have e : fnB f ++ b = 40 :: ([102, 110] ++ 32 :: (f.1.data.toList ++ 32 :: (bracketB f.2.1 ++ 32 :: (showT 26 f.2.2 ++ 41 :: 10 :: b)))) := by simp [fnB]
  rw [e]; exact cut_br 40 (by decide) _
theorem print_tk : ∀ l, (∀ f, f ∈ l → WellF f) → Tk (printB l) (allW l)
  | [], _ => Tk.nil
  | f :: l, h => by
    refine Tk.app (a := fnB f) (fn_tk (h f (by simp))) (print_tk l fun g hg => h g (by simp [hg])) ?_
    cases l with
    | nil => exact .inl rfl
    | cons g l => exact fn_cut g _
theorem print_toks (l : List (ByteArray × List ByteArray × TT 26)) (h : ∀ f, f ∈ l → WellF f) : toks [] (printB l) = allW l := by
  have h1 := print_tk l h 10 [] (.inr (by decide))
  rw [toks_line] at h1
  simpa [toks, flush, isBr, isBl] using h1

/- How long it is. -/
def wt (W : Ws) : Nat := (W.map fun w => w.length + 1).sum
theorem wt_nil : wt [] = 0 := rfl
theorem wt_cons (w : List UInt8) (W : Ws) : wt (w :: W) = w.length + 1 + wt W := by simp [wt]
theorem wt_app (A B : Ws) : wt (A ++ B) = wt A + wt B := by simp [wt]

theorem args_len {α : Type} {S : α → List UInt8} {W : α → Ws} : ∀ (l : List α), (∀ a, a ∈ l → (S a).length + 1 ≤ wt (W a)) → (argsB S l).length ≤ wt (argsW W l)
  | [], _ => Nat.le_refl _
  | a :: l, h => by
    have h1 := h a (by simp)
    have h2 := args_len l fun b hb => h b (by simp [hb])
    have e1 : argsB S (a :: l) = (32 :: S a) ++ argsB S l := rfl
    have e2 : argsW W (a :: l) = W a ++ argsW W l := rfl
    rw [e1, e2, wt_app]; simp only [List.length_append, List.length_cons]; omega
theorem join_len (l : Ws) : (Lib.join l [32]).length ≤ wt l := by
  cases l with
  | nil => rw [Lib.join_nil]; exact Nat.le_refl _
  | cons x r =>
    rw [Lib.join_cons]
    have h1 : (argsB (fun w : List UInt8 => w) r).length ≤ wt r := by
      have h2 := args_len (S := fun w : List UInt8 => w) (W := fun w => [w]) r (fun w _ => by rw [wt_cons, wt_nil]; omega)
      rwa [one_each] at h2
    have e : Lib.joinTail [32] r = argsB (fun w : List UInt8 => w) r := rfl
    rw [e, wt_cons, List.length_append]; omega
theorem bracket_len (l : List ByteArray) : (bracketB l).length + 2 ≤ wt (brW l) := by
  have h := join_len (l.map (·.data.toList))
  unfold bracketB brW
  rw [wt_cons, wt_app, wt_cons, wt_nil]
  simp only [List.length_append, List.length_cons, List.length_nil]
  omega
theorem head_len {α : Type} (t : Node α) : (headB t).length + 1 ≤ wt (headW t) := by
  unfold headB headW
  repeat' split
  all_goals simp only [wt_cons, wt_nil, List.length_append, List.length_cons, List.length_nil]; omega
theorem case_len {α : Type} {S : α → List UInt8} {W : α → Ws} (c : Int × List ByteArray × α) (h : (S c.2.2).length + 1 ≤ wt (W c.2.2)) : (caseB S c).length ≤ wt (caseW W c) := by
  have h1 := bracket_len c.2.1
  unfold caseB caseW
  simp only [wt_cons, wt_app, wt_nil, List.length_append, List.length_cons, List.length_nil]
  omega
theorem cases_len {α : Type} {S : α → List UInt8} {W : α → Ws} : ∀ (l : List (Int × List ByteArray × α)), (∀ c, c ∈ l → (S c.2.2).length + 1 ≤ wt (W c.2.2)) → (casesB S l).length ≤ wt (casesW W l)
  | [], _ => Nat.le_refl _
  | c :: l, h => by
    have h1 := case_len (S := S) (W := W) c (h c (by simp))
    have h2 := cases_len l fun b hb => h b (by simp [hb])
    have e1 : casesB S (c :: l) = caseB S c ++ casesB S l := rfl
    have e2 : casesW W (c :: l) = caseW W c ++ casesW W l := rfl
    rw [e1, e2, wt_app]; simp only [List.length_append]; omega
theorem show_len {α : Type} {S : α → List UInt8} {W : α → Ws} {G : α → Prop} (hS : ∀ a, G a → (S a).length + 1 ≤ wt (W a)) {t : Node α} (h : WellN G t) : (showN S t).length + 1 ≤ wt (wordsN W t) := by
  unfold showN wordsN
  by_cases h1 : t.kind = 1
  · rw [if_pos h1, if_pos h1, wt_cons, wt_nil]; omega
  · rw [if_neg h1, if_neg h1]
    by_cases h2 : t.kind = 2
    · rw [if_pos h2, if_pos h2, wt_cons, wt_nil]; omega
    · rw [if_neg h2, if_neg h2]
      have hc : (if t.kind = 7 then casesB S t.cases else []).length ≤ wt (if t.kind = 7 then casesW W t.cases else []) := by
        by_cases h7 : t.kind = 7
        · rw [if_pos h7, if_pos h7]; exact cases_len _ fun c hc => hS _ (h.2.2.2 c hc).2
        · rw [if_neg h7, if_neg h7]; exact Nat.le_refl _
      have ha := args_len (S := S) (W := W) t.args fun a ha => hS a (h.2.2.1 a ha)
      have hh := head_len t
      simp only [wt_cons, wt_app, wt_nil, List.length_append, List.length_cons, List.length_nil]
      omega
theorem term_len : ∀ k (t : TT k), Well k t → (showT k t).length + 1 ≤ wt (wordsT k t)
  | 0, _, h => h.elim
  | k + 1, t, h => show_len (α := TT k) (fun a ha => term_len k a ha) (t := t) h
theorem fn_len {f : ByteArray × List ByteArray × TT 26} (h : WellF f) : (fnB f).length ≤ wt (fnW f) := by
  have h1 := bracket_len f.2.1
  have h2 := term_len 26 _ h.2.2
  unfold fnB fnW
  simp only [wt_cons, wt_app, wt_nil, List.length_append, List.length_cons, List.length_nil]
  omega
theorem print_len : ∀ l, (∀ f, f ∈ l → WellF f) → (printB l).length ≤ wt (allW l)
  | [], _ => Nat.le_refl _
  | f :: l, h => by
    have h1 := fn_len (h f (by simp))
    have h2 := print_len l fun b hb => h b (by simp [hb])
    have e1 : printB (f :: l) = fnB f ++ printB l := rfl
    have e2 : allW (f :: l) = fnW f ++ allW l := rfl
    rw [e1, e2, wt_app]; simp only [List.length_append]; omega
theorem wt_le (n : Nat) : ∀ W : Ws, (∀ w, w ∈ W → w.length ≤ n) → wt W ≤ W.length * (n + 1)
  | [], _ => Nat.zero_le _
  | w :: W, h => by
    have h1 := h w (by simp)
    have h2 := wt_le n W fun v hv => h v (by simp [hv])
    rw [wt_cons, List.length_cons, Nat.add_mul]; omega

/-- What is read, written, is not too long for a string. -/
theorem printed_len (s : ByteArray) (h : (parse s).2 = 0) : (printB (parse s).1).length ≤ 1000000000 := by
  have hs := parse_size s h
  obtain ⟨h1, h2⟩ := parse_words s h
  have h3 := print_len _ h1
  have h4 : (allW (parse s).1).length ≤ 1500 := by
    have h5 := split_length s
    rw [h2, List.length_map] at h5
    omega
  have h6 := wt_le 1500 (allW (parse s).1) fun w hw => by
    have h7 := split_size s (mkB w) (by rw [h2]; exact List.mem_map_of_mem hw)
    rw [← lenB, data_mkB] at h7
    omega
  have h8 : (allW (parse s).1).length * (1500 + 1) ≤ 1500 * (1500 + 1) := Nat.mul_le_mul_right _ h4
  omega
/-- WRITTEN, AND READ AGAIN. -/
theorem parse_printed (s : ByteArray) (h : (parse s).2 = 0) : parse (mkB (printB (parse s).1)) = if 1500 < (printB (parse s).1).length then ([], 4) else ((parse s).1, 0) := by
  have hs := parse_size s h
  obtain ⟨h1, h2⟩ := parse_words s h
  have h3 : split (mkB (printB (parse s).1)) = split s := by
    rw [split_toks, data_mkB, print_toks _ h1, h2]
  have h4 : (mkB (printB (parse s).1)).size = (printB (parse s).1).length := by rw [← lenB, data_mkB]
  have h5 : parse s = ((parse s).1, 0) := by rw [← h]
  have h6 : parseWs (split s) = ((parse s).1, 0) := by
    rw [← h5]; unfold parse; rw [if_neg (by omega)]
  generalize mkB (printB (parse s).1) = p at h3 h4 ⊢
  generalize (parse s).1 = l at h4 h6 ⊢
  unfold parse
  rw [h4, h3, h6]
theorem parse_bad (s : ByteArray) (h : (parse s).2 ≠ 0) : (parse s).1 = [] := by
  unfold parse at h ⊢
  split
  · rfl
  · rename_i c
    rw [if_neg c] at h
    unfold parseWs at h ⊢
    split
    · rename_i d
      rw [if_pos d] at h
      exact absurd rfl h
    · rfl

end Go.Proofs.YtodolmdiebgmjaaDoor.Pu
