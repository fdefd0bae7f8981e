/- What is read can be written. No program in it. -/
import Derived.Test.YtodolmdiebgmjaaDoorQ2
import Derived.Lib.AtoiAllCases
namespace Go.Proofs.YtodolmdiebgmjaaDoor.Pu

theorem in0 : inI 0 := ⟨by decide, by decide⟩
theorem number_in (x : ByteArray) : inI (number x).1 := by
  unfold number
  cases h : Lib.atoiAll x.data.toList with
  | ok v => exact Lib.atoiAll_bounds h
  | range => dsimp only [inI]; unfold Lib.atoiSat; split <;> exact ⟨by decide, by decide⟩
  | _ => exact in0
theorem tagOf_in (x : ByteArray) : inI (tagOf x).1 := number_in _
theorem tag_in (x : ByteArray) (s : St) : inI (tag x s).1 := tagOf_in x
theorem prim_in (x : ByteArray) (h : (primitive x != 0) = true) : 1 ≤ primitive x ∧ primitive x ≤ 5 := by
  unfold primitive at h ⊢
  repeat' split
  all_goals first | exact ⟨by decide, by decide⟩ | (rename_i h1 h2 h3 h4 h5; simp [h1, h2, h3, h4, h5] at h)

theorem leaf_good {α : Type} (G : α → Prop) (x : ByteArray) (s : St) : GoodN G (leaf x s).1 := by
  unfold leaf
  split
  · exact ⟨by simp, by simp, number_in x, by simp, by simp⟩
  · exact ⟨by simp, by simp, in0, by simp, by simp⟩

theorem terms_good {α : Type} {G : α → Prop} {T : St → α × St} (hT : ∀ s, G (T s).1) : ∀ n s a, a ∈ (terms T n s).1 → G a
  | 0, s, a, h => by simp [terms] at h
  | n + 1, s, a, h => by
    unfold terms at h
    split at h
    · simp only [List.mem_cons] at h
      rcases h with rfl | h
      · exact hT _
      · exact terms_good hT n _ a h
    · simp at h
theorem two_good {α : Type} {G : α → Prop} {T : St → α × St} (hT : ∀ s, G (T s).1) (s : St) (a : α) (h : a ∈ (two T s).1) : G a := by
  simp only [two, List.mem_cons, List.not_mem_nil, or_false] at h
  rcases h with rfl | rfl <;> exact hT _
theorem cases_good {α : Type} {G : α → Prop} {T : St → α × St} (hT : ∀ s, G (T s).1) : ∀ n s c, c ∈ (cases T n s).1 → inI c.1 ∧ G c.2.2
  | 0, s, c, h => by simp [cases] at h
  | n + 1, s, c, h => by
    unfold cases at h
    split at h
    · simp only [List.mem_cons] at h
      rcases h with rfl | h
      · exact ⟨tagOf_in _, hT _⟩
      · exact cases_good hT n _ c h
    · simp at h
theorem branch_good {α : Type} {G : α → Prop} {T : St → α × St} (hT : ∀ s, G (T s).1) (s : St) : GoodN G (branch T s).1 := by
  unfold branch
  dsimp only
  split
  · exact ⟨by simp, by simp, tagOf_in _, fun a h => terms_good hT _ _ a h, by simp⟩
  · split
    · exact ⟨by simp, by simp, in0, fun a h => two_good hT _ a h, by simp⟩
    · split
      · exact ⟨by simp, by simp, in0, fun a h => by simp at h; rw [h]; exact hT _, fun c h => cases_good hT _ _ c h⟩
      · split
        · rename_i hq
          have := prim_in _ hq
          exact ⟨by simp, fun _ => this, ⟨by dsimp only; omega, by dsimp only; omega⟩, fun a h => two_good hT _ a h, by simp⟩
        · exact ⟨by simp, by simp, in0, fun a h => terms_good hT _ _ a h, by simp⟩
theorem branch_nil_good {α : Type} (G : α → Prop) (T : St → α × St) (s : St) (hw : s.ws = []) : GoodN G (branch T s).1 := by
  obtain ⟨ws, e⟩ := s
  have hw : ws = [] := hw
  subst hw
  have e1 : next ⟨[], e⟩ = (⟨#[]⟩, fail 8 ⟨[], e⟩) := rfl
  have e2 : isName ⟨#[]⟩ = false := rfl
  unfold branch
  dsimp only
  rw [e1]
  dsimp only
  rw [if_neg (by decide), if_neg (by rw [empty_toList]; decide), if_neg (by rw [empty_toList]; decide), if_neg (by simp [primitive])]
  refine ⟨by simp, by simp, in0, ?_, by simp⟩
  intro a h
  exfalso
  have e3 : name ⟨#[]⟩ (fail 8 ⟨[], e⟩) = fail 7 (fail 8 ⟨[], e⟩) := by unfold name; rw [e2, if_neg (by decide)]
  dsimp only at h
  rw [e3] at h
  have hm : (more (fail 7 (fail 8 ⟨[], e⟩))).1 = false := rfl
  rw [terms, if_neg (by rw [hm]; decide)] at h
  simp at h

theorem term_good : ∀ k s, Good (k + 1) (term (k + 1) s).1
  | 0, s => by
    show GoodN (Good 0) (termN (term 0) true s).1
    unfold termN
    dsimp only
    split
    · exact branch_nil_good _ _ _ rfl
    · exact leaf_good _ _ _
  | k + 1, s => by
    show GoodN (Good (k + 1)) (termN (term (k + 1)) _ s).1
    unfold termN
    dsimp only
    split
    · exact branch_good (fun s => term_good k s) _
    · exact leaf_good _ _ _

theorem functions_good : ∀ n s f, f ∈ (functions n s).1 → Good 26 f.2.2
  | 0, s, f, h => by simp [functions] at h
  | n + 1, ⟨[], e⟩, f, h => by simp [functions] at h
  | n + 1, ⟨w :: r, e⟩, f, h => by
    have h : f ∈ (function ⟨w :: r, e⟩).1 :: (functions n (function ⟨w :: r, e⟩).2).1 := h
    simp only [List.mem_cons] at h
    rcases h with rfl | h
    · exact term_good 25 _
    · exact functions_good n _ f h
theorem parse_good (s : ByteArray) (f : ByteArray × List ByteArray × TT 26) (h : f ∈ (parse s).1) : Good 26 f.2.2 := by
  unfold parse at h
  split at h
  · simp at h
  · unfold parseWs at h
    split at h
    · exact functions_good _ _ f h
    · simp at h

theorem functions_len : ∀ n s, (functions n s).1.length ≤ s.ws.length
  | 0, s => by simp [functions]
  | n + 1, ⟨[], e⟩ => by simp [functions]
  | n + 1, ⟨w :: r, e⟩ => by
    have hl := function_less (s := ⟨w :: r, e⟩) (by simp)
    have ih := functions_len n (function ⟨w :: r, e⟩).2
    show ((function ⟨w :: r, e⟩).1 :: (functions n (function ⟨w :: r, e⟩).2).1).length ≤ _
    simp only [List.length_cons] at hl ⊢
    omega
theorem parse_len (s : ByteArray) : (parse s).1.length ≤ 1500 := by
  unfold parse
  split
  · simp
  · unfold parseWs
    split
    · have := functions_len ((split s).length + 1) ⟨split s, 0⟩
      have h2 := split_length s
      dsimp only at this ⊢
      omega
    · simp
theorem parse_size (s : ByteArray) (h : (parse s).2 = 0) : s.size ≤ 1500 := by
  unfold parse at h
  split at h
  · simp at h
  · omega

end Go.Proofs.YtodolmdiebgmjaaDoor.Pu
