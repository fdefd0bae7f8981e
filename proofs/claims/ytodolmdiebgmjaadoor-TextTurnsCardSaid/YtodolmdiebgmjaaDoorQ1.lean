/- A text's words: by places, and one by one. No program in it. -/
import Derived.Test.YtodolmdiebgmjaaDoorPr
namespace Go.Proofs.YtodolmdiebgmjaaDoor.Pu

def flush (cur : List UInt8) : List (List UInt8) := if cur = [] then [] else [cur]

/-- The words of a text; cur: what of the next one was read. -/
def toks : List UInt8 → List UInt8 → List (List UInt8)
  | cur, [] => flush cur
  | cur, c :: r => if isBr c = true then flush cur ++ [c] :: toks [] r else if isBl c = true then flush cur ++ toks [] r else toks (cur ++ [c]) r

def mkB (l : List UInt8) : ByteArray := ⟨l.toArray⟩

theorem mkB_data (s : ByteArray) : mkB s.data.toList = s := by apply ByteArray.ext; simp [mkB]
theorem data_mkB (l : List UInt8) : (mkB l).data.toList = l := by simp [mkB]
theorem lenB (s : ByteArray) : s.data.toList.length = s.size := Array.length_toList
theorem getD_list (s : ByteArray) (k : Nat) (h : k < s.size) : s.data.toList[k]'(by rw [lenB]; exact h) = s.data.getD k 0 := by
  rw [Array.getD, dif_pos (show k < s.data.size from h)]; simp
theorem extractB (s : ByteArray) (a b : Nat) : (s.extract a b).data.toList = (s.data.toList.drop a).take (b - a) := Lib.extract_data s a b
theorem extract_mkB (s : ByteArray) (a b : Nat) : s.extract a b = mkB ((s.data.toList.drop a).take (b - a)) := by rw [← extractB, mkB_data]

/-- What is read from place st up to place k. -/
def mid (L : List UInt8) (st k : Nat) : List UInt8 := (L.drop st).take (k - st)

theorem mid_self (L : List UInt8) (k : Nat) : mid L k k = [] := by simp [mid]
theorem mid_succ (L : List UInt8) (st k : Nat) (hs : st ≤ k) (hk : k < L.length) : mid L st (k + 1) = mid L st k ++ [L[k]] := by
  unfold mid
  rw [show k + 1 - st = (k - st) + 1 from by omega, List.take_succ_eq_append_getElem (by simp; omega)]
  congr 2
  rw [List.getElem_drop]; congr 1; omega
theorem mid_ne (L : List UInt8) (st k : Nat) (hk : k ≤ L.length) : (mid L st k = []) ↔ ¬ st < k := by
  unfold mid
  rw [← List.length_eq_zero_iff]; simp; omega
theorem flush_mid (L : List UInt8) (st k : Nat) (hk : k ≤ L.length) : flush (mid L st k) = if st < k then [mid L st k] else [] := by
  unfold flush
  by_cases h : st < k
  · rw [if_pos h, if_neg]; rw [mid_ne L st k hk]; omega
  · rw [if_neg h, if_pos]; rw [mid_ne L st k hk]; exact h

theorem toks_split (s : ByteArray) : ∀ k, k ≤ s.size → toks [] s.data.toList = ((splitTo s k).1.map (·.data.toList)) ++ toks (mid s.data.toList (splitTo s k).2 k) (s.data.toList.drop k)
  | 0, _ => by simp [splitTo, mid]
  | k + 1, h => by
    have ih := toks_split s k (by omega)
    have hl := splitTo_le s k
    have hk : k < s.data.toList.length := by rw [lenB]; omega
    rw [ih, List.drop_eq_getElem_cons hk]
    generalize hst : (splitTo s k).2 = st at *
    generalize hac : (splitTo s k).1 = acc at *
    have hg := getD_list s k (by omega)
    have hf := flush_mid s.data.toList st k (by omega)
    rw [toks, hg]
    rw [splitTo, hst, hac]
    by_cases h1 : isBr (s.data.getD k 0) = true
    · rw [if_pos h1, if_pos h1, hf]
      by_cases h2 : st < k
      · rw [if_pos h2, if_pos h2]
        simp only [List.map_append, List.map_cons, List.map_nil, extractB]
        rw [show (k + 1 - k) = 1 from by omega, List.drop_eq_getElem_cons hk, List.take_succ_cons, List.take_zero, hg, mid_self]
        simp [mid]
      · rw [if_neg h2, if_neg h2]
        simp only [List.map_append, List.map_cons, List.map_nil, extractB]
        rw [show (k + 1 - k) = 1 from by omega, List.drop_eq_getElem_cons hk, List.take_succ_cons, List.take_zero, hg, mid_self]
        simp
    · rw [if_neg h1, if_neg h1]
      by_cases h3 : isBl (s.data.getD k 0) = true
      · rw [if_pos h3, if_pos h3, hf]
        by_cases h2 : st < k
        · rw [if_pos h2, if_pos h2, mid_self]; simp [mid]
        · rw [if_neg h2, if_neg h2, mid_self]; simp
      · rw [if_neg h3, if_neg h3, hst, hac, mid_succ _ _ _ (by omega) hk, hg]

theorem split_toks (s : ByteArray) : split s = (toks [] s.data.toList).map mkB := by
  have h := toks_split s s.size (Nat.le_refl _)
  have hl := splitTo_le s s.size
  have e : s.data.toList.drop s.size = [] := by rw [List.drop_eq_nil_iff, lenB]; exact Nat.le_refl _
  rw [e, toks, flush_mid _ _ _ (by rw [lenB]; exact Nat.le_refl _)] at h
  rw [h]
  unfold split
  have em : ∀ l : List ByteArray, (l.map (·.data.toList)).map mkB = l := fun l => by
    rw [List.map_map]; conv => rhs; rw [← List.map_id l]
    exact List.map_congr_left fun x _ => mkB_data x
  by_cases h2 : (splitTo s s.size).2 < s.size
  · rw [if_pos h2, if_pos h2, List.map_append, em]; simp [mid, extract_mkB]
  · rw [if_neg h2, if_neg h2, List.append_nil, em]

theorem toks_line (b : List UInt8) : ∀ (a cur : List UInt8), toks cur (a ++ 10 :: b) = toks cur a ++ toks [] b
  | [], cur => by
    rw [List.nil_append, toks, toks, if_neg (by decide), if_pos (by decide)]
  | c :: a, cur => by
    rw [List.cons_append, toks, toks]
    by_cases h1 : isBr c = true
    · rw [if_pos h1, if_pos h1, toks_line b a []]; simp
    · rw [if_neg h1, if_neg h1]
      by_cases h2 : isBl c = true
      · rw [if_pos h2, if_pos h2, toks_line b a []]; simp
      · rw [if_neg h2, if_neg h2, toks_line b a _]

theorem split_line (s t : ByteArray) : split (s ++ ⟨#[10]⟩ ++ t) = split s ++ split t := by
  rw [split_toks, split_toks, split_toks, ← List.map_append]
  congr 1
  rw [show (s ++ ⟨#[10]⟩ ++ t).data.toList = s.data.toList ++ 10 :: t.data.toList from by simp]
  exact toks_line _ _ _

end Go.Proofs.YtodolmdiebgmjaaDoor.Pu
