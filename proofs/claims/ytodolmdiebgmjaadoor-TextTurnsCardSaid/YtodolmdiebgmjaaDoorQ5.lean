/- A text that is wrong: what is told. No program in it. -/
import Derived.Test.YtodolmdiebgmjaaDoorQ4
namespace Go.Proofs.YtodolmdiebgmjaaDoor.Pu

/- Once it is wrong, it stays so. -/
theorem fail_st (c e : Int) (he : e ≠ 0) : fail c ⟨[], e⟩ = ⟨[], e⟩ := by unfold fail; rw [if_neg he]
theorem next_st (e : Int) (he : e ≠ 0) : (next ⟨[], e⟩).2 = ⟨[], e⟩ := fail_st 8 e he
theorem expect_st (y : ByteArray) (e : Int) (he : e ≠ 0) : expect y ⟨[], e⟩ = ⟨[], e⟩ := by
  unfold expect; rw [next_st e he, fail_st 2 e he]; split <;> rfl
theorem name_st (y : ByteArray) (e : Int) (he : e ≠ 0) : name y ⟨[], e⟩ = ⟨[], e⟩ := by
  unfold name; rw [fail_st 7 e he]; split <;> rfl
theorem more_st (e : Int) (he : e ≠ 0) : more ⟨[], e⟩ = (false, ⟨[], e⟩) := by
  show (false, fail 8 ⟨[], e⟩) = _; rw [fail_st 8 e he]
theorem tag_st (y : ByteArray) (e : Int) (he : e ≠ 0) : (tag y ⟨[], e⟩).2 = ⟨[], e⟩ := by
  unfold tag; dsimp only; rw [fail_st 2 e he]; split <;> rfl
theorem namesTo_st (n : Nat) (e : Int) (he : e ≠ 0) : (namesTo n ⟨[], e⟩).2 = ⟨[], e⟩ := by
  cases n with
  | zero => rfl
  | succ n => rw [namesTo, more_st e he]; rfl
theorem names_st (e : Int) (he : e ≠ 0) : (names ⟨[], e⟩).2 = ⟨[], e⟩ := by
  unfold names; rw [expect_st _ e he]; exact namesTo_st _ e he
theorem terms_st {α : Type} (T : St → α × St) (n : Nat) (e : Int) (he : e ≠ 0) : (terms T n ⟨[], e⟩).2 = ⟨[], e⟩ := by
  cases n with
  | zero => rfl
  | succ n => rw [terms, more_st e he]; rfl
theorem cases_st {α : Type} (T : St → α × St) (n : Nat) (e : Int) (he : e ≠ 0) : (cases T n ⟨[], e⟩).2 = ⟨[], e⟩ := by
  cases n with
  | zero => rfl
  | succ n => rw [cases, more_st e he]; rfl
theorem leaf_st {α : Type} (y : ByteArray) (e : Int) (he : e ≠ 0) : (leaf (α := α) y ⟨[], e⟩).2 = ⟨[], e⟩ := by
  unfold leaf; split
  · rfl
  · exact name_st y e he
theorem term_st (k : Nat) (e : Int) (he : e ≠ 0) : (term (k + 1) ⟨[], e⟩).2 = ⟨[], e⟩ := by
  show (termN _ _ _).2 = _
  unfold termN
  have h1 : (next ⟨[], e⟩).1 = ⟨#[]⟩ := rfl
  dsimp only
  rw [h1, next_st e he, if_neg (by rw [empty_toList]; decide)]
  dsimp only
  rw [leaf_st _ e he, fail_st 9 e he]; split <;> rfl

def wsA2 : List ByteArray := [mkB [40], mkB [109, 97, 116, 99, 104], mkB [121], mkB [40], mkB [40], mkB [35, 49], mkB [40], mkB [97], mkB [98], mkB [41], mkB [41], mkB [40], mkB [43], mkB [97], mkB [98], mkB [41], mkB [41], mkB [41], mkB [41], mkB [41]]
def wsA : List ByteArray := mkB [40] :: mkB [102, 110] :: mkB [102] :: mkB [40] :: mkB [120] :: mkB [41] :: mkB [40] :: mkB [108, 101, 116] :: mkB [121] :: mkB [40] :: mkB [35, 49] :: mkB [120] :: mkB [50] :: mkB [41] :: wsA2
def sA : ByteArray := ⟨#[40, 102, 110, 32, 102, 32, 40, 120, 41, 32, 40, 108, 101, 116, 32, 121, 32, 40, 35, 49, 32, 120, 32, 50, 41, 32, 40, 109, 97, 116, 99, 104, 32, 121, 32, 40, 40, 35, 49, 32, 40, 97, 32, 98, 41, 41, 32, 40, 43, 32, 97, 32, 98, 41, 41, 41, 41, 41]⟩
theorem split_A : split sA = wsA := by
  rw [split_toks]
  rfl

theorem nmy (s : St) : name (mkB [121]) s = s := rfl
theorem itoa2 : Lib.itoa 2 = [50] := by simp [Lib.itoa, Lib.decDigits]
theorem num2 : number (mkB [50]) = (2, true) := by
  have e : Lib.atoiAll (mkB [50]).data.toList = .ok 2 := by rw [mk_data]; rfl
  unfold number; rw [e]; dsimp only; rw [itoa2, mk_list]; rfl
theorem leaf2 {α : Type} (s : St) : (leaf (α := α) (mkB [50]) s).2 = s := by unfold leaf; rw [num2]; rfl
theorem numy : (number (mkB [121])).2 = false := by
  have e : (match Lib.atoiAll (mkB [121]).data.toList with | .ok _ => false | _ => true) = true := by rw [mk_data]; rfl
  unfold number
  cases h : Lib.atoiAll (mkB [121]).data.toList with
  | ok v => rw [h] at e; cases e
  | range => rfl
  | _ => rfl
theorem leafy {α : Type} (s : St) : (leaf (α := α) (mkB [121]) s).2 = s := by
  unfold leaf; rw [if_neg (by rw [numy]; decide)]; rfl
theorem tag1 (s : St) : (tag (mkB [35, 49]) s).2 = s := by
  have h : tagOf (mkB [35, 49]) = (1, true) := by
    unfold tagOf
    rw [mk_data]
    have e : (⟨(Lib.trimPrefix [35, 49] [35]).toArray⟩ : ByteArray) = mkB [49] := rfl
    rw [e, num1]; rfl
  unfold tag; rw [h]; rfl
theorem tagBad (r : List ByteArray) : (tag (mkB [40]) ⟨r, 0⟩).2 = ⟨[], 2⟩ := by
  have h : (tagOf (mkB [40])).2 = false := by unfold tagOf; rw [mk_data]; rfl
  unfold tag; dsimp only; rw [h]; rfl

theorem case_A (r : List ByteArray) : (case1 (term 24) ⟨mkB [40] :: mkB [40] :: r, 0⟩).2 = ⟨[], 2⟩ := by
  unfold case1
  dsimp only
  rw [ex [40] _ _ _ lit40, nx]
  dsimp only
  rw [tagBad, names_st 2 (by decide), term_st 23 2 (by decide), expect_st _ 2 (by decide)]
theorem match_A (r : List ByteArray) : (term 25 ⟨mkB [40] :: mkB [109, 97, 116, 99, 104] :: mkB [121] :: mkB [40] :: mkB [40] :: r, 0⟩).2 = ⟨[], 2⟩ := by
  have h : term 25 ⟨mkB [40] :: mkB [109, 97, 116, 99, 104] :: mkB [121] :: mkB [40] :: mkB [40] :: r, 0⟩ = branch (term 24) ⟨mkB [109, 97, 116, 99, 104] :: mkB [121] :: mkB [40] :: mkB [40] :: r, 0⟩ := tb 23 _ _
  have h1 : (term 24 ⟨mkB [121] :: mkB [40] :: mkB [40] :: r, 0⟩).2 = ⟨mkB [40] :: mkB [40] :: r, 0⟩ := by
    have := tl 22 [121] (mkB [40] :: mkB [40] :: r) 0 (by decide)
    have h2 : (term 24 ⟨mkB [121] :: mkB [40] :: mkB [40] :: r, 0⟩).2 = (leaf (α := TT 23) (mkB [121]) ⟨mkB [40] :: mkB [40] :: r, 0⟩).2 := congrArg (·.2) this
    rw [h2, leafy]
  have h3 : (branch (term 24) ⟨mkB [109, 97, 116, 99, 104] :: mkB [121] :: mkB [40] :: mkB [40] :: r, 0⟩).2 = ⟨[], 2⟩ := by
    unfold branch
    rw [nx]
    dsimp only
    rw [if_neg (by rw [mk_data]; decide), if_neg (by rw [mk_list]; decide), if_pos (by rw [mk_list]; decide)]
    dsimp only
    rw [h1, cases, mo0 _ _ _ (by decide)]
    dsimp only
    rw [if_pos rfl]
    dsimp only
    rw [case_A, cases_st _ _ 2 (by decide)]
  exact (congrArg (·.2) h).trans h3
theorem con_A (r : List ByteArray) : (term 25 ⟨mkB [40] :: mkB [35, 49] :: mkB [120] :: mkB [50] :: mkB [41] :: r, 0⟩).2 = ⟨r, 0⟩ := by
  have h : term 25 ⟨mkB [40] :: mkB [35, 49] :: mkB [120] :: mkB [50] :: mkB [41] :: r, 0⟩ = branch (term 24) ⟨mkB [35, 49] :: mkB [120] :: mkB [50] :: mkB [41] :: r, 0⟩ := tb 23 _ _
  have h1 : ∀ q, (term 24 ⟨mkB [120] :: q, 0⟩).2 = ⟨q, 0⟩ := fun q => by
    have h2 : (term 24 ⟨mkB [120] :: q, 0⟩).2 = (leaf (α := TT 23) (mkB [120]) ⟨q, 0⟩).2 := congrArg (·.2) (tl 22 [120] q 0 (by decide))
    rw [h2, leafx]
  have h4 : ∀ q, (term 24 ⟨mkB [50] :: q, 0⟩).2 = ⟨q, 0⟩ := fun q => by
    have h2 : (term 24 ⟨mkB [50] :: q, 0⟩).2 = (leaf (α := TT 23) (mkB [50]) ⟨q, 0⟩).2 := congrArg (·.2) (tl 22 [50] q 0 (by decide))
    rw [h2, leaf2]
  have h3 : (branch (term 24) ⟨mkB [35, 49] :: mkB [120] :: mkB [50] :: mkB [41] :: r, 0⟩).2 = ⟨r, 0⟩ := by
    unfold branch
    rw [nx]
    dsimp only
    rw [if_pos (by rw [mk_data]; decide)]
    dsimp only
    rw [tag1]
    show (terms (term 24) ((r.length + 1) + 3) _).2 = _
    rw [terms, mo0 _ _ _ (by decide)]
    dsimp only
    rw [if_pos rfl]
    dsimp only
    rw [h1, terms, mo0 _ _ _ (by decide)]
    dsimp only
    rw [if_pos rfl]
    dsimp only
    rw [h4, terms, mo1]
    rfl
  exact (congrArg (·.2) h).trans h3
theorem let_A : (term 26 ⟨mkB [40] :: mkB [108, 101, 116] :: mkB [121] :: mkB [40] :: mkB [35, 49] :: mkB [120] :: mkB [50] :: mkB [41] :: wsA2, 0⟩).2 = ⟨[], 2⟩ := by
  have h : term 26 ⟨mkB [40] :: mkB [108, 101, 116] :: mkB [121] :: mkB [40] :: mkB [35, 49] :: mkB [120] :: mkB [50] :: mkB [41] :: wsA2, 0⟩ = branch (term 25) ⟨mkB [108, 101, 116] :: mkB [121] :: mkB [40] :: mkB [35, 49] :: mkB [120] :: mkB [50] :: mkB [41] :: wsA2, 0⟩ := tb 24 _ _
  have h3 : (branch (term 25) ⟨mkB [108, 101, 116] :: mkB [121] :: mkB [40] :: mkB [35, 49] :: mkB [120] :: mkB [50] :: mkB [41] :: wsA2, 0⟩).2 = ⟨[], 2⟩ := by
    unfold branch
    rw [nx]
    dsimp only
    rw [if_neg (by rw [mk_data]; decide), if_pos (by rw [mk_list]; decide), nx]
    dsimp only
    rw [nmy]
    unfold two
    dsimp only
    rw [con_A]
    unfold wsA2
    rw [match_A, expect_st _ 2 (by decide)]
  exact (congrArg (·.2) h).trans h3
theorem function_A : (function ⟨wsA, 0⟩).2 = ⟨[], 2⟩ := by
  unfold function wsA
  rw [ex [40] _ _ _ lit40, ex [102, 110] _ _ _ litfn]
  dsimp only
  rw [nx]
  dsimp only
  rw [nmf]
  have hn : ∀ r, (names ⟨mkB [40] :: mkB [120] :: mkB [41] :: r, 0⟩).2 = ⟨r, 0⟩ := fun r => by
    unfold names
    rw [ex [40] _ _ _ lit40]
    show (namesTo ((r.length + 2) + 2) _).2 = _
    rw [namesTo, mo0 _ _ _ (by decide), nx]
    dsimp only
    rw [nmx, if_pos rfl, namesTo, mo1]
    rfl
  rw [hn, let_A, expect_st _ 2 (by decide)]
theorem parse_A : parse sA = ([], 2) := by
  unfold parse
  rw [if_neg (by decide), split_A]
  have hf : (functions (wsA.length + 1) ⟨wsA, 0⟩).2 = ⟨[], 2⟩ := by
    show (functions wsA.length (function ⟨wsA, 0⟩).2).2 = _
    rw [function_A]
    rfl
  unfold parseWs
  rw [hf]
  rfl

end Go.Proofs.YtodolmdiebgmjaaDoor.Pu
