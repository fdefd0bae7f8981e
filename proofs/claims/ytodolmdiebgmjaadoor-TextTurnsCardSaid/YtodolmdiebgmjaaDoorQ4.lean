/- Two texts that the laws ask first. No program in it. -/
import Derived.Test.YtodolmdiebgmjaaDoorQ3
namespace Go.Proofs.YtodolmdiebgmjaaDoor.Pu

theorem mk_list (l : List UInt8) : (mkB l).toList = l := ByteArray.toList_mk l
theorem mk_data (l : List UInt8) : (mkB l).data.toList = l := data_mkB l

def wsB : List ByteArray := [mkB [40], mkB [102, 110], mkB [102], mkB [40], mkB [120], mkB [41], mkB [40], mkB [43], mkB [120], mkB [49], mkB [41], mkB [41]]
def sB : ByteArray := ⟨#[40, 102, 110, 32, 102, 32, 40, 120, 41, 32, 40, 43, 32, 120, 32, 49, 41, 41]⟩
theorem split_B : split sB = wsB := by
  rw [split_toks]
  rfl

theorem itoa1 : Lib.itoa 1 = [49] := by simp [Lib.itoa, Lib.decDigits]
theorem num1 : number (mkB [49]) = (1, true) := by
  have e : Lib.atoiAll (mkB [49]).data.toList = .ok 1 := by rw [mk_data]; rfl
  unfold number; rw [e]; dsimp only; rw [itoa1, mk_list]; rfl
theorem numx : (number (mkB [120])).2 = false := by
  have e : (match Lib.atoiAll (mkB [120]).data.toList with | .ok _ => false | _ => true) = true := by rw [mk_data]; rfl
  unfold number
  cases h : Lib.atoiAll (mkB [120]).data.toList with
  | ok v => rw [h] at e; cases e
  | range => rfl
  | _ => rfl
theorem leaf1 {α : Type} (s : St) : leaf (α := α) (mkB [49]) s = (⟨2, 1, ⟨#[]⟩, [], []⟩, s) := by unfold leaf; rw [num1]; rfl
theorem leafx {α : Type} (s : St) : leaf (α := α) (mkB [120]) s = (⟨1, 0, mkB [120], [], []⟩, s) := by
  unfold leaf; rw [if_neg (by rw [numx]; decide)]; rfl

theorem nx (w : ByteArray) (r : List ByteArray) (e : Int) : next ⟨w :: r, e⟩ = (w, ⟨r, e⟩) := rfl
theorem ex (l : List UInt8) (r : List ByteArray) (e : Int) (y : ByteArray) (h : y.toList = l) : expect y ⟨mkB l :: r, e⟩ = ⟨r, e⟩ := by
  unfold expect; rw [nx]; dsimp only; rw [mk_list, h]; simp
theorem lit40 : (⟨#[40]⟩ : ByteArray).toList = [40] := ByteArray.toList_mk [40]
theorem lit41 : (⟨#[41]⟩ : ByteArray).toList = [41] := ByteArray.toList_mk [41]
theorem litfn : (⟨#[102, 110]⟩ : ByteArray).toList = [102, 110] := ByteArray.toList_mk [102, 110]
theorem nmf (s : St) : name (mkB [102]) s = s := rfl
theorem nmx (s : St) : name (mkB [120]) s = s := rfl
theorem mo0 (l : List UInt8) (r : List ByteArray) (e : Int) (h : (l == [41]) = false) : more ⟨mkB l :: r, e⟩ = (true, ⟨mkB l :: r, e⟩) := by
  unfold more; dsimp only; rw [mk_list, h]; rfl
theorem mo1 (r : List ByteArray) (e : Int) : more ⟨mkB [41] :: r, e⟩ = (false, ⟨r, e⟩) := by
  unfold more; dsimp only; rw [mk_list]; rfl

/-- A leaf at a level with room. -/
theorem tl (k : Nat) (l : List UInt8) (r : List ByteArray) (e : Int) (h : (l == [40]) = false) : term (k + 2) ⟨mkB l :: r, e⟩ = leaf (α := TT (k + 1)) (mkB l) ⟨r, e⟩ := by
  show termN _ false _ = _
  unfold termN; rw [nx]; dsimp only; rw [mk_list, h]; rfl
theorem tb (k : Nat) (r : List ByteArray) (e : Int) : term (k + 2) ⟨mkB [40] :: r, e⟩ = branch (term (k + 1)) ⟨r, e⟩ := by
  show termN _ false _ = _
  unfold termN; rw [nx]; dsimp only; rw [mk_list]; rfl

def tX : TT 25 := (⟨1, 0, mkB [120], [], []⟩ : Node (TT 24))
def t1 : TT 25 := (⟨2, 1, ⟨#[]⟩, [], []⟩ : Node (TT 24))
def tB : TT 26 := (⟨5, 1, ⟨#[]⟩, [tX, t1], []⟩ : Node (TT 25))

theorem term_B : term 26 ⟨[mkB [40], mkB [43], mkB [120], mkB [49], mkB [41], mkB [41]], 0⟩ = (tB, ⟨[mkB [41]], 0⟩) := by
  refine (tb 24 _ _).trans ?_
  show branch (term 25) _ = ((⟨5, 1, ⟨#[]⟩, [tX, t1], []⟩ : Node (TT 25)), _)
  unfold branch
  rw [nx]
  dsimp only
  rw [if_neg (by rw [mk_data]; decide), if_neg (by rw [mk_list]; decide), if_neg (by rw [mk_list]; decide), if_pos (by simp [primitive, mk_list])]
  have hp : primitive (mkB [43]) = 1 := by simp [primitive, mk_list]
  have ht : two (term 25) ⟨[mkB [120], mkB [49], mkB [41], mkB [41]], 0⟩ = ([tX, t1], ⟨[mkB [41]], 0⟩) := by
    have g1 : term 25 ⟨[mkB [120], mkB [49], mkB [41], mkB [41]], 0⟩ = (tX, ⟨[mkB [49], mkB [41], mkB [41]], 0⟩) := (tl 23 _ _ _ (by decide)).trans (leafx _)
    have g2 : term 25 ⟨[mkB [49], mkB [41], mkB [41]], 0⟩ = (t1, ⟨[mkB [41], mkB [41]], 0⟩) := (tl 23 _ _ _ (by decide)).trans (leaf1 _)
    unfold two
    rw [g1]
    dsimp only
    rw [g2]
    dsimp only
    rw [ex [41] _ _ _ lit41]
  rw [ht, hp]

theorem function_B : function ⟨wsB, 0⟩ = ((mkB [102], [mkB [120]], tB), ⟨[], 0⟩) := by
  unfold function wsB
  rw [ex [40] _ _ _ lit40, ex [102, 110] _ _ _ litfn]
  dsimp only
  rw [nx]
  dsimp only
  rw [nmf]
  have hn : names ⟨[mkB [40], mkB [120], mkB [41], mkB [40], mkB [43], mkB [120], mkB [49], mkB [41], mkB [41]], 0⟩ = ([mkB [120]], ⟨[mkB [40], mkB [43], mkB [120], mkB [49], mkB [41], mkB [41]], 0⟩) := by
    unfold names
    rw [ex [40] _ _ _ lit40]
    show namesTo (8 + 2) _ = _
    rw [namesTo, mo0 _ _ _ (by decide), nx]
    dsimp only
    rw [nmx, if_pos rfl, namesTo, mo1]
    rfl
  rw [hn]
  dsimp only
  rw [term_B]
  dsimp only
  rw [ex [41] _ _ _ lit41]

theorem parse_B : parse sB = ([(mkB [102], [mkB [120]], tB)], 0) := by
  unfold parse
  rw [if_neg (by decide), split_B]
  have hf : functions (wsB.length + 1) ⟨wsB, 0⟩ = ([(mkB [102], [mkB [120]], tB)], ⟨[], 0⟩) := by
    show ((function ⟨wsB, 0⟩).1 :: (functions 12 (function ⟨wsB, 0⟩).2).1, (functions 12 (function ⟨wsB, 0⟩).2).2) = _
    rw [function_B]
    rfl
  unfold parseWs
  rw [hf]
  rfl

theorem show_B : showT 26 tB = [40, 43, 32, 120, 32, 49, 41] := by
  show showN (showT 25) (⟨5, 1, ⟨#[]⟩, [tX, t1], []⟩ : Node (TT 25)) = _
  have e1 : showT 25 tX = [120] := by show showN _ (⟨1, 0, mkB [120], [], []⟩ : Node (TT 24)) = _; simp [showN, mk_data]
  have e2 : showT 25 t1 = [49] := by show showN _ (⟨2, 1, ⟨#[]⟩, [], []⟩ : Node (TT 24)) = _; simp [showN, itoa1]
  simp [showN, headB, argsB, sign, e1, e2]
theorem print_B : printB [(mkB [102], [mkB [120]], tB)] = [40, 102, 110, 32, 102, 32, 40, 120, 41, 32, 40, 43, 32, 120, 32, 49, 41, 41, 10] := by
  simp [printB, fnB, show_B, bracketB, mk_data, Lib.join]

end Go.Proofs.YtodolmdiebgmjaaDoor.Pu
