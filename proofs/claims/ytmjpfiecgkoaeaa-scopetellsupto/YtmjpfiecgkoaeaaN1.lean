/- 'xcref1.Name', and the guarded asking for it. -/
import Derived.Test.YtmjpfiecgkoaeaaW2
import Derived.Defers
import Derived.Recover
namespace Go.Proofs.Ytmjpfiecgkoaeaa
open Go.RowKit Go.Maps Go.WideMaps

def letter (c : UInt8) : Bool := decide (97 ≤ (c.toNat : Int) ∧ (c.toNat : Int) ≤ 122)
def digit (c : UInt8) : Bool := decide (48 ≤ (c.toNat : Int) ∧ (c.toNat : Int) ≤ 57)
/-- Is the sign at place i right in a name? -/
def okAt (s : ByteArray) (i : Nat) : Bool := if h : i < s.size then letter s[i] || (digit s[i] && decide (0 < i)) else true
def okTo (s : ByteArray) (n : Nat) : Bool := (List.range n).all (okAt s)
def isName (s : ByteArray) : Bool := okTo s s.size && decide (1 ≤ s.size ∧ s.size ≤ 8)

theorem okTo_succ (s : ByteArray) (n : Nat) : okTo s (n + 1) = (okTo s n && okAt s n) := by simp [okTo, List.range_succ, List.all_append]
theorem okTo_false {s : ByteArray} {n m : Nat} (h : n < m) (ho : okAt s n = false) : okTo s m = false := by
  unfold okTo
  rw [List.all_eq_false]
  exact ⟨n, by simpa using h, by simp [ho]⟩

set_option maxHeartbeats 2000000 in
theorem name_any (s : ByteArray) (w : World) (hs : s.size ≤ maxLen) :
    Calls Try.prog 17 #[.string s] w fun e w' => e = .returned (.bool (isName s)) ∧ ∃ n, w' = w.drewN n := by
  unfold maxLen at hs
  go_enter Try.func17, Try.ntmps17
  go_wp2_with fail
  go_loopw [8] (fun v wr => ∃ i : Nat, i ≤ s.size ∧ v = .int .i64 i ∧ okTo s i = true ∧ ∃ n, wr = w.drewN n) (fun v _ => s.size - (intOf v).toNat)
  case atStart => exact ⟨0, Nat.zero_le _, rfl, rfl, 0, rfl⟩
  case round =>
    obtain ⟨i, hi, rfl, hok, m, rfl⟩ := hrel
    have HOK := hide hok
    clear hok
    by_cases hlt : i < s.size
    · have i1 : (i : Int) < (s.size : Int) := by omega
      have i0 : (0 : Int) ≤ (i : Int) := by omega
      have hat : okAt s i = (letter s[i] || (digit s[i] && decide (0 < i))) := by unfold okAt; rw [dif_pos hlt]
      have HAT := hide hat
      clear hat
      have hc : (s[i].toNat : Int) < 48 ∨ (48 ≤ (s[i].toNat : Int) ∧ (s[i].toNat : Int) ≤ 57) ∨ (57 < (s[i].toNat : Int) ∧ (s[i].toNat : Int) < 97) ∨ (97 ≤ (s[i].toNat : Int) ∧ (s[i].toNat : Int) ≤ 122) ∨ 122 < (s[i].toNat : Int) := by omega
      rcases hc with hc | ⟨hc, hc'⟩ | ⟨hc, hc'⟩ | ⟨hc, hc'⟩ | hc
      · have hf : okAt s i = false := by rw [HAT.out]; simp [letter, digit]; omega
        have d1 : decide (97 ≤ (s[i].toNat : Int)) = false := by simp; omega
        have d3 : decide (48 ≤ (s[i].toNat : Int)) = false := by simp; omega
        go_wp2_with fail
        go_quiet (fail)
        go_wp2_with fail
        go_ret
        have e : isName s = false := by unfold isName; rw [okTo_false hlt hf]; rfl
        rw [e]
        exact ⟨rfl, _, rfl⟩
      · by_cases hi0 : i = 0
        · have hi1 : ((i : Int) == 0) = true := by simp [hi0]
          have HI0 := hide hi0
          have hf : okAt s i = false := by rw [HAT.out]; simp [letter, digit]; omega
          clear hi0
          have d1 : decide (97 ≤ (s[i].toNat : Int)) = false := by simp; omega
          have d3 : decide (48 ≤ (s[i].toNat : Int)) = true := by simp; omega
          have d4 : decide ((s[i].toNat : Int) ≤ 57) = true := by simp; omega
          go_wp2_with fail
          go_quiet (fail)
          go_wp2_with fail
          go_ret
          have e : isName s = false := by unfold isName; rw [okTo_false hlt hf]; rfl
          rw [e]
          exact ⟨rfl, _, rfl⟩
        · have hi1 : ¬ ((i : Int) = 0) := by omega
          have hf : okAt s i = true := by rw [HAT.out]; simp [letter, digit]; omega
          have d1 : decide (97 ≤ (s[i].toNat : Int)) = false := by simp; omega
          have d3 : decide (48 ≤ (s[i].toNat : Int)) = true := by simp; omega
          have d4 : decide ((s[i].toNat : Int) ≤ 57) = true := by simp; omega
          go_wp2_with fail
          go_quiet (fail)
          go_wp2_with fail
          go_roundw
          case rel => exact ⟨i + 1, by omega, by go_num, by rw [okTo_succ, HOK.out, hf]; rfl, _, rfl⟩
          case measure => simp [intOf]; omega
      · have hf : okAt s i = false := by rw [HAT.out]; simp [letter, digit]; omega
        have d1 : decide (97 ≤ (s[i].toNat : Int)) = false := by simp; omega
        have d3 : decide (48 ≤ (s[i].toNat : Int)) = true := by simp; omega
        have d4 : decide ((s[i].toNat : Int) ≤ 57) = false := by simp; omega
        go_wp2_with fail
        go_quiet (fail)
        go_wp2_with fail
        go_ret
        have e : isName s = false := by unfold isName; rw [okTo_false hlt hf]; rfl
        rw [e]
        exact ⟨rfl, _, rfl⟩
      · have hf : okAt s i = true := by rw [HAT.out]; simp [letter, digit]; omega
        have d1 : decide (97 ≤ (s[i].toNat : Int)) = true := by simp; omega
        have d2 : decide ((s[i].toNat : Int) ≤ 122) = true := by simp; omega
        have d3 : decide (48 ≤ (s[i].toNat : Int)) = true := by simp; omega
        have d4 : decide ((s[i].toNat : Int) ≤ 57) = false := by simp; omega
        go_wp2_with fail
        go_quiet (fail)
        go_wp2_with fail
        go_roundw
        case rel => exact ⟨i + 1, by omega, by go_num, by rw [okTo_succ, HOK.out, hf]; rfl, _, rfl⟩
        case measure => simp [intOf]; omega
      · have hf : okAt s i = false := by rw [HAT.out]; simp [letter, digit]; omega
        have d1 : decide (97 ≤ (s[i].toNat : Int)) = true := by simp; omega
        have d2 : decide ((s[i].toNat : Int) ≤ 122) = false := by simp; omega
        have d3 : decide (48 ≤ (s[i].toNat : Int)) = true := by simp; omega
        have d4 : decide ((s[i].toNat : Int) ≤ 57) = false := by simp; omega
        go_wp2_with fail
        go_quiet (fail)
        go_wp2_with fail
        go_ret
        have e : isName s = false := by unfold isName; rw [okTo_false hlt hf]; rfl
        rw [e]
        exact ⟨rfl, _, rfl⟩
    · have hil : i = s.size := by omega
      subst hil
      have hn : isName s = decide (1 ≤ s.size ∧ s.size ≤ 8) := by unfold isName; rw [HOK.out]; rfl
      have HN := hide hn
      clear hn
      by_cases h1 : 1 ≤ s.size
      · by_cases h8 : s.size ≤ 8
        · have k1 : (1 : Int) ≤ s.size := by omega
          have k8 : (s.size : Int) ≤ 8 := by omega
          go_wp2_with fail
          go_ret
          exact ⟨by rw [HN.out, decide_eq_true ⟨h1, h8⟩]; simp, m, rfl⟩
        · have k1 : (1 : Int) ≤ s.size := by omega
          have k8 : ¬ (s.size : Int) ≤ 8 := by omega
          go_wp2_with fail
          go_ret
          exact ⟨by rw [HN.out, decide_eq_false (by omega)]; simp, m, rfl⟩
      · have k1 : ¬ (1 : Int) ≤ s.size := by omega
        go_wp2_with fail
        go_ret
        exact ⟨by rw [HN.out, decide_eq_false (by omega)]; simp, m, rfl⟩
end Go.Proofs.Ytmjpfiecgkoaeaa
