/- The check's small functions. -/
import Derived.Test.YtmjpfiecgkoaeaaPc
import Derived.Test.YtmjpfiecgkoaeaaN2
import Derived.Test.YtmjpfiecgkoaeaaW4
namespace Go.Proofs.Ytmjpfiecgkoaeaa
open Go.RowKit Go.Maps Go.WideMaps

theorem unless_any (b : Bool) (e : Int) (w : World) : Calls Try.prog 59 #[.bool b, .int .i64 e] w fun r w' => r = .returned (.int .i64 (Pu.orErr b e)) ∧ w' = w := by
  cases b
  all_goals
    go_enter Try.func59, Try.ntmps59
    go_wp2_with fail
    go_ret
    exact ⟨rfl, rfl⟩

theorem isTag_any (n : Int) (w : World) : Calls Try.prog 60 #[.int .i64 n] w fun r w' => r = .returned (.bool (Pu.isTag n)) ∧ w' = w := by
  by_cases h1 : 0 ≤ n
  · by_cases h2 : n ≤ 9
    · have e : Pu.isTag n = true := decide_eq_true ⟨h1, h2⟩
      rw [e]
      go_enter Try.func60, Try.ntmps60
      go_wp2_with fail
      go_ret
      exact ⟨by simp, rfl⟩
    · have e : Pu.isTag n = false := decide_eq_false (by omega)
      rw [e]
      go_enter Try.func60, Try.ntmps60
      go_wp2_with fail
      go_ret
      exact ⟨by simp, rfl⟩
  · have e : Pu.isTag n = false := decide_eq_false (by omega)
    rw [e]
    go_enter Try.func60, Try.ntmps60
    go_wp2_with fail
    go_ret
    exact ⟨by simp, rfl⟩

set_option maxHeartbeats 2000000 in
theorem fits_any {α : Type} (t : Pu.Node α) (n : Int) (x y : ByteArray) (v4 : Value) (a1 a2 : Option Addr) (c1 c2 : Nat) (w : World) (h1 : t.args.length ≤ maxLen) (h2 : t.cases.length ≤ maxLen) :
    Calls Try.prog 56 #[.agg #[.int .i64 t.kind, .int .i64 n, .string x, .string y, v4, .slice a1 t.args.length c1, .slice a2 t.cases.length c2]] w fun r w' => r = .returned (.bool (Pu.fits t)) ∧ Fr No w w' := by
  obtain ⟨kd, n1, nm, tk, vs, args, cases⟩ := t
  simp only at h1 h2 ⊢
  have hfd : Pu.fits (⟨kd, n1, nm, tk, vs, args, cases⟩ : Pu.Node α) = (if kd = 7 then decide (args.length = 1) else if kd = 1 ∨ kd = 2 then decide (args.length = 0 ∧ cases.length = 0) else if kd = 5 ∨ kd = 6 then decide (args.length = 2 ∧ cases.length = 0) else decide (args.length ≤ 6 ∧ cases.length = 0)) := rfl
  rw [hfd]
  generalize args.length = na at *
  generalize cases.length = nc at *
  clear hfd
  unfold maxLen at h1 h2
  by_cases k7 : kd = 7
  · subst k7
    rw [if_pos rfl]
    by_cases hn : na = 1
    · subst hn
      rw [decide_eq_true rfl]
      go_enter Try.func56, Try.ntmps56
      go_wp2_with fail
      go_ret
      exact ⟨by first | rfl | (simp; done) | (simp; omega), (Fr.refl No w).alloc _⟩
    · have hn' : ¬ (na : Int) = 1 := by omega
      rw [decide_eq_false hn]
      go_enter Try.func56, Try.ntmps56
      go_wp2_with fail
      go_ret
      exact ⟨by first | rfl | (simp; done) | (simp; omega), (Fr.refl No w).alloc _⟩
  by_cases k1 : kd = 1
  · subst k1
    have e : (if (1 : Int) = 7 then decide (na = 1) else if (1 : Int) = 1 ∨ (1 : Int) = 2 then decide (na = 0 ∧ nc = 0) else if (1 : Int) = 5 ∨ (1 : Int) = 6 then decide (na = 2 ∧ nc = 0) else decide (na ≤ 6 ∧ nc = 0)) = decide (na = 0 ∧ nc = 0) := by simp
    rw [e]
    clear e
    by_cases hn : na = 0
    · by_cases hc : nc = 0
      · subst hn hc
        rw [decide_eq_true ⟨rfl, rfl⟩]
        go_enter Try.func56, Try.ntmps56
        go_wp2_with fail
        go_ret
        exact ⟨by first | rfl | (simp; done) | (simp; omega), (Fr.refl No w).alloc _⟩
      · have hc' : ¬ (nc : Int) = 0 := by omega
        subst hn
        rw [decide_eq_false (fun h => hc h.2)]
        go_enter Try.func56, Try.ntmps56
        go_wp2_with fail
        go_ret
        exact ⟨by first | rfl | (simp; done) | (simp; omega), (Fr.refl No w).alloc _⟩
    · have hn' : ¬ (na : Int) = 0 := by omega
      rw [decide_eq_false (fun h => hn h.1)]
      go_enter Try.func56, Try.ntmps56
      go_wp2_with fail
      go_ret
      exact ⟨by first | rfl | (simp; done) | (simp; omega), (Fr.refl No w).alloc _⟩
  by_cases k2 : kd = 2
  · subst k2
    have e : (if (2 : Int) = 7 then decide (na = 1) else if (2 : Int) = 1 ∨ (2 : Int) = 2 then decide (na = 0 ∧ nc = 0) else if (2 : Int) = 5 ∨ (2 : Int) = 6 then decide (na = 2 ∧ nc = 0) else decide (na ≤ 6 ∧ nc = 0)) = decide (na = 0 ∧ nc = 0) := by simp
    rw [e]
    clear e
    by_cases hn : na = 0
    · by_cases hc : nc = 0
      · subst hn hc
        rw [decide_eq_true ⟨rfl, rfl⟩]
        go_enter Try.func56, Try.ntmps56
        go_wp2_with fail
        go_ret
        exact ⟨by first | rfl | (simp; done) | (simp; omega), (Fr.refl No w).alloc _⟩
      · have hc' : ¬ (nc : Int) = 0 := by omega
        subst hn
        rw [decide_eq_false (fun h => hc h.2)]
        go_enter Try.func56, Try.ntmps56
        go_wp2_with fail
        go_ret
        exact ⟨by first | rfl | (simp; done) | (simp; omega), (Fr.refl No w).alloc _⟩
    · have hn' : ¬ (na : Int) = 0 := by omega
      rw [decide_eq_false (fun h => hn h.1)]
      go_enter Try.func56, Try.ntmps56
      go_wp2_with fail
      go_ret
      exact ⟨by first | rfl | (simp; done) | (simp; omega), (Fr.refl No w).alloc _⟩
  by_cases k5 : kd = 5
  · subst k5
    have e : (if (5 : Int) = 7 then decide (na = 1) else if (5 : Int) = 1 ∨ (5 : Int) = 2 then decide (na = 0 ∧ nc = 0) else if (5 : Int) = 5 ∨ (5 : Int) = 6 then decide (na = 2 ∧ nc = 0) else decide (na ≤ 6 ∧ nc = 0)) = decide (na = 2 ∧ nc = 0) := by simp
    rw [e]
    clear e
    by_cases hn : na = 2
    · by_cases hc : nc = 0
      · subst hn hc
        rw [decide_eq_true ⟨rfl, rfl⟩]
        go_enter Try.func56, Try.ntmps56
        go_wp2_with fail
        go_ret
        exact ⟨by first | rfl | (simp; done) | (simp; omega), (Fr.refl No w).alloc _⟩
      · have hc' : ¬ (nc : Int) = 0 := by omega
        subst hn
        rw [decide_eq_false (fun h => hc h.2)]
        go_enter Try.func56, Try.ntmps56
        go_wp2_with fail
        go_ret
        exact ⟨by first | rfl | (simp; done) | (simp; omega), (Fr.refl No w).alloc _⟩
    · have hn' : ¬ (na : Int) = 2 := by omega
      rw [decide_eq_false (fun h => hn h.1)]
      go_enter Try.func56, Try.ntmps56
      go_wp2_with fail
      go_ret
      exact ⟨by first | rfl | (simp; done) | (simp; omega), (Fr.refl No w).alloc _⟩
  by_cases k6 : kd = 6
  · subst k6
    have e : (if (6 : Int) = 7 then decide (na = 1) else if (6 : Int) = 1 ∨ (6 : Int) = 2 then decide (na = 0 ∧ nc = 0) else if (6 : Int) = 5 ∨ (6 : Int) = 6 then decide (na = 2 ∧ nc = 0) else decide (na ≤ 6 ∧ nc = 0)) = decide (na = 2 ∧ nc = 0) := by simp
    rw [e]
    clear e
    by_cases hn : na = 2
    · by_cases hc : nc = 0
      · subst hn hc
        rw [decide_eq_true ⟨rfl, rfl⟩]
        go_enter Try.func56, Try.ntmps56
        go_wp2_with fail
        go_ret
        exact ⟨by first | rfl | (simp; done) | (simp; omega), (Fr.refl No w).alloc _⟩
      · have hc' : ¬ (nc : Int) = 0 := by omega
        subst hn
        rw [decide_eq_false (fun h => hc h.2)]
        go_enter Try.func56, Try.ntmps56
        go_wp2_with fail
        go_ret
        exact ⟨by first | rfl | (simp; done) | (simp; omega), (Fr.refl No w).alloc _⟩
    · have hn' : ¬ (na : Int) = 2 := by omega
      rw [decide_eq_false (fun h => hn h.1)]
      go_enter Try.func56, Try.ntmps56
      go_wp2_with fail
      go_ret
      exact ⟨by first | rfl | (simp; done) | (simp; omega), (Fr.refl No w).alloc _⟩
  rw [if_neg k7, if_neg (by simp [k1, k2]), if_neg (by simp [k5, k6])]
  by_cases hn : na ≤ 6
  · have hn' : (na : Int) ≤ 6 := by omega
    by_cases hc : nc = 0
    · subst hc
      rw [decide_eq_true ⟨hn, rfl⟩]
      go_enter Try.func56, Try.ntmps56
      go_wp2_with fail
      go_ret
      exact ⟨by first | rfl | (simp; done) | (simp; omega), (Fr.refl No w).alloc _⟩
    · have hc' : ¬ (nc : Int) = 0 := by omega
      rw [decide_eq_false (fun h => hc h.2)]
      go_enter Try.func56, Try.ntmps56
      go_wp2_with fail
      go_ret
      exact ⟨by first | rfl | (simp; done) | (simp; omega), (Fr.refl No w).alloc _⟩
  · have hn' : ¬ (na : Int) ≤ 6 := by omega
    rw [decide_eq_false (fun h => hn h.1)]
    go_enter Try.func56, Try.ntmps56
    go_wp2_with fail
    go_ret
    exact ⟨by first | rfl | (simp; done) | (simp; omega), (Fr.refl No w).alloc _⟩
end Go.Proofs.Ytmjpfiecgkoaeaa
