/- 'Same': lists of names. -/
import Derived.Test.YtmjpfiecgkoaeaaC2
namespace Go.Proofs.Ytmjpfiecgkoaeaa
open Go.RowKit Go.Maps Go.WideMaps

namespace Pu
def sameList {α : Type} (S : α → α → Bool) : List α → List α → Bool
  | [], [] => true
  | a :: l, b :: r => S a b && sameList S l r
  | _, _ => false
def sameCase {α : Type} (S : α → α → Bool) (a b : Int × List ByteArray × α) : Bool := decide (a.1 = b.1) && decide (a.2.1 = b.2.1) && S a.2.2 b.2.2
def sameN {α : Type} (S : α → α → Bool) (a b : Node α) : Bool :=
  decide (a.kind = b.kind) && decide (a.n = b.n) && decide (a.name = b.name) && decide (a.token = b.token) && decide (a.vars = b.vars) && sameList S a.args b.args && sameList (sameCase S) a.cases b.cases
/-- Are two terms the same? -/
def same : (k : Nat) → TT k → TT k → Bool
  | 0, _, _ => true
  | k + 1, a, b => sameN (same k) a b

theorem sameList_ne {α : Type} (S : α → α → Bool) : ∀ (a b : List α), a.length ≠ b.length → sameList S a b = false
  | [], [], h => absurd rfl h
  | [], _ :: _, _ => rfl
  | _ :: _, [], _ => rfl
  | a :: l, b :: r, h => by simp only [sameList]; rw [sameList_ne S l r (by simpa using h)]; simp
theorem sameList_all {α : Type} (S : α → α → Bool) : ∀ (a b : List α), a.length = b.length → (∀ i (h : i < a.length) (h' : i < b.length), S a[i] b[i] = true) → sameList S a b = true
  | [], [], _, _ => rfl
  | [], _ :: _, h, _ => by simp at h
  | _ :: _, [], h, _ => by simp at h
  | a :: l, b :: r, h, hs => by
    simp only [sameList]
    rw [sameList_all S l r (by simpa using h) (fun i h1 h2 => hs (i + 1) (by simpa using h1) (by simpa using h2))]
    have := hs 0 (by simp) (by simp)
    simp at this
    simp [this]
theorem sameList_not {α : Type} (S : α → α → Bool) : ∀ (a b : List α) (i : Nat) (h : i < a.length) (h' : i < b.length), S a[i] b[i] = false → sameList S a b = false
  | [], _, i, h, _, _ => by simp at h
  | _ :: _, [], i, _, h, _ => by simp at h
  | a :: l, b :: r, 0, _, _, hs => by simp at hs; simp [sameList, hs]
  | a :: l, b :: r, i + 1, h, h', hs => by
    simp only [sameList]
    rw [sameList_not S l r i (by simpa using h) (by simpa using h') (by simpa using hs)]
    simp
theorem same_refl : ∀ (k : Nat) (t : TT k), same k t t = true
  | 0, _ => rfl
  | k + 1, t => by
    show sameN (same k) t t = true
    have h1 : sameList (same k) t.args t.args = true := sameList_all _ _ _ rfl (fun i _ _ => same_refl k _)
    have h2 : sameList (sameCase (same k)) t.cases t.cases = true := sameList_all _ _ _ rfl (fun i _ _ => by simp [sameCase, same_refl k])
    simp [sameN, h1, h2]
end Pu

theorem str_ne {x y : ByteArray} (h : ¬ x = y) : (!x.toList == y.toList) = true := by
  have : ¬ x.toList = y.toList := fun e => h (by rw [ByteArray.toList_eq, ByteArray.toList_eq] at e; exact WideShapes.bytes_inj e)
  simp [this]
theorem str_ne' {x y : ByteArray} (h : ¬ x = y) : (x.toList == y.toList) = false := by
  have := str_ne h
  simpa using this
theorem names_ext {a b : List ByteArray} (hl : a.length = b.length) (h : ∀ i (h1 : i < a.length) (h2 : i < b.length), a[i] = b[i]) : a = b := List.ext_getElem hl h

set_option maxHeartbeats 1000000 in
theorem equal_any (B1 B2 : Nat) (v1 v2 : Value) (l1 l2 : List ByteArray) (w : World) (h1 : Names B1 w v1 l1) (h2 : Names B2 w v2 l2) :
    Calls Try.prog 29 #[v1, v2] w fun e w' => e = .returned (.bool (decide (l1 = l2))) ∧ Fr No w w' := by
  obtain ⟨a1, c1, rfl, hc1, hc1'⟩ := h1.1.form
  obtain ⟨a2, c2, rfl, hc2, hc2'⟩ := h2.1.form
  unfold maxLen at hc1' hc2'
  have H1 := hide h1
  have H2 := hide h2
  clear h1 h2
  by_cases hl : l1.length = l2.length
  · rw [← hl]
    have HL := hide hl
    have hc2'' : l1.length ≤ c2 := by omega
    clear hl hc2
    go_enter Try.func29, Try.ntmps29
    go_wp2_with fail
    go_loopw [13] (fun q wr => ∃ i : Nat, i ≤ l1.length ∧ q = .int .i64 i ∧ (∃ n, wr = w.drewN n) ∧ ∀ j (h1 : j < l1.length) (h2 : j < l2.length), j < i → l1[j] = l2[j]) (fun q _ => l1.length - (intOf q).toNat)
    case atStart => exact ⟨0, Nat.zero_le _, rfl, ⟨0, rfl⟩, fun j _ _ hj => absurd hj (by omega)⟩
    case round =>
      obtain ⟨i, hi, rfl, ⟨m, rfl⟩, hall⟩ := hrel
      have HA := hide hall
      clear hall
      by_cases hlt : i < l1.length
      · obtain ⟨g1, o1, cp1, hv1, _, _, hg1, hcell1, _⟩ := H1.out.at hlt
        injection hv1 with hv1 _ hv2
        subst hv1 hv2
        obtain ⟨g2, o2, cp2, hv1, _, _, hg2, hcell2, _⟩ := H2.out.at (show i < l2.length by have := HL.out; omega)
        injection hv1 with hv1 _ hv2
        subst hv1 hv2
        have i1 : (i : Int) < (l1.length : Int) := by omega
        have i0 : (0 : Int) ≤ (i : Int) := by omega
        obtain ⟨x, hx⟩ : ∃ x, x = l1[i] := ⟨_, rfl⟩
        obtain ⟨y, hy⟩ : ∃ y, y = l2[i]'(by have := HL.out; omega) := ⟨_, rfl⟩
        rw [← hx] at hcell1
        rw [← hy] at hcell2
        have HX := hide hx
        have HY := hide hy
        clear hx hy
        by_cases e : x = y
        · subst e
          go_wp2_with fail
          go_quiet (fail)
          go_wp2_with fail
          go_roundw
          case rel =>
            refine ⟨i + 1, by omega, by go_num, ⟨_, rfl⟩, fun j h1 h2 hj => ?_⟩
            by_cases hji : j = i
            · subst hji; rw [← HX.out, ← HY.out]
            · exact HA.out j h1 h2 (by omega)
          case measure => simp [intOf]; omega
        · have e' : (!x.toList == y.toList) = true := str_ne e
          go_wp2_with fail
          go_quiet (fail)
          go_wp2_with fail
          go_ret
          have hne : ¬ l1 = l2 := fun h => e (by rw [HX.out, HY.out]; exact List.getElem_of_eq h _)
          rw [decide_eq_false hne]
          exact ⟨rfl, ((Fr.refl No w).drewN _).drewN _⟩
      · have hil : i = l1.length := by omega
        subst hil
        go_wp2_with fail
        go_ret
        have e : l1 = l2 := names_ext HL.out (fun j h1 h2 => HA.out j h1 h2 h1)
        rw [decide_eq_true e]
        exact ⟨rfl, (Fr.refl No w).drewN m⟩
  · have hl' : ((l1.length : Int) != (l2.length : Int)) = true := by simp; omega
    go_enter Try.func29, Try.ntmps29
    go_wp2_with fail
    go_ret
    rw [decide_eq_false (fun e => hl (by rw [e]))]
    exact ⟨rfl, Fr.refl No w⟩
end Go.Proofs.Ytmjpfiecgkoaeaa
