/- own: 'slices.Backward' at names: what it hands to a loop's body. -/
import Derived.RangeFuncNested
import Derived.RangeFuncBox
import Derived.RangeFuncLeaves
import Derived.Shelf.Abstract
import Derived.WalkKit
import Derived.OwnWalkIn
import Derived.TacticsInMore
import Derived.LoopNIn
import Derived.LoopIn
import Derived.Test.YtdcdegeeaakekacDoorOw1Ow2
namespace Go.Proofs.YtdcdegeeaakekacDoor
open Go.RowKit Go.Shelf

attribute [local go_sem] Oper.semAt_some

/-- A name that a list can hold. -/
abbrev Nm := { x : ByteArray // x.size ≤ maxLen }
/-- What comes of a list, from its end on, when k rounds are over. -/
def bk (l : List Nm) (k : Nat) : List (Nat × Nm) := (List.range k).map fun j => (l.length - 1 - j, l.getD (l.length - 1 - j) ⟨⟨#[]⟩, by decide⟩)
theorem bk_succ (l : List Nm) (k : Nat) : bk l (k + 1) = bk l k ++ [(l.length - 1 - k, l.getD (l.length - 1 - k) ⟨⟨#[]⟩, by decide⟩)] := by simp [bk, List.range_succ]
theorem bk_length (l : List Nm) (k : Nat) : (bk l k).length = k := by simp [bk]
theorem bk_all (l : List Nm) : (bk l l.length).map (fun x => x.2) = l.reverse := by
  apply List.ext_getElem
  · simp [bk]
  · intro i h1 h2
    have hi : i < l.length := by simpa [bk] using h1
    have hj : l.length - 1 - i < l.length := by omega
    simp [bk, hj]

/-- What a round keeps: what lay below n₀, and the box of the list. -/
def KB (n₀ Bs : Nat) (W W' : World) : Prop := Below n₀ W W' ∧ ∀ v, W.cell? ⟨Bs, 0, none⟩ = some v → W'.cell? ⟨Bs, 0, none⟩ = some v
theorem KB.refl (n₀ Bs : Nat) (W : World) : KB n₀ Bs W W := ⟨Below.refl _ _, fun _ h => h⟩
theorem KB.trans {n₀ Bs : Nat} {A B C : World} (h : KB n₀ Bs A B) (k : KB n₀ Bs B C) : KB n₀ Bs A C := ⟨h.1.trans k.1, fun v hv => k.2 v (h.2 v hv)⟩
theorem KB.b {n₀ Bs : Nat} {w : World} (hn : n₀ ≤ w.heap.size) (W : World) (l : Nat) (o o' : Obj) (hl : w.heap.size ≤ l) (h : W.heap[l]? = some o) (hc : o.isCells = false) (hk : o.isWalk = false) : KB n₀ Bs W (W.putObj l o') :=
  ⟨belowK_b hn W l o o' hl h hc hk, fun v hv => cell_kept hv (grownBy_putObj' W l o') (fun r e => by cases e; exact ⟨o, h, hc⟩)⟩

set_option maxRecDepth 100000 in
set_option maxHeartbeats 2000000 in
theorem back1_in (F : Fence) (n : Nat) (h7 : F.fn 112) (hro : F.round = none) (hn : 1 ≤ n) (q Bs n₀ b off cap : Nat) (l : List Nm) (hreach : l.length ≤ 1099511627776) (hb : b < n₀) (J Jx : List (Nat × Nm) → World → Prop)
    (hY : ∀ pre x W, J pre W → pre.length < l.length → YieldAt F (n - 1) Tryd.prog q #[.int .i64 (x.1 : Int), .string x.2.1] W fun e W' =>
      (e = .returned (.bool true) ∧ J (pre ++ [x]) W' ∧ KB n₀ Bs W W') ∨ (e = .returned (.bool false) ∧ Jx (pre ++ [x]) W'))
    (W : World) (hBs : W.cell? ⟨Bs, 0, none⟩ = some (.slice (some ⟨b, off, none⟩) l.length cap)) (hc : ∀ j, j < l.length → W.cell? ⟨b, off + j, none⟩ = some (.string (l.getD j ⟨⟨#[]⟩, by decide⟩).1)) (h0 : J [] W) :
    CallsIn F n Tryd.prog 112 #[.func (.yield q) #[] #[], .pointer (some ⟨Bs, 0, none⟩)] W fun e W' => (∃ v, e = .returned v) ∧
      ((∃ ys, ys = bk l l.length ∧ J ys W') ∨ (∃ pre, (∃ k, k ≤ l.length ∧ pre = bk l k) ∧ Jx pre W')) := by
  refine callsIn_of_wp Tryd.func112 rfl h7 ?_ hro
  simp only [Tryd.ntmps112, List.size_toArray, List.length_cons, List.length_nil, Nat.reduceAdd, Nat.reduceSub, Array.replicate_succ, Array.replicate_zero, List.push_toArray, List.append_toArray, List.nil_append, List.cons_append]
  gi_wp2
  gi_loopw [3] (fun i wr => ∃ k : Nat, k ≤ l.length ∧ i = .int .i64 ((l.length : Int) - 1 - k) ∧ J (bk l k) wr ∧ KB n₀ Bs W wr)
    (fun i _ => (intOf i + 1).toNat)
  case atStart => exact ⟨0, Nat.zero_le _, by simp, h0, KB.refl _ _ _⟩
  case round =>
    obtain ⟨k, hk, rfl, hJs, hnx⟩ := hrel
    have hBs' := hnx.2 _ hBs
    by_cases hlt : k < l.length
    · have hcx : wr.cell? ⟨b, off + (l.length - 1 - k), none⟩ = some (.string (l.getD (l.length - 1 - k) ⟨⟨#[]⟩, by decide⟩).1) := (hnx.1.cell (p := ⟨b, off + (l.length - 1 - k), none⟩) hb).trans (hc _ (by omega))
      obtain ⟨fn, tmps, assign, body, hy, hR⟩ := hY _ (l.length - 1 - k, l.getD (l.length - 1 - k) ⟨⟨#[]⟩, by decide⟩) wr hJs (by rw [bk_length]; exact hlt)
      dsimp only at hy hR
      obtain ⟨m, hm⟩ : ∃ m : Nat, m = l.length - 1 - k := ⟨_, rfl⟩
      rw [← hm] at hcx hy hR
      obtain ⟨x, hx⟩ : ∃ x : Nm, x = l.getD m ⟨⟨#[]⟩, by decide⟩ := ⟨_, rfl⟩
      rw [← hx] at hcx hy hR
      have HXX := hide hx
      have hmi : (l.length : Int) - 1 - k = (m : Int) := by omega
      rw [hmi]
      have hml : m < l.length := by omega
      have HM := hide hm
      have HMI := hide hmi
      have HX := hide hnx
      clear hm hmi hnx hlt hx
      have m1 : (m : Int) < (l.length : Int) := by omega
      have m0 : (0 : Int) ≤ (m : Int) := by omega
      gi_wp2
      refine hR.mono ?_
      rintro e W3 (⟨rfl, hJ3, hk3⟩ | ⟨rfl, hJx3⟩)
      · gi_wp2
        go_roundw
        case rel =>
          have h1 := HM.out
          have h2 := HMI.out
          exact ⟨k + 1, by omega, by
            have e : (l.length : Int) - 1 - ((k + 1 : Nat) : Int) = (m : Int) - 1 := by omega
            rw [e], by rw [bk_succ, ← h1, ← HXX.out]; exact hJ3, HX.out.trans hk3⟩
        case measure => simp [intOf] <;> omega
      · gi_wp2
        refine bodyPost_ret (results_none rfl _ _ _) rfl ?_
        exact ⟨⟨_, rfl⟩, .inr ⟨_, ⟨k + 1, by have h1 := HM.out; have h2 := HMI.out; omega, by rw [bk_succ, ← HM.out, ← HXX.out]⟩, hJx3⟩⟩
    · obtain rfl : k = l.length := by omega
      have hmi : (l.length : Int) - 1 - (l.length : Int) = -1 := by omega
      rw [hmi]
      gi_wp2
      go_end0
      exact ⟨⟨_, rfl⟩, .inl ⟨_, rfl, hJs⟩⟩

set_option maxRecDepth 100000 in
set_option maxHeartbeats 1000000 in
theorem back1_nil_in (F : Fence) (n : Nat) (h7 : F.fn 112) (hro : F.round = none) (q Bs : Nat) (sa : Option Addr) (cap : Nat) (J : List (Nat × Nm) → World → Prop) (W : World) (hBs : W.cell? ⟨Bs, 0, none⟩ = some (.slice sa 0 cap)) (h0 : J [] W) :
    CallsIn F n Tryd.prog 112 #[.func (.yield q) #[] #[], .pointer (some ⟨Bs, 0, none⟩)] W fun e W' => (∃ v, e = .returned v) ∧ J [] W' := by
  refine callsIn_of_wp Tryd.func112 rfl h7 ?_ hro
  simp only [Tryd.ntmps112, List.size_toArray, List.length_cons, List.length_nil, Nat.reduceAdd, Nat.reduceSub, Array.replicate_succ, Array.replicate_zero, List.push_toArray, List.append_toArray, List.nil_append, List.cons_append]
  gi_wp2
  gi_loopw [3] (fun i wr => i = .int .i64 (-1) ∧ J [] wr) (fun _ _ => 0)
  case atStart => exact ⟨rfl, h0⟩
  case round =>
    obtain ⟨rfl, hJs⟩ := hrel
    gi_wp2
    go_end0
    exact ⟨⟨_, rfl⟩, hJs⟩

set_option maxHeartbeats 1000000 in
theorem back_in (F : Fence) (n : Nat) (h5 : F.fn 88) (hro : F.round = none) (a : Option Addr) (len cap : Nat) (w : World) :
    CallsIn F n Tryd.prog 88 #[.slice a len cap] w fun e w' => e = .returned (.func (.func 112) #[] #[.pointer (some ⟨w.heap.size, 0, none⟩)]) ∧ w' = w.alloc (.cells #[.slice a len cap] 27) := by
  refine callsIn_of_wp Tryd.func88 rfl h5 ?_ hro
  simp only [Tryd.ntmps88, List.size_toArray, List.length_cons, List.length_nil, Nat.reduceAdd, Nat.reduceSub, Array.replicate_succ, Array.replicate_zero, List.push_toArray, List.append_toArray, List.nil_append, List.cons_append]
  gi_wp2
  go_ret
  exact ⟨rfl, rfl⟩

/-- A list of names, in blocks below n₀. -/
def NmAt (n₀ : Nat) (W : World) (v : Value) (l : List Nm) : Prop :=
  ∃ a cap, v = .slice a l.length cap ∧ (0 < l.length → ∃ b off, a = some ⟨b, off, none⟩ ∧ b < n₀ ∧ ∀ j, j < l.length → W.cell? ⟨b, off + j, none⟩ = some (.string (l.getD j ⟨⟨#[]⟩, by decide⟩).1))
theorem NmAt.below {n₀ : Nat} {A B : World} (h : Below n₀ A B) {v : Value} {l : List Nm} (k : NmAt n₀ A v l) : NmAt n₀ B v l := by
  obtain ⟨a, cap, e, h2⟩ := k
  refine ⟨a, cap, e, fun h0 => ?_⟩
  obtain ⟨b, off, e2, hb, hc⟩ := h2 h0
  exact ⟨b, off, e2, hb, fun j hj => (h.cell (p := ⟨b, off + j, none⟩) hb).trans (hc j hj)⟩

theorem back_stops (F : Fence) (n : Nat) (h7 : F.fn 112) (hro : F.round = none) (hn : 1 ≤ n) (Bs n₀ : Nat) (sv : Value) (l : List Nm) (hreach : l.length ≤ 1099511627776) (w : World) (hBs : Bs < w.heap.size) (hn₀ : n₀ ≤ w.heap.size)
    (hc : w.cell? ⟨Bs, 0, none⟩ = some sv) (hI : NmAt n₀ w sv l) :
    SeqStopsK F n Tryd.prog 112 #[.pointer (some ⟨Bs, 0, none⟩)] (fun x : Nat × Nm => #[Value.int .i64 (x.1 : Int), Value.string x.2.1]) (KB n₀ Bs) (fun ys => ys = bk l l.length)
      (fun pre => ∃ k, k ≤ l.length ∧ pre = bk l k) l.length w := fun q J Jx W hW _ _ hY h0 => by
  have hc' := (hW.cell (p := ⟨Bs, 0, none⟩) hBs).trans hc
  obtain ⟨a, cap, rfl, h2⟩ := hI.below (hW.mono hn₀)
  rcases Nat.eq_zero_or_pos l.length with hl | hl
  · have e : l = [] := List.length_eq_zero_iff.1 hl
    subst e
    exact (back1_nil_in F n h7 hro q Bs a cap J W hc' h0).mono fun e W' ⟨he, hj⟩ => ⟨he, .inl ⟨_, rfl, hj⟩⟩
  · obtain ⟨b, off, rfl, hb, hcs⟩ := h2 hl
    exact back1_in F n h7 hro hn q Bs n₀ b off cap l hreach hb J Jx hY W hc' hcs h0
end Go.Proofs.YtdcdegeeaakekacDoor
