/- The law's own small functions. -/
import Derived.Test.YtmjpfiecgkoaeaaS3
import Derived.Test.YtmjpfiecgkoaeaaO5
import Derived.Test.YtmjpfiecgkoaeaaW6
namespace Go.Proofs.Ytmjpfiecgkoaeaa
open Go.RowKit Go.Maps Go.WideMaps

set_option maxHeartbeats 1000000 in
theorem sameNames_any (B1 B2 : Nat) (v1 v2 : Value) (l1 l2 : List ByteArray) (w : World) (h1 : Names B1 w v1 l1) (h2 : Names B2 w v2 l2) :
    Calls Try.prog 13 #[v1, v2] w fun e w' => e = .returned (.bool (decide (l1 = l2))) ∧ Fr No w w' := by
  obtain ⟨a1, c1, rfl, hc1, hc1'⟩ := h1.1.form
  obtain ⟨a2, c2, rfl, hc2, hc2'⟩ := h2.1.form
  unfold maxLen at hc1' hc2'
  have H1 := hide h1
  have H2 := hide h2
  clear h1 h2
  by_cases hl : l1.length = l2.length
  · rw [← hl]
    have HL := hide hl
    have hc2'' : l1.length ≤ c2 := by omega
    clear hl hc2
    go_enter Try.func13, Try.ntmps13
    go_wp2_with fail
    go_loopw [13] (fun q wr => ∃ i : Nat, i ≤ l1.length ∧ q = .int .i64 i ∧ (∃ n, wr = w.drewN n) ∧ ∀ j (h1 : j < l1.length) (h2 : j < l2.length), j < i → l1[j] = l2[j]) (fun q _ => l1.length - (intOf q).toNat)
    case atStart => exact ⟨0, Nat.zero_le _, rfl, ⟨0, rfl⟩, fun j _ _ hj => absurd hj (by omega)⟩
    case round =>
      obtain ⟨i, hi, rfl, ⟨m, rfl⟩, hall⟩ := hrel
      have HA := hide hall
      clear hall
      by_cases hlt : i < l1.length
      · obtain ⟨g1, o1, cp1, hv1, _, _, hg1, hcell1, _⟩ := H1.out.at hlt
        injection hv1 with hv1 _ hv2
        subst hv1 hv2
        obtain ⟨g2, o2, cp2, hv1, _, _, hg2, hcell2, _⟩ := H2.out.at (show i < l2.length by have := HL.out; omega)
        injection hv1 with hv1 _ hv2
        subst hv1 hv2
        have i1 : (i : Int) < (l1.length : Int) := by omega
        have i0 : (0 : Int) ≤ (i : Int) := by omega
        obtain ⟨x, hx⟩ : ∃ x, x = l1[i] := ⟨_, rfl⟩
        obtain ⟨y, hy⟩ : ∃ y, y = l2[i]'(by have := HL.out; omega) := ⟨_, rfl⟩
        rw [← hx] at hcell1
        rw [← hy] at hcell2
        have HX := hide hx
        have HY := hide hy
        clear hx hy
        by_cases e : x = y
        · subst e
          go_wp2_with fail
          go_quiet (fail)
          go_wp2_with fail
          go_roundw
          case rel =>
            refine ⟨i + 1, by omega, by go_num, ⟨_, rfl⟩, fun j h1 h2 hj => ?_⟩
            by_cases hji : j = i
            · subst hji; rw [← HX.out, ← HY.out]
            · exact HA.out j h1 h2 (by omega)
          case measure => simp [intOf]; omega
        · have e' : (!x.toList == y.toList) = true := str_ne e
          go_wp2_with fail
          go_quiet (fail)
          go_wp2_with fail
          go_ret
          have hne : ¬ l1 = l2 := fun h => e (by rw [HX.out, HY.out]; exact List.getElem_of_eq h _)
          rw [decide_eq_false hne]
          exact ⟨rfl, ((Fr.refl No w).drewN _).drewN _⟩
      · have hil : i = l1.length := by omega
        subst hil
        go_wp2_with fail
        go_ret
        have e : l1 = l2 := names_ext HL.out (fun j h1 h2 => HA.out j h1 h2 h1)
        rw [decide_eq_true e]
        exact ⟨rfl, (Fr.refl No w).drewN m⟩
  · have hl' : ((l1.length : Int) != (l2.length : Int)) = true := by simp; omega
    go_enter Try.func13, Try.ntmps13
    go_wp2_with fail
    go_ret
    rw [decide_eq_false (fun e => hl (by rw [e]))]
    exact ⟨rfl, Fr.refl No w⟩

/-- A variable, as a term. -/
def varN (k : Nat) (x : ByteArray) : Pu.TT (k + 1) := ⟨1, 0, x, ⟨#[]⟩, [], [], []⟩
/-- A number, as a term. -/
def intN (k : Nat) : Pu.TT (k + 1) := ⟨2, 0, ⟨#[]⟩, ⟨#[]⟩, [], [], []⟩
/-- A let, as a term. -/
def letN (k : Nat) (x : ByteArray) (a b : Pu.TT k) : Pu.TT (k + 1) := ⟨6, 0, x, ⟨#[]⟩, [], [a, b], []⟩

theorem wf0 : (Lit.int .i64 0).wf = true := by decide
theorem rt_var (k B : Nat) (w : World) (x : ByteArray) (hx : x.size ≤ maxLen) : RT (k + 1) B w [.int .i64 1, .int .i64 0, .string x, .string ⟨#[]⟩, .slice none 0 0, .slice none 0 0, .slice none 0 0] (varN k x) :=
  ⟨_, _, _, [], [], rfl, hx, wf0, ⟨Row.nil _ _, fun y hy => by simp [varN] at hy⟩, Row.nil _ _, rfl, Row.nil _ _, rfl⟩
theorem rt_int (k B : Nat) (w : World) : RT (k + 1) B w [.int .i64 2, .int .i64 0, .string ⟨#[]⟩, .string ⟨#[]⟩, .slice none 0 0, .slice none 0 0, .slice none 0 0] (intN k) :=
  ⟨_, _, _, [], [], rfl, Nat.zero_le _, wf0, ⟨Row.nil _ _, fun y hy => by simp [intN] at hy⟩, Row.nil _ _, rfl, Row.nil _ _, rfl⟩
theorem rt_let (k B g : Nat) (w : World) (x : ByteArray) (hx : x.size ≤ maxLen) (A C : List Value) (a b : Pu.TT k) (cur : Array Value) (hg : w.heap[g]? = some (.cells cur 27 (0, 0))) (hgB : g < B) (hcur : cur.toList = A ++ C) (hA : RT k B w A a) (hC : RT k B w C b) :
    RT (k + 1) B w [.int .i64 6, .int .i64 0, .string x, .string ⟨#[]⟩, .slice none 0 0, .slice (some ⟨g, 0, none⟩) 2 2, .slice none 0 0] (letN k x a b) := by
  refine ⟨_, _, _, A ++ C, [], rfl, hx, wf0, ⟨Row.nil _ _, fun y hy => by simp [letN] at hy⟩, ⟨_, _, rfl, Nat.le_refl _, by unfold maxLen; decide, fun _ => ⟨g, 0, rfl, hgB, lt_of_heap hg, fun i hi => ?_⟩⟩, ⟨A, C, rfl, hA.length, hA, C, [], by simp, hC.length, hC, rfl⟩, Row.nil _ _, rfl⟩
  rw [cell_of_heap hg, Nat.zero_add, ← hcur]; simp

set_option maxHeartbeats 1000000 in
theorem name_fn (x : ByteArray) (w : World) : Calls Try.prog 44 #[.string x] w fun e w' => e = .returned (.agg #[.int .i64 1, .int .i64 0, .string x, .string ⟨#[]⟩, .slice none 0 0, .slice none 0 0, .slice none 0 0]) ∧ Fr No w w' := by
  go_enter Try.func44, Try.ntmps44
  go_wp2_with fail
  exact bodyPost_ret (v := .agg #[.int .i64 1, .int .i64 0, .string x, .string ⟨#[]⟩, .slice none 0 0, .slice none 0 0, .slice none 0 0]) (by simp [results, Try.results44, go_sem]) rfl ⟨rfl, (Fr.refl No w).alloc _⟩

set_option maxHeartbeats 1000000 in
theorem let_fn (x : ByteArray) (k1 n1 k2 n2 : Int) (x1 y1 x2 y2 : ByteArray) (a0 a1 a2 b0 b1 b2 : Option Addr) (m0 c0 m1 c1 m2 c2 p0 d0 p1 d1 p2 d2 : Nat) (w : World) :
    Calls Try.prog 20 #[.string x, .agg #[.int .i64 k1, .int .i64 n1, .string x1, .string y1, .slice a0 m0 c0, .slice a1 m1 c1, .slice a2 m2 c2], .agg #[.int .i64 k2, .int .i64 n2, .string x2, .string y2, .slice b0 p0 d0, .slice b1 p1 d1, .slice b2 p2 d2]] w fun e w' =>
      ∃ g, e = .returned (.agg #[.int .i64 6, .int .i64 0, .string x, .string ⟨#[]⟩, .slice none 0 0, .slice (some ⟨g, 0, none⟩) 2 2, .slice none 0 0]) ∧ Fr No w w' ∧ w.heap.size ≤ g ∧
        w'.heap[g]? = some (.cells #[.int .i64 k1, .int .i64 n1, .string x1, .string y1, .slice a0 m0 c0, .slice a1 m1 c1, .slice a2 m2 c2, .int .i64 k2, .int .i64 n2, .string x2, .string y2, .slice b0 p0 d0, .slice b1 p1 d1, .slice b2 p2 d2] 27 (0, 0)) := by
  go_enter Try.func20, Try.ntmps20
  go_wp2_with fail
  have hg := heap_alloc_new (((w.alloc (.cells #[.int .i64 k1, .int .i64 n1, .string x1, .string y1, .slice a0 m0 c0, .slice a1 m1 c1, .slice a2 m2 c2] 27)).alloc (.cells #[.int .i64 k2, .int .i64 n2, .string x2, .string y2, .slice b0 p0 d0, .slice b1 p1 d1, .slice b2 p2 d2] 27)).alloc (.cells #[.int .i64 6, .int .i64 0, .string x, .string ⟨#[]⟩, .slice none 0 0, .slice (some ⟨w.heap.size + 1 + 1 + 1, 0, none⟩) 2 2, .slice none 0 0] 27)) (.cells #[.int .i64 k1, .int .i64 n1, .string x1, .string y1, .slice a0 m0 c0, .slice a1 m1 c1, .slice a2 m2 c2, .int .i64 k2, .int .i64 n2, .string x2, .string y2, .slice b0 p0 d0, .slice b1 p1 d1, .slice b2 p2 d2] 27)
  rw [World.size_alloc, World.size_alloc, World.size_alloc] at hg
  exact bodyPost_ret (v := .agg #[.int .i64 6, .int .i64 0, .string x, .string ⟨#[]⟩, .slice none 0 0, .slice (some ⟨w.heap.size + 1 + 1 + 1, 0, none⟩) 2 2, .slice none 0 0]) (by simp [results, Try.results20, go_sem]) rfl ⟨w.heap.size + 1 + 1 + 1, rfl, ((((Fr.refl No w).alloc _).alloc _).alloc _).alloc _, by omega, hg⟩
end Go.Proofs.Ytmjpfiecgkoaeaa
