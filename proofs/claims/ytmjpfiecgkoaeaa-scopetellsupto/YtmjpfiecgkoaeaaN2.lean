/- A name asked for, guarded. -/
import Derived.Test.YtmjpfiecgkoaeaaN1
namespace Go.Proofs.Ytmjpfiecgkoaeaa
open Go.RowKit Go.Maps Go.WideMaps

theorem catch_idle (p : Addr) (w : World) :
    CallsD Try.prog 50 #[.pointer (some p)] .returning w fun e u' w' => e = .returned (.tuple #[]) ∧ u' = .returning ∧ w' = w := by
  refine callsD_of_wpS Try.func50 rfl fun c₀ cs hu => ?_
  apply wpS_seq
  apply wpS_region
  simp [wpOpsS, go_sem, recoverD, hu, Try.ntmps50, Exit.thenS]
  refine wpS_cond (t := false) (by simp [Act.eval, Array.replicate]) ?_
  simp only [Bool.false_eq_true, if_false]
  refine wpS_of_wp (wp_skip ?_)
  cases c₀
  simp_all [bodyPostS, results, Try.results50]

set_option maxHeartbeats 1000000 in
theorem guard_any (P : Nat) (x : ByteArray) (w : World) (hx : x.size ≤ maxLen) (hP : w.heap[P]? = some (.cells #[.func (.func 17) #[] #[]] 37 (0, 0))) :
    Calls Try.prog 49 #[.string x, .pointer (some ⟨P, 0, none⟩)] w fun e w' => e = .returned (.bool (isName x)) ∧ Fr No w w' := by
  have hmf : ∀ (fn : Fn) (first cap : Array Value) (w : World), (Instr.makeFunc fn first cap).run Try.prog w = .ok (.func fn first cap) w := fun _ _ _ _ => rfl
  have b0 : w.cell? ⟨P, 0, none⟩ = some (.func (.func 17) #[] #[]) := by rw [cell_of_heap hP]; rfl
  have hPs : P < w.heap.size := lt_of_heap hP
  clear hP
  go_enter_defers Try.func49, Try.ntmps49
  go_wp2_with fail
  refine (name_any x _ hx).mono ?_
  rintro e w1 ⟨rfl, n, rfl⟩
  have c1 : ((w.alloc (.cells #[.bool false] 4)).drewN n).cell? ⟨w.heap.size, 0, none⟩ = some (.bool false) := by
    show (w.alloc (.cells #[.bool false] 4)).cell? ⟨w.heap.size, 0, none⟩ = _
    rw [cell_of_heap (heap_alloc_new w (.cells #[.bool false] 4))]; rfl
  have z1 : ((w.alloc (.cells #[.bool false] 4)).drewN n).frozen? ⟨w.heap.size, 0, none⟩ = false := by
    show (w.alloc (.cells #[.bool false] 4)).frozen? ⟨w.heap.size, 0, none⟩ = _
    exact frozen_of_heap (heap_alloc_new w (.cells #[.bool false] 4)) 0
  go_wp2_with fail
  have c2 : (((w.alloc (.cells #[.bool false] 4)).drewN n).setCell ⟨w.heap.size, 0, none⟩ (.bool (isName x))).cell? ⟨w.heap.size, 0, none⟩ = some (.bool (isName x)) := by
    have h0 : ((w.alloc (.cells #[.bool false] 4)).drewN n).heap[w.heap.size]? = some (.cells #[.bool false] 4 (0, 0)) := heap_alloc_new w (.cells #[.bool false] 4)
    rw [cell_of_heap (one_set h0)]; rfl
  have f2 : Fr No w (((w.alloc (.cells #[.bool false] 4)).drewN n).setCell ⟨w.heap.size, 0, none⟩ (.bool (isName x))) := ((((Fr.refl No w).alloc _).drewN n)).setCell (.inr (Nat.le_refl _)) _
  clear c1 z1 hmf b0
  generalize (((w.alloc (.cells #[.bool false] 4)).drewN n).setCell ⟨w.heap.size, 0, none⟩ (.bool (isName x))) = w2 at c2 f2 ⊢
  refine leaves_cons (f := 50) (args := #[.pointer (some ⟨w.heap.size, 0, none⟩)]) (by simp) (by simp [go_sem]) ?_
  refine (catch_idle _ _).mono ?_
  rintro e u' w'' ⟨rfl, rfl, rfl⟩
  simp [Leaves, settle, results, Try.results49, go_sem, c2]
  exact f2
end Go.Proofs.Ytmjpfiecgkoaeaa
