/- 'Free', walked. -/
import Derived.Test.YtmjpfiecgkoaeaaW5
namespace Go.Proofs.Ytmjpfiecgkoaeaa
open Go.RowKit Go.Maps Go.WideMaps

theorem needs_all : ∀ k, NeedsC k
  | 0 => fun _ _ _ _ _ _ _ _ _ _ _ _ _ h => h.elim
  | k + 1 => needs_node k (needs_all k)

/-- Where the asking begins. -/
theorem free_start (w : World) (B : Nat) (hB : B ≤ w.heap.size) : ∃ W, FS B (w.heap.size + 1) (w.heap.size + 1 + 1 + 1) w.heap.size (w.heap.size + 1 + 1) (w.heap.size + 1 + 1 + 1 + 1) 0 W (fun _ => 0) [] (.slice none 0 0) ∧ Fr No w W ∧
    W = (((((w.alloc (.cells #[.slice none 0 0] 23)).alloc (.map #[] 0)).alloc (.cells #[.map (some (w.heap.size + 1))] 61)).alloc (.map #[] 0)).alloc (.cells #[.map (some (w.heap.size + 1 + 1 + 1))] 60)) := by
  refine ⟨_, ?_, ?_, rfl⟩
  · have m1 := MapC.made (w.alloc (.cells #[.slice none 0 0] 23))
    rw [World.size_alloc] at m1
    have m2 := MapC.made (((w.alloc (.cells #[.slice none 0 0] 23)).alloc (.map #[] 0)).alloc (.cells #[.map (some (w.heap.size + 1))] 61))
    rw [World.size_alloc, World.size_alloc, World.size_alloc] at m2
    have b1 := heap_alloc_new w (.cells #[.slice none 0 0] 23)
    have b2 := heap_alloc_new ((w.alloc (.cells #[.slice none 0 0] 23)).alloc (.map #[] 0)) (.cells #[.map (some (w.heap.size + 1))] 61)
    rw [World.size_alloc, World.size_alloc] at b2
    have b3 := heap_alloc_new ((((w.alloc (.cells #[.slice none 0 0] 23)).alloc (.map #[] 0)).alloc (.cells #[.map (some (w.heap.size + 1))] 61)).alloc (.map #[] 0)) (.cells #[.map (some (w.heap.size + 1 + 1 + 1))] 60)
    rw [World.size_alloc, World.size_alloc, World.size_alloc, World.size_alloc] at b3
    refine ⟨⟨_, ((m1.fr ((Fr.refl No _).alloc _) (fun e => e)).fr ((Fr.refl No _).alloc _) (fun e => e)).fr ((Fr.refl No _).alloc _) (fun e => e), fun _ => rfl⟩, ⟨_, m2.fr ((Fr.refl No _).alloc _) (fun e => e), fun _ => rfl⟩, ?_, World.ownsRow_nil _ _ _ _, by omega, by omega, hB, by omega, ?_, b3, fun x hx => by simp at hx⟩
    · exact fr_heap (fr_heap (fr_heap (fr_heap b1 ((Fr.refl No _).alloc _) (fun e => e)) ((Fr.refl No _).alloc _) (fun e => e)) ((Fr.refl No _).alloc _) (fun e => e)) ((Fr.refl No _).alloc _) (fun e => e)
    · exact fr_heap (fr_heap b2 ((Fr.refl No _).alloc _) (fun e => e)) ((Fr.refl No _).alloc _) (fun e => e)
  · exact (((((Fr.refl No w).alloc _).alloc _).alloc _).alloc _).alloc _

set_option maxHeartbeats 1000000 in
/-- What 'Free' answers. -/
theorem free_any (k B : Nat) (w : World) (cs : List Value) (t : Pu.TT k) (ht : RT k B w cs t) (hB : B ≤ w.heap.size) (hw : Pu.wt k t ≤ 1073741824) :
    Calls Try.prog 14 #[.agg cs.toArray] w fun e w' => ∃ v, e = .returned v ∧ Fr No w w' ∧ w'.ownsRow w.heap.size 9 1 v (Pu.free k t).length ((Pu.free k t).map .string) ∧ Short (Pu.free k t) := by
  obtain ⟨kd, n, x, y, a0, n0, c0, a1, n1, c1, a2, n2, c2, rfl⟩ := ht.form
  have HT := hide ht
  clear ht
  have hmm := @run_makeMap Try.prog
  have hmf : ∀ (fn : Fn) (first cap : Array Value) (w : World), (Instr.makeFunc fn first cap).run Try.prog w = .ok (.func fn first cap) w := fun _ _ _ _ => rfl
  show Calls Try.prog 14 #[.agg #[.int .i64 kd, .int .i64 n, .string x, .string y, .slice a0 n0 c0, .slice a1 n1 c1, .slice a2 n2 c2]] w _
  go_enter Try.func14, Try.ntmps14
  go_wp2_with fail
  obtain ⟨W0, hW0⟩ : ∃ W0, W0 = w.alloc (.cells #[.int .i64 kd, .int .i64 n, .string x, .string y, .slice a0 n0 c0, .slice a1 n1 c1, .slice a2 n2 c2] 27) := ⟨_, rfl⟩
  have hs0 : W0.heap.size = w.heap.size + 1 := by rw [hW0, World.size_alloc]
  rw [← hW0]
  have f0 : Fr No w W0 := by rw [hW0]; exact (Fr.refl No w).alloc _
  obtain ⟨W, hfs, hfW, hWd⟩ := free_start W0 w.heap.size (by omega)
  rw [hs0] at hfs hWd
  rw [← hWd]
  have ho : Old B w W := (f0.old hB (fun _ _ e => e)).trans (hfW.old (by omega) (fun _ _ e => e))
  have hsz : w.heap.size ≤ W.heap.size := by have := hfW.size; omega
  have HC := hide (needs_all k w.heap.size _ _ _ _ _ 0 W _ [] (.slice none 0 0) _ t (HT.out.kept ho hB hsz) hfs hsz (fun _ => by omega) (by omega) (by simp; omega))
  clear hmm hmf
  refine HC.out.mono ?_
  rintro e w1 ⟨rfl, v1, h1, h2⟩
  have b1 : w1.cell? ⟨w.heap.size + 1, 0, none⟩ = some v1 := by rw [cell_of_heap h1.box]; rfl
  obtain ⟨av, cv, rfl⟩ := row_form h1.row
  have H1 := hide h1
  have H2 := hide h2
  clear h1 h2 hWd
  go_wp2_with fail
  go_ret
  have hf1 : Fr No w w1 := by
    refine (f0.no hfW).trans' H2.out.1 ?_
    rintro i hi (e | e | e | e)
    · omega
    · omega
    · omega
    · simp [Value.ownBlock] at e
  exact ⟨_, rfl, hf1, H1.out.row, H1.out.sh⟩
end Go.Proofs.Ytmjpfiecgkoaeaa
