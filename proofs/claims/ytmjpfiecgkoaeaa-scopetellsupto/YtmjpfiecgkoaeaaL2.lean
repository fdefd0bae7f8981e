/- The law's 'alive'. -/
import Derived.Test.YtmjpfiecgkoaeaaL1
namespace Go.Proofs.Ytmjpfiecgkoaeaa
open Go.RowKit Go.Maps Go.WideMaps

abbrev sx : ByteArray := ⟨#[120]⟩
abbrev sy : ByteArray := ⟨#[121]⟩
abbrev sz : ByteArray := ⟨#[122]⟩
abbrev sw : ByteArray := ⟨#[119]⟩
abbrev sf : ByteArray := ⟨#[102]⟩
/-- The term that 'alive' looks at. -/
def tA : Pu.TT 3 := letN 2 sx (varN 1 sy) (letN 1 sz (varN 0 sx) (varN 0 sw))

theorem free_tA : Pu.free 3 tA = [sy, sw] := by decide
theorem size_tA : Pu.size 3 tA = 5 := by decide
theorem wt_tA : Pu.wt 3 tA = 5 := by decide
theorem check_tA : Pu.check [((sf, [sy, sw], tA) : Pu.Fn 3)] = 0 := by decide
theorem check_no : Pu.check [((sf, [], tA) : Pu.Fn 3)] = 6 := by decide

theorem name_le (x : ByteArray) (h : x.size ≤ 100) : x.size ≤ maxLen := by unfold maxLen; omega

set_option maxHeartbeats 4000000 in
theorem alive_any (w : World) : Calls Try.prog 19 #[] w fun e w' => e = .returned (.bool true) ∧ Fr No w w' := by
  go_enter Try.func19, Try.ntmps19
  go_wp2_with fail
  refine (name_fn _ _).mono ?_
  rintro e w1 ⟨rfl, hf1⟩
  have F1 := hide hf1
  clear hf1
  go_wp2_with fail
  refine (name_fn _ _).mono ?_
  rintro e w2 ⟨rfl, hf2⟩
  have F2 := hide (F1.out.trans hf2)
  clear hf2 F1
  go_wp2_with fail
  refine (name_fn _ _).mono ?_
  rintro e w3 ⟨rfl, hf3⟩
  have F3 := hide (F2.out.trans hf3)
  clear hf3 F2
  go_wp2_with fail
  refine (let_fn _ _ _ _ _ _ _ _ _ _ _ _ _ _ _ _ _ _ _ _ _ _ _ _ _ _ _ _).mono ?_
  rintro e w4 ⟨g, rfl, hf4, hg4, hh4⟩
  have R4 : RT 2 w4.heap.size w4 [.int .i64 6, .int .i64 0, .string ⟨#[122]⟩, .string ⟨#[]⟩, .slice none 0 0, .slice (some ⟨g, 0, none⟩) 2 2, .slice none 0 0] (letN 1 ⟨#[122]⟩ (varN 0 ⟨#[120]⟩) (varN 0 ⟨#[119]⟩)) :=
    rt_let 1 w4.heap.size g w4 ⟨#[122]⟩ (name_le _ (by decide)) _ _ _ _ _ hh4 (lt_of_heap hh4) rfl (rt_var 0 _ _ ⟨#[120]⟩ (name_le _ (by decide))) (rt_var 0 _ _ ⟨#[119]⟩ (name_le _ (by decide)))
  have F4 := hide (F3.out.trans hf4)
  have HR4 := hide R4
  clear hf4 hg4 hh4 R4 F3
  go_wp2_with fail
  refine (let_fn _ _ _ _ _ _ _ _ _ _ _ _ _ _ _ _ _ _ _ _ _ _ _ _ _ _ _ _).mono ?_
  rintro e w5 ⟨g5, rfl, hf5, hg5, hh5⟩
  have R5 : RT 3 w5.heap.size w5 [.int .i64 6, .int .i64 0, .string ⟨#[120]⟩, .string ⟨#[]⟩, .slice none 0 0, .slice (some ⟨g5, 0, none⟩) 2 2, .slice none 0 0] tA :=
    rt_let 2 w5.heap.size g5 w5 ⟨#[120]⟩ (name_le _ (by decide)) _ _ _ _ _ hh5 (lt_of_heap hh5) rfl (rt_var 1 _ _ ⟨#[121]⟩ (name_le _ (by decide))) (HR4.out.kept (hf5.old (Nat.le_refl _) (fun _ _ e => e)) hf5.size hf5.size)
  have F5 := hide (F4.out.trans hf5)
  have HR5 := hide R5
  clear hf5 hg5 hh5 R5 F4 HR4
  go_wp2_with fail
  have f6 : Fr No w5 (w5.alloc (.cells #[.int .i64 6, .int .i64 0, .string ⟨#[120]⟩, .string ⟨#[]⟩, .slice none 0 0, .slice (some ⟨g5, 0, none⟩) 2 2, .slice none 0 0] 27)) := (Fr.refl No w5).alloc _
  refine (free_any 3 w5.heap.size _ _ tA (HR5.out.fr (Nat.le_refl _) f6) f6.size (by rw [wt_tA]; omega)).mono ?_
  rw [free_tA]
  rintro e w6 ⟨v6, rfl, hf6, hrow6, _⟩
  rcases hrow6.2 with ⟨_, h0⟩ | ⟨g6, cap6, cur6, rfl, hb6, hgg6, hcap6, hcap6', hsz6, htk6⟩
  · simp at h0
  have n0 : w6.cell? ⟨g6, 0, none⟩ = some (.string ⟨#[121]⟩) := hrow6.cells (g := g6) rfl 0 _ rfl
  have n1 : w6.cell? ⟨g6, 1, none⟩ = some (.string ⟨#[119]⟩) := hrow6.cells (g := g6) rfl 1 _ rfl
  have hg6 : g6 < w6.heap.size := lt_of_heap hgg6
  have f56 : Fr No w5 w6 := f6.trans hf6
  have t6 : w6.heap[w5.heap.size]? = some (.cells #[.int .i64 6, .int .i64 0, .string ⟨#[120]⟩, .string ⟨#[]⟩, .slice none 0 0, .slice (some ⟨g5, 0, none⟩) 2 2, .slice none 0 0] 27 (0, 0)) := fr_heap (heap_alloc_new _ _) hf6 (fun e => e)
  have hb5 : w5.heap.size < w6.heap.size := lt_of_heap t6
  obtain ⟨W0, hW0⟩ : ∃ W0, W0 = (w6.alloc (.cells #[.string ⟨#[121]⟩, .string ⟨#[119]⟩] 9)).alloc (.cells #[.string ⟨#[102]⟩, .slice (some ⟨w6.heap.size, 0, none⟩) 2 2, .int .i64 6, .int .i64 0, .string ⟨#[120]⟩, .string ⟨#[]⟩, .slice none 0 0, .slice (some ⟨g5, 0, none⟩) 2 2, .slice none 0 0] 44) := ⟨_, rfl⟩
  have f60 : Fr No w6 W0 := by rw [hW0]; exact ((Fr.refl No w6).alloc _).alloc _
  have hN0 : W0.heap[w6.heap.size]? = some (.cells #[.string ⟨#[121]⟩, .string ⟨#[119]⟩] 9 (0, 0)) := by rw [hW0]; exact fr_heap (heap_alloc_new _ _) ((Fr.refl No _).alloc _) (fun e => e)
  have hF0 : W0.heap[w6.heap.size + 1]? = some (.cells #[.string ⟨#[102]⟩, .slice (some ⟨w6.heap.size, 0, none⟩) 2 2, .int .i64 6, .int .i64 0, .string ⟨#[120]⟩, .string ⟨#[]⟩, .slice none 0 0, .slice (some ⟨g5, 0, none⟩) 2 2, .slice none 0 0] 44 (0, 0)) := by
    rw [hW0]
    have := heap_alloc_new (w6.alloc (.cells #[.string ⟨#[121]⟩, .string ⟨#[119]⟩] 9)) (.cells #[.string ⟨#[102]⟩, .slice (some ⟨w6.heap.size, 0, none⟩) 2 2, .int .i64 6, .int .i64 0, .string ⟨#[120]⟩, .string ⟨#[]⟩, .slice none 0 0, .slice (some ⟨g5, 0, none⟩) 2 2, .slice none 0 0] 44)
    rw [World.size_alloc] at this; exact this
  have RT0 : ∀ W, Fr No W0 W → RT 3 w5.heap.size W [.int .i64 6, .int .i64 0, .string ⟨#[120]⟩, .string ⟨#[]⟩, .slice none 0 0, .slice (some ⟨g5, 0, none⟩) 2 2, .slice none 0 0] tA := fun W hW => HR5.out.fr (Nat.le_refl _) ((f56.trans f60).trans hW)
  have s50 : w5.heap.size ≤ W0.heap.size := ((f56.trans f60)).size
  have SA : Hid (∀ W, Fr No W0 W → (W.cell? ⟨g6, 0, none⟩ = some (.string ⟨#[121]⟩) ∧ W.cell? ⟨g6, 1, none⟩ = some (.string ⟨#[119]⟩) ∧ W.cell? ⟨w5.heap.size, 0, none⟩ = some (.int .i64 6) ∧ W.cell? ⟨w5.heap.size, 1, none⟩ = some (.int .i64 0) ∧ W.cell? ⟨w5.heap.size, 2, none⟩ = some (.string ⟨#[120]⟩) ∧ W.cell? ⟨w5.heap.size, 3, none⟩ = some (.string ⟨#[]⟩) ∧ W.cell? ⟨w5.heap.size, 4, none⟩ = some (.slice none 0 0) ∧ W.cell? ⟨w5.heap.size, 5, none⟩ = some (.slice (some ⟨g5, 0, none⟩) 2 2) ∧ W.cell? ⟨w5.heap.size, 6, none⟩ = some (.slice none 0 0) ∧ W.cell? ⟨w6.heap.size + 1, 0, none⟩ = some (.string ⟨#[102]⟩) ∧ W.cell? ⟨w6.heap.size + 1, 1, none⟩ = some (.slice (some ⟨w6.heap.size, 0, none⟩) 2 2) ∧ W.cell? ⟨w6.heap.size + 1, 2, none⟩ = some (.int .i64 6) ∧ W.cell? ⟨w6.heap.size + 1, 3, none⟩ = some (.int .i64 0) ∧ W.cell? ⟨w6.heap.size + 1, 4, none⟩ = some (.string ⟨#[120]⟩) ∧ W.cell? ⟨w6.heap.size + 1, 5, none⟩ = some (.string ⟨#[]⟩) ∧ W.cell? ⟨w6.heap.size + 1, 6, none⟩ = some (.slice none 0 0) ∧ W.cell? ⟨w6.heap.size + 1, 7, none⟩ = some (.slice (some ⟨g5, 0, none⟩) 2 2) ∧ W.cell? ⟨w6.heap.size + 1, 8, none⟩ = some (.slice none 0 0))) := by
    intro W hW
    have c0 := cell_of_heap (fr_heap (fr_heap t6 f60 (fun e => e)) hW (fun e => e))
    have c1 := cell_of_heap (fr_heap hF0 hW (fun e => e))
    have hn : ∀ o u, w6.cell? ⟨g6, o, none⟩ = some u → W.cell? ⟨g6, o, none⟩ = some u := fun o u hu => by
      rw [show W.cell? ⟨g6, o, none⟩ = w6.cell? ⟨g6, o, none⟩ from by simp only [World.cell?, (f60.trans hW).block g6 hg6 (fun e => e)]]; exact hu
    exact ⟨hn 0 _ n0, hn 1 _ n1, c0 0, c0 1, c0 2, c0 3, c0 4, c0 5, c0 6, c1 0, c1 1, c1 2, c1 3, c1 4, c1 5, c1 6, c1 7, c1 8⟩
  have A11 : Hid (∀ W, Fr No W0 W → Calls Try.prog 11 #[.agg #[.int .i64 6, .int .i64 0, .string ⟨#[120]⟩, .string ⟨#[]⟩, .slice none 0 0, .slice (some ⟨g5, 0, none⟩) 2 2, .slice none 0 0]] W fun e w' => e = .returned (.int .i64 5) ∧ Fr No W0 w' ∧ (w'.cell? ⟨g6, 0, none⟩ = some (.string ⟨#[121]⟩) ∧ w'.cell? ⟨g6, 1, none⟩ = some (.string ⟨#[119]⟩) ∧ w'.cell? ⟨w5.heap.size, 0, none⟩ = some (.int .i64 6) ∧ w'.cell? ⟨w5.heap.size, 1, none⟩ = some (.int .i64 0) ∧ w'.cell? ⟨w5.heap.size, 2, none⟩ = some (.string ⟨#[120]⟩) ∧ w'.cell? ⟨w5.heap.size, 3, none⟩ = some (.string ⟨#[]⟩) ∧ w'.cell? ⟨w5.heap.size, 4, none⟩ = some (.slice none 0 0) ∧ w'.cell? ⟨w5.heap.size, 5, none⟩ = some (.slice (some ⟨g5, 0, none⟩) 2 2) ∧ w'.cell? ⟨w5.heap.size, 6, none⟩ = some (.slice none 0 0) ∧ w'.cell? ⟨w6.heap.size + 1, 0, none⟩ = some (.string ⟨#[102]⟩) ∧ w'.cell? ⟨w6.heap.size + 1, 1, none⟩ = some (.slice (some ⟨w6.heap.size, 0, none⟩) 2 2) ∧ w'.cell? ⟨w6.heap.size + 1, 2, none⟩ = some (.int .i64 6) ∧ w'.cell? ⟨w6.heap.size + 1, 3, none⟩ = some (.int .i64 0) ∧ w'.cell? ⟨w6.heap.size + 1, 4, none⟩ = some (.string ⟨#[120]⟩) ∧ w'.cell? ⟨w6.heap.size + 1, 5, none⟩ = some (.string ⟨#[]⟩) ∧ w'.cell? ⟨w6.heap.size + 1, 6, none⟩ = some (.slice none 0 0) ∧ w'.cell? ⟨w6.heap.size + 1, 7, none⟩ = some (.slice (some ⟨g5, 0, none⟩) 2 2) ∧ w'.cell? ⟨w6.heap.size + 1, 8, none⟩ = some (.slice none 0 0))) := by
    intro W hW
    refine (size_any 3 w5.heap.size W _ tA (RT0 W hW) (Nat.le_trans s50 hW.size) (by rw [size_tA]; omega)).mono ?_
    rw [size_tA]
    rintro e w' ⟨he, h1⟩
    exact ⟨he, hW.trans h1, SA.out w' (hW.trans h1)⟩
  have A7 : Hid (∀ W, Fr No W0 W → Calls Try.prog 7 #[.agg #[.int .i64 6, .int .i64 0, .string ⟨#[120]⟩, .string ⟨#[]⟩, .slice none 0 0, .slice (some ⟨g5, 0, none⟩) 2 2, .slice none 0 0]] W fun e w' => ∃ kd' n' x' y' a0' m0' c0' a1' m1' c1' a2' m2' c2', e = .returned (.agg #[.int .i64 kd', .int .i64 n', .string x', .string y', .slice a0' m0' c0', .slice a1' m1' c1', .slice a2' m2' c2']) ∧ Fr No W0 w' ∧ (w'.cell? ⟨g6, 0, none⟩ = some (.string ⟨#[121]⟩) ∧ w'.cell? ⟨g6, 1, none⟩ = some (.string ⟨#[119]⟩) ∧ w'.cell? ⟨w5.heap.size, 0, none⟩ = some (.int .i64 6) ∧ w'.cell? ⟨w5.heap.size, 1, none⟩ = some (.int .i64 0) ∧ w'.cell? ⟨w5.heap.size, 2, none⟩ = some (.string ⟨#[120]⟩) ∧ w'.cell? ⟨w5.heap.size, 3, none⟩ = some (.string ⟨#[]⟩) ∧ w'.cell? ⟨w5.heap.size, 4, none⟩ = some (.slice none 0 0) ∧ w'.cell? ⟨w5.heap.size, 5, none⟩ = some (.slice (some ⟨g5, 0, none⟩) 2 2) ∧ w'.cell? ⟨w5.heap.size, 6, none⟩ = some (.slice none 0 0) ∧ w'.cell? ⟨w6.heap.size + 1, 0, none⟩ = some (.string ⟨#[102]⟩) ∧ w'.cell? ⟨w6.heap.size + 1, 1, none⟩ = some (.slice (some ⟨w6.heap.size, 0, none⟩) 2 2) ∧ w'.cell? ⟨w6.heap.size + 1, 2, none⟩ = some (.int .i64 6) ∧ w'.cell? ⟨w6.heap.size + 1, 3, none⟩ = some (.int .i64 0) ∧ w'.cell? ⟨w6.heap.size + 1, 4, none⟩ = some (.string ⟨#[120]⟩) ∧ w'.cell? ⟨w6.heap.size + 1, 5, none⟩ = some (.string ⟨#[]⟩) ∧ w'.cell? ⟨w6.heap.size + 1, 6, none⟩ = some (.slice none 0 0) ∧ w'.cell? ⟨w6.heap.size + 1, 7, none⟩ = some (.slice (some ⟨g5, 0, none⟩) 2 2) ∧ w'.cell? ⟨w6.heap.size + 1, 8, none⟩ = some (.slice none 0 0)) ∧ RT 3 w'.heap.size w' [.int .i64 kd', .int .i64 n', .string x', .string y', .slice a0' m0' c0', .slice a1' m1' c1', .slice a2' m2' c2'] tA) := by
    intro W hW
    refine (own_all 3 w5.heap.size W _ tA (RT0 W hW) (Nat.le_trans s50 hW.size) (by rw [wt_tA]; omega)).mono ?_
    rintro e w' ⟨cs', he, h1, h2⟩
    obtain ⟨kd', n', x', y', a0', m0', c0', a1', m1', c1', a2', m2', c2', rfl⟩ := h2.form
    exact ⟨kd', n', x', y', a0', m0', c0', a1', m1', c1', a2', m2', c2', he, hW.trans h1, SA.out w' (hW.trans h1), h2.rt (fun g hg => hg.2)⟩
  have A10 : Hid (∀ W kd' n' x' y' a0' m0' c0' a1' m1' c1' a2' m2' c2', Fr No W0 W → RT 3 W.heap.size W [.int .i64 kd', .int .i64 n', .string x', .string y', .slice a0' m0' c0', .slice a1' m1' c1', .slice a2' m2' c2'] tA → Calls Try.prog 10 #[.agg #[.int .i64 6, .int .i64 0, .string ⟨#[120]⟩, .string ⟨#[]⟩, .slice none 0 0, .slice (some ⟨g5, 0, none⟩) 2 2, .slice none 0 0], .agg #[.int .i64 kd', .int .i64 n', .string x', .string y', .slice a0' m0' c0', .slice a1' m1' c1', .slice a2' m2' c2']] W fun e w' => e = .returned (.bool true) ∧ Fr No W0 w' ∧ (w'.cell? ⟨g6, 0, none⟩ = some (.string ⟨#[121]⟩) ∧ w'.cell? ⟨g6, 1, none⟩ = some (.string ⟨#[119]⟩) ∧ w'.cell? ⟨w5.heap.size, 0, none⟩ = some (.int .i64 6) ∧ w'.cell? ⟨w5.heap.size, 1, none⟩ = some (.int .i64 0) ∧ w'.cell? ⟨w5.heap.size, 2, none⟩ = some (.string ⟨#[120]⟩) ∧ w'.cell? ⟨w5.heap.size, 3, none⟩ = some (.string ⟨#[]⟩) ∧ w'.cell? ⟨w5.heap.size, 4, none⟩ = some (.slice none 0 0) ∧ w'.cell? ⟨w5.heap.size, 5, none⟩ = some (.slice (some ⟨g5, 0, none⟩) 2 2) ∧ w'.cell? ⟨w5.heap.size, 6, none⟩ = some (.slice none 0 0) ∧ w'.cell? ⟨w6.heap.size + 1, 0, none⟩ = some (.string ⟨#[102]⟩) ∧ w'.cell? ⟨w6.heap.size + 1, 1, none⟩ = some (.slice (some ⟨w6.heap.size, 0, none⟩) 2 2) ∧ w'.cell? ⟨w6.heap.size + 1, 2, none⟩ = some (.int .i64 6) ∧ w'.cell? ⟨w6.heap.size + 1, 3, none⟩ = some (.int .i64 0) ∧ w'.cell? ⟨w6.heap.size + 1, 4, none⟩ = some (.string ⟨#[120]⟩) ∧ w'.cell? ⟨w6.heap.size + 1, 5, none⟩ = some (.string ⟨#[]⟩) ∧ w'.cell? ⟨w6.heap.size + 1, 6, none⟩ = some (.slice none 0 0) ∧ w'.cell? ⟨w6.heap.size + 1, 7, none⟩ = some (.slice (some ⟨g5, 0, none⟩) 2 2) ∧ w'.cell? ⟨w6.heap.size + 1, 8, none⟩ = some (.slice none 0 0))) := by
    intro W kd' n' x' y' a0' m0' c0' a1' m1' c1' a2' m2' c2' hW hR
    refine (same_all 3 w5.heap.size W.heap.size W _ _ tA tA (RT0 W hW) hR (Nat.le_trans s50 hW.size) (Nat.le_refl _)).mono ?_
    rw [Pu.same_refl]
    rintro e w' ⟨he, h1⟩
    exact ⟨he, hW.trans h1, SA.out w' (hW.trans h1)⟩
  have FN : ∀ W ps pv, Fr No W0 W → Names w6.heap.size.succ W pv ps → (∃ a n c, pv = .slice a n c) → Fns 3 (W.heap.size + 1) (W.alloc (.cells #[.string ⟨#[102]⟩, pv, .int .i64 6, .int .i64 0, .string ⟨#[120]⟩, .string ⟨#[]⟩, .slice none 0 0, .slice (some ⟨g5, 0, none⟩) 2 2, .slice none 0 0] 44)) (.slice (some ⟨W.heap.size, 0, none⟩) 1 1) [((⟨#[102]⟩, ps, tA) : Pu.Fn 3)] := by
    intro W ps pv hW hn _
    have fa : Fr No W (W.alloc (.cells #[.string ⟨#[102]⟩, pv, .int .i64 6, .int .i64 0, .string ⟨#[120]⟩, .string ⟨#[]⟩, .slice none 0 0, .slice (some ⟨g5, 0, none⟩) 2 2, .slice none 0 0] 44)) := (Fr.refl No W).alloc _
    have hs6 : w6.heap.size < W.heap.size := Nat.lt_of_lt_of_le (lt_of_heap hN0) hW.size
    refine ⟨[.string ⟨#[102]⟩, pv, .int .i64 6, .int .i64 0, .string ⟨#[120]⟩, .string ⟨#[]⟩, .slice none 0 0, .slice (some ⟨g5, 0, none⟩) 2 2, .slice none 0 0], ⟨_, _, rfl, Nat.le_refl _, by unfold maxLen; decide, fun _ => ⟨_, _, rfl, Nat.lt_succ_self _, by simp, fun i hi => ?_⟩⟩, ?_⟩
    · rw [cell_of_heap (heap_alloc_new _ _), Nat.zero_add]; simp
    · refine ⟨_, [], (List.append_nil _).symm, rfl, ⟨_, _, rfl, name_le _ (by show sf.size ≤ 100; decide), ?_, rfl, ?_⟩, rfl⟩
      · exact (hn.fr fa).kept (fun _ _ => rfl) (by show w6.heap.size + 1 ≤ W.heap.size + 1; omega) (Nat.le_refl _)
      · exact ((RT0 W hW).fr (Nat.le_trans s50 hW.size) fa).kept (fun _ _ => rfl) (by omega) (Nat.le_refl _)
  have NM : ∀ W, Fr No W0 W → Names w6.heap.size.succ W (.slice (some ⟨w6.heap.size, 0, none⟩) 2 2) [⟨#[121]⟩, ⟨#[119]⟩] := fun W hW =>
    ⟨⟨_, _, rfl, Nat.le_refl _, by unfold maxLen; decide, fun _ => ⟨_, _, rfl, Nat.lt_succ_self _, lt_of_heap (fr_heap hN0 hW (fun e => e)), fun i hi => by rw [cell_of_heap (fr_heap hN0 hW (fun e => e)), Nat.zero_add]; simp⟩⟩, fun y hy => by simp at hy; rcases hy with rfl | rfl <;> exact name_le _ (by decide)⟩
  have A16 : Hid (∀ W, Fr No W0 W → Calls Try.prog 16 #[.slice (some ⟨W.heap.size, 0, none⟩) 1 1, .func (.func 17) #[] #[]] (W.alloc (.cells #[.string ⟨#[102]⟩, .slice (some ⟨w6.heap.size, 0, none⟩) 2 2, .int .i64 6, .int .i64 0, .string ⟨#[120]⟩, .string ⟨#[]⟩, .slice none 0 0, .slice (some ⟨g5, 0, none⟩) 2 2, .slice none 0 0] 44)) fun e w' => e = .returned (.int .i64 0) ∧ Fr No W0 w' ∧ (w'.cell? ⟨g6, 0, none⟩ = some (.string ⟨#[121]⟩) ∧ w'.cell? ⟨g6, 1, none⟩ = some (.string ⟨#[119]⟩) ∧ w'.cell? ⟨w5.heap.size, 0, none⟩ = some (.int .i64 6) ∧ w'.cell? ⟨w5.heap.size, 1, none⟩ = some (.int .i64 0) ∧ w'.cell? ⟨w5.heap.size, 2, none⟩ = some (.string ⟨#[120]⟩) ∧ w'.cell? ⟨w5.heap.size, 3, none⟩ = some (.string ⟨#[]⟩) ∧ w'.cell? ⟨w5.heap.size, 4, none⟩ = some (.slice none 0 0) ∧ w'.cell? ⟨w5.heap.size, 5, none⟩ = some (.slice (some ⟨g5, 0, none⟩) 2 2) ∧ w'.cell? ⟨w5.heap.size, 6, none⟩ = some (.slice none 0 0) ∧ w'.cell? ⟨w6.heap.size + 1, 0, none⟩ = some (.string ⟨#[102]⟩) ∧ w'.cell? ⟨w6.heap.size + 1, 1, none⟩ = some (.slice (some ⟨w6.heap.size, 0, none⟩) 2 2) ∧ w'.cell? ⟨w6.heap.size + 1, 2, none⟩ = some (.int .i64 6) ∧ w'.cell? ⟨w6.heap.size + 1, 3, none⟩ = some (.int .i64 0) ∧ w'.cell? ⟨w6.heap.size + 1, 4, none⟩ = some (.string ⟨#[120]⟩) ∧ w'.cell? ⟨w6.heap.size + 1, 5, none⟩ = some (.string ⟨#[]⟩) ∧ w'.cell? ⟨w6.heap.size + 1, 6, none⟩ = some (.slice none 0 0) ∧ w'.cell? ⟨w6.heap.size + 1, 7, none⟩ = some (.slice (some ⟨g5, 0, none⟩) 2 2) ∧ w'.cell? ⟨w6.heap.size + 1, 8, none⟩ = some (.slice none 0 0))) := by
    intro W hW
    refine (check_any 3 (W.heap.size + 1) _ _ [((⟨#[102]⟩, [⟨#[121]⟩, ⟨#[119]⟩], tA) : Pu.Fn 3)] (FN W _ _ hW (NM W hW) ⟨_, _, _, rfl⟩) (by simp) (by decide)).mono ?_
    rw [check_tA]
    rintro e w' ⟨he, h1⟩
    have h2 : Fr No W0 w' := (hW.alloc _).trans h1
    exact ⟨he, h2, SA.out w' h2⟩
  have B16 : Hid (∀ W, Fr No W0 W → Calls Try.prog 16 #[.slice (some ⟨W.heap.size, 0, none⟩) 1 1, .func (.func 17) #[] #[]] (W.alloc (.cells #[.string ⟨#[102]⟩, .slice none 0 0, .int .i64 6, .int .i64 0, .string ⟨#[120]⟩, .string ⟨#[]⟩, .slice none 0 0, .slice (some ⟨g5, 0, none⟩) 2 2, .slice none 0 0] 44)) fun e w' => e = .returned (.int .i64 6) ∧ Fr No W0 w' ∧ (w'.cell? ⟨g6, 0, none⟩ = some (.string ⟨#[121]⟩) ∧ w'.cell? ⟨g6, 1, none⟩ = some (.string ⟨#[119]⟩) ∧ w'.cell? ⟨w5.heap.size, 0, none⟩ = some (.int .i64 6) ∧ w'.cell? ⟨w5.heap.size, 1, none⟩ = some (.int .i64 0) ∧ w'.cell? ⟨w5.heap.size, 2, none⟩ = some (.string ⟨#[120]⟩) ∧ w'.cell? ⟨w5.heap.size, 3, none⟩ = some (.string ⟨#[]⟩) ∧ w'.cell? ⟨w5.heap.size, 4, none⟩ = some (.slice none 0 0) ∧ w'.cell? ⟨w5.heap.size, 5, none⟩ = some (.slice (some ⟨g5, 0, none⟩) 2 2) ∧ w'.cell? ⟨w5.heap.size, 6, none⟩ = some (.slice none 0 0) ∧ w'.cell? ⟨w6.heap.size + 1, 0, none⟩ = some (.string ⟨#[102]⟩) ∧ w'.cell? ⟨w6.heap.size + 1, 1, none⟩ = some (.slice (some ⟨w6.heap.size, 0, none⟩) 2 2) ∧ w'.cell? ⟨w6.heap.size + 1, 2, none⟩ = some (.int .i64 6) ∧ w'.cell? ⟨w6.heap.size + 1, 3, none⟩ = some (.int .i64 0) ∧ w'.cell? ⟨w6.heap.size + 1, 4, none⟩ = some (.string ⟨#[120]⟩) ∧ w'.cell? ⟨w6.heap.size + 1, 5, none⟩ = some (.string ⟨#[]⟩) ∧ w'.cell? ⟨w6.heap.size + 1, 6, none⟩ = some (.slice none 0 0) ∧ w'.cell? ⟨w6.heap.size + 1, 7, none⟩ = some (.slice (some ⟨g5, 0, none⟩) 2 2) ∧ w'.cell? ⟨w6.heap.size + 1, 8, none⟩ = some (.slice none 0 0))) := by
    intro W hW
    refine (check_any 3 (W.heap.size + 1) _ _ [((⟨#[102]⟩, [], tA) : Pu.Fn 3)] (FN W _ _ hW ⟨Row.nil _ _, fun y hy => by simp at hy⟩ ⟨_, _, _, rfl⟩) (by simp) (by decide)).mono ?_
    rw [check_no]
    rintro e w' ⟨he, h1⟩
    have h2 : Fr No W0 w' := (hW.alloc _).trans h1
    exact ⟨he, h2, SA.out w' h2⟩
  have A9 : Hid (∀ W, Fr No W0 W → Calls Try.prog 9 #[.slice (some ⟨W.heap.size, 0, none⟩) 1 1] (W.alloc (.cells #[.string ⟨#[102]⟩, .slice (some ⟨w6.heap.size, 0, none⟩) 2 2, .int .i64 6, .int .i64 0, .string ⟨#[120]⟩, .string ⟨#[]⟩, .slice none 0 0, .slice (some ⟨g5, 0, none⟩) 2 2, .slice none 0 0] 44)) fun e w' => ∃ a c, e = .returned (.slice a 1 c) ∧ Fr No W0 w' ∧ (w'.cell? ⟨g6, 0, none⟩ = some (.string ⟨#[121]⟩) ∧ w'.cell? ⟨g6, 1, none⟩ = some (.string ⟨#[119]⟩) ∧ w'.cell? ⟨w5.heap.size, 0, none⟩ = some (.int .i64 6) ∧ w'.cell? ⟨w5.heap.size, 1, none⟩ = some (.int .i64 0) ∧ w'.cell? ⟨w5.heap.size, 2, none⟩ = some (.string ⟨#[120]⟩) ∧ w'.cell? ⟨w5.heap.size, 3, none⟩ = some (.string ⟨#[]⟩) ∧ w'.cell? ⟨w5.heap.size, 4, none⟩ = some (.slice none 0 0) ∧ w'.cell? ⟨w5.heap.size, 5, none⟩ = some (.slice (some ⟨g5, 0, none⟩) 2 2) ∧ w'.cell? ⟨w5.heap.size, 6, none⟩ = some (.slice none 0 0) ∧ w'.cell? ⟨w6.heap.size + 1, 0, none⟩ = some (.string ⟨#[102]⟩) ∧ w'.cell? ⟨w6.heap.size + 1, 1, none⟩ = some (.slice (some ⟨w6.heap.size, 0, none⟩) 2 2) ∧ w'.cell? ⟨w6.heap.size + 1, 2, none⟩ = some (.int .i64 6) ∧ w'.cell? ⟨w6.heap.size + 1, 3, none⟩ = some (.int .i64 0) ∧ w'.cell? ⟨w6.heap.size + 1, 4, none⟩ = some (.string ⟨#[120]⟩) ∧ w'.cell? ⟨w6.heap.size + 1, 5, none⟩ = some (.string ⟨#[]⟩) ∧ w'.cell? ⟨w6.heap.size + 1, 6, none⟩ = some (.slice none 0 0) ∧ w'.cell? ⟨w6.heap.size + 1, 7, none⟩ = some (.slice (some ⟨g5, 0, none⟩) 2 2) ∧ w'.cell? ⟨w6.heap.size + 1, 8, none⟩ = some (.slice none 0 0))) := by
    intro W hW
    refine (fnsCopy_any 3 (W.heap.size + 1) _ [((⟨#[102]⟩, [⟨#[121]⟩, ⟨#[119]⟩], tA) : Pu.Fn 3)] _ (FN W _ _ hW (NM W hW) ⟨_, _, _, rfl⟩) (by simp) (by decide)).mono ?_
    rintro e w' ⟨a, c, he, h1, _⟩
    have h2 : Fr No W0 w' := (hW.alloc _).trans h1
    exact ⟨a, c, he, h2, SA.out w' h2⟩
  have D0 : Fr No W0 W0.drew := (Fr.refl No W0).drew
  have HZ := hide (SA.out W0.drew D0)
  have HSA : ∀ W o, Fr No W0 W → ((W.alloc o).cell? ⟨g6, 0, none⟩ = some (.string ⟨#[121]⟩) ∧ (W.alloc o).cell? ⟨g6, 1, none⟩ = some (.string ⟨#[119]⟩) ∧ (W.alloc o).cell? ⟨w5.heap.size, 0, none⟩ = some (.int .i64 6) ∧ (W.alloc o).cell? ⟨w5.heap.size, 1, none⟩ = some (.int .i64 0) ∧ (W.alloc o).cell? ⟨w5.heap.size, 2, none⟩ = some (.string ⟨#[120]⟩) ∧ (W.alloc o).cell? ⟨w5.heap.size, 3, none⟩ = some (.string ⟨#[]⟩) ∧ (W.alloc o).cell? ⟨w5.heap.size, 4, none⟩ = some (.slice none 0 0) ∧ (W.alloc o).cell? ⟨w5.heap.size, 5, none⟩ = some (.slice (some ⟨g5, 0, none⟩) 2 2) ∧ (W.alloc o).cell? ⟨w5.heap.size, 6, none⟩ = some (.slice none 0 0) ∧ (W.alloc o).cell? ⟨w6.heap.size + 1, 0, none⟩ = some (.string ⟨#[102]⟩) ∧ (W.alloc o).cell? ⟨w6.heap.size + 1, 1, none⟩ = some (.slice (some ⟨w6.heap.size, 0, none⟩) 2 2) ∧ (W.alloc o).cell? ⟨w6.heap.size + 1, 2, none⟩ = some (.int .i64 6) ∧ (W.alloc o).cell? ⟨w6.heap.size + 1, 3, none⟩ = some (.int .i64 0) ∧ (W.alloc o).cell? ⟨w6.heap.size + 1, 4, none⟩ = some (.string ⟨#[120]⟩) ∧ (W.alloc o).cell? ⟨w6.heap.size + 1, 5, none⟩ = some (.string ⟨#[]⟩) ∧ (W.alloc o).cell? ⟨w6.heap.size + 1, 6, none⟩ = some (.slice none 0 0) ∧ (W.alloc o).cell? ⟨w6.heap.size + 1, 7, none⟩ = some (.slice (some ⟨g5, 0, none⟩) 2 2) ∧ (W.alloc o).cell? ⟨w6.heap.size + 1, 8, none⟩ = some (.slice none 0 0)) := fun W o hW => SA.out _ (hW.alloc o)
  have HSAH := hide HSA
  have FF := hide ((F5.out.trans f56).trans f60)
  have c6 := cell_of_heap t6
  clear FN NM RT0 HSA hF0 hN0 f60 f56 f6 hf6 hrow6 hgg6 n0 n1 HR5 F5 t6 htk6 hsz6 s50
  have hcap63 : cap6 ≤ 9223372036854775807 := by unfold maxLen at hcap6'; omega
  go_wp2_with fail
  clear c6
  rw [← hW0]
  clear hW0
  go_region_held3 (fun w' : World => w'.cell? ⟨g6, 0, none⟩ = some (.string ⟨#[121]⟩) ∧ w'.cell? ⟨g6, 1, none⟩ = some (.string ⟨#[119]⟩) ∧ w'.cell? ⟨w5.heap.size, 0, none⟩ = some (.int .i64 6) ∧ w'.cell? ⟨w5.heap.size, 1, none⟩ = some (.int .i64 0) ∧ w'.cell? ⟨w5.heap.size, 2, none⟩ = some (.string ⟨#[120]⟩) ∧ w'.cell? ⟨w5.heap.size, 3, none⟩ = some (.string ⟨#[]⟩) ∧ w'.cell? ⟨w5.heap.size, 4, none⟩ = some (.slice none 0 0) ∧ w'.cell? ⟨w5.heap.size, 5, none⟩ = some (.slice (some ⟨g5, 0, none⟩) 2 2) ∧ w'.cell? ⟨w5.heap.size, 6, none⟩ = some (.slice none 0 0) ∧ w'.cell? ⟨w6.heap.size + 1, 0, none⟩ = some (.string ⟨#[102]⟩) ∧ w'.cell? ⟨w6.heap.size + 1, 1, none⟩ = some (.slice (some ⟨w6.heap.size, 0, none⟩) 2 2) ∧ w'.cell? ⟨w6.heap.size + 1, 2, none⟩ = some (.int .i64 6) ∧ w'.cell? ⟨w6.heap.size + 1, 3, none⟩ = some (.int .i64 0) ∧ w'.cell? ⟨w6.heap.size + 1, 4, none⟩ = some (.string ⟨#[120]⟩) ∧ w'.cell? ⟨w6.heap.size + 1, 5, none⟩ = some (.string ⟨#[]⟩) ∧ w'.cell? ⟨w6.heap.size + 1, 6, none⟩ = some (.slice none 0 0) ∧ w'.cell? ⟨w6.heap.size + 1, 7, none⟩ = some (.slice (some ⟨g5, 0, none⟩) 2 2) ∧ w'.cell? ⟨w6.heap.size + 1, 8, none⟩ = some (.slice none 0 0)) (first | with_reducible assumption | with_reducible exact HZ.out | exact HSAH.out _ _ (by with_reducible assumption))
    (first
      | (go_at_call 11; refine (A11.out _ ?_).mono ?_; (first | with_reducible assumption | exact D0); rintro e w7 ⟨rfl, hf7, hz7⟩)
      | (go_at_call 7; refine (A7.out _ ?_).mono ?_; (first | with_reducible assumption | exact D0); rintro e w8 ⟨kd', n', x', y', a0', m0', c0', a1', m1', c1', a2', m2', c2', rfl, hf8, hz8, hr8⟩)
      | (go_at_call 10; refine (A10.out _ _ _ _ _ _ _ _ _ _ _ _ _ _ ?_ ?_).mono ?_; (first | with_reducible assumption | exact D0); with_reducible assumption; rintro e w9 ⟨rfl, hf9, hz9⟩)
      | (go_at_call 16; refine (A16.out _ ?_).mono ?_; (first | with_reducible assumption | exact D0); rintro e wa ⟨rfl, hfa, hza⟩)
      | (go_at_call 16; refine (B16.out _ ?_).mono ?_; (first | with_reducible assumption | exact D0); rintro e wb ⟨rfl, hfb, hzb⟩)
      | (go_at_call 9; refine (A9.out _ ?_).mono ?_; (first | with_reducible assumption | exact D0); rintro e wc ⟨va, vc, rfl, hfc, hzc⟩))
  go_wp2_with fail
  go_ret
  exact ⟨rfl, FF.out.trans hfc⟩
end Go.Proofs.Ytmjpfiecgkoaeaa
