/- Copies of cases and functions, apart. -/
import Derived.Test.YtomahbdidlglfacGreatDoorDjO6
namespace Go.Proofs.YtomahbdidlglfacGreatDoor
set_option maxRecDepth 100000
open Go.RowKit Go.Maps Go.WideMaps
set_option maxHeartbeats 4000000 in
theorem ownCaseD_any (k : Nat) (hO : OwnCD k) (B : Nat) (tg : Int) (l : List ByteArray) (t : Pu.TT k) (ag : Option Addr) (an ac : Nat) (kd n : Int) (x y : ByteArray) (a0 a1 a2 : Option Addr) (n0 c0 n1 c1 n2 c2 : Nat) (w : World)  (hnm : Names B w (.slice ag an ac) l) (han : an = l.length) (hrt : RT k B w [.int .i64 kd, .int .i64 n, .string x, .string y, .slice a0 n0 c0, .slice a1 n1 c1, .slice a2 n2 c2] t) (hB : B ≤ w.heap.size) (hn : l.length ≤ 1073741824) (hw : Pu.wt k t ≤ 1073741824) :
    Calls Tryz.prog 79 #[.agg #[.int .i64 tg, .slice ag an ac, .int .i64 kd, .int .i64 n, .string x, .string y, .slice a0 n0 c0, .slice a1 n1 c1, .slice a2 n2 c2]] w fun e w' => ∃ va vc cs' U0 U1, e = .returned (.agg (.int .i64 tg :: .slice va an vc :: cs').toArray) ∧ Fr No w w' ∧ Part (New w w') [U0, U1] ∧ NamesS U0 w' (.slice va an vc) l ∧ RTD k w' U1 cs' t := by
  obtain ⟨w0, hw0⟩ : ∃ w0, w0 = (w.alloc (.cells #[.int .i64 tg, .slice ag an ac, .int .i64 kd, .int .i64 n, .string x, .string y, .slice a0 n0 c0, .slice a1 n1 c1, .slice a2 n2 c2] 58)).alloc (.cells #[.int .i64 0, .slice none 0 0, .int .i64 0, .int .i64 0, .string ⟨#[]⟩, .string ⟨#[]⟩, .slice none 0 0, .slice none 0 0, .slice none 0 0] 58) := ⟨_, rfl⟩
  have f0 : Fr No w w0 := by rw [hw0]; exact ((Fr.refl No w).alloc _).alloc _
  have hs0 : w0.heap.size = w.heap.size + 2 := by rw [hw0]; simp
  have g0 : w0.heap[w.heap.size]? = some (.cells #[.int .i64 tg, .slice ag an ac, .int .i64 kd, .int .i64 n, .string x, .string y, .slice a0 n0 c0, .slice a1 n1 c1, .slice a2 n2 c2] 58 (0, 0)) := by
    rw [hw0]; exact fr_heap (heap_alloc_new _ _) ((Fr.refl No _).alloc _) (fun e => e)
  have g1 : w0.heap[w.heap.size + 1]? = some (.cells #[.int .i64 0, .slice none 0 0, .int .i64 0, .int .i64 0, .string ⟨#[]⟩, .string ⟨#[]⟩, .slice none 0 0, .slice none 0 0, .slice none 0 0] 58 (0, 0)) := by
    rw [hw0]
    have := heap_alloc_new (w.alloc (.cells #[.int .i64 tg, .slice ag an ac, .int .i64 kd, .int .i64 n, .string x, .string y, .slice a0 n0 c0, .slice a1 n1 c1, .slice a2 n2 c2] 58)) (.cells #[.int .i64 0, .slice none 0 0, .int .i64 0, .int .i64 0, .string ⟨#[]⟩, .string ⟨#[]⟩, .slice none 0 0, .slice none 0 0, .slice none 0 0] 58)
    rw [World.size_alloc] at this; exact this
  have SA : Hid (∀ W, Fr No w0 W → (W.cell? ⟨w.heap.size, 0, none⟩ = some (.int .i64 tg) ∧ W.cell? ⟨w.heap.size, 1, none⟩ = some (.slice ag an ac) ∧ W.cell? ⟨w.heap.size, 2, none⟩ = some (.int .i64 kd) ∧ W.cell? ⟨w.heap.size, 3, none⟩ = some (.int .i64 n) ∧ W.cell? ⟨w.heap.size, 4, none⟩ = some (.string x) ∧ W.cell? ⟨w.heap.size, 5, none⟩ = some (.string y) ∧ W.cell? ⟨w.heap.size, 6, none⟩ = some (.slice a0 n0 c0) ∧ W.cell? ⟨w.heap.size, 7, none⟩ = some (.slice a1 n1 c1) ∧ W.cell? ⟨w.heap.size, 8, none⟩ = some (.slice a2 n2 c2)) ∧ (W.cell? ⟨w.heap.size + 1, 0, none⟩ = some (.int .i64 0) ∧ W.cell? ⟨w.heap.size + 1, 1, none⟩ = some (.slice none 0 0) ∧ W.cell? ⟨w.heap.size + 1, 2, none⟩ = some (.int .i64 0) ∧ W.cell? ⟨w.heap.size + 1, 3, none⟩ = some (.int .i64 0) ∧ W.cell? ⟨w.heap.size + 1, 4, none⟩ = some (.string ⟨#[]⟩) ∧ W.cell? ⟨w.heap.size + 1, 5, none⟩ = some (.string ⟨#[]⟩) ∧ W.cell? ⟨w.heap.size + 1, 6, none⟩ = some (.slice none 0 0) ∧ W.cell? ⟨w.heap.size + 1, 7, none⟩ = some (.slice none 0 0) ∧ W.cell? ⟨w.heap.size + 1, 8, none⟩ = some (.slice none 0 0) ∧ (∀ o, W.frozen? ⟨w.heap.size + 1, o, none⟩ = false))) := by
    intro W hW
    have c0 := cell_of_heap (fr_heap g0 hW (fun e => e))
    have c1 := cell_of_heap (fr_heap g1 hW (fun e => e))
    have z1 := frozen_of_heap (fr_heap g1 hW (fun e => e))
    exact ⟨⟨c0 0, c0 1, c0 2, c0 3, c0 4, c0 5, c0 6, c0 7, c0 8⟩, c1 0, c1 1, c1 2, c1 3, c1 4, c1 5, c1 6, c1 7, c1 8, z1⟩
  have A22 : Hid (∀ W, Fr No w0 W → Calls Tryz.prog 69 #[.slice ag an ac, .func (.func 70) #[] #[]] W fun e w' => (∃ a c, e = .returned (.slice a an c) ∧ Fr No W w' ∧ Fr No w0 w' ∧ NamesS (New w0 w') w' (.slice a an c) l) ∧ (w'.cell? ⟨w.heap.size, 0, none⟩ = some (.int .i64 tg) ∧ w'.cell? ⟨w.heap.size, 1, none⟩ = some (.slice ag an ac) ∧ w'.cell? ⟨w.heap.size, 2, none⟩ = some (.int .i64 kd) ∧ w'.cell? ⟨w.heap.size, 3, none⟩ = some (.int .i64 n) ∧ w'.cell? ⟨w.heap.size, 4, none⟩ = some (.string x) ∧ w'.cell? ⟨w.heap.size, 5, none⟩ = some (.string y) ∧ w'.cell? ⟨w.heap.size, 6, none⟩ = some (.slice a0 n0 c0) ∧ w'.cell? ⟨w.heap.size, 7, none⟩ = some (.slice a1 n1 c1) ∧ w'.cell? ⟨w.heap.size, 8, none⟩ = some (.slice a2 n2 c2)) ∧ (w'.cell? ⟨w.heap.size + 1, 0, none⟩ = some (.int .i64 0) ∧ w'.cell? ⟨w.heap.size + 1, 1, none⟩ = some (.slice none 0 0) ∧ w'.cell? ⟨w.heap.size + 1, 2, none⟩ = some (.int .i64 0) ∧ w'.cell? ⟨w.heap.size + 1, 3, none⟩ = some (.int .i64 0) ∧ w'.cell? ⟨w.heap.size + 1, 4, none⟩ = some (.string ⟨#[]⟩) ∧ w'.cell? ⟨w.heap.size + 1, 5, none⟩ = some (.string ⟨#[]⟩) ∧ w'.cell? ⟨w.heap.size + 1, 6, none⟩ = some (.slice none 0 0) ∧ w'.cell? ⟨w.heap.size + 1, 7, none⟩ = some (.slice none 0 0) ∧ w'.cell? ⟨w.heap.size + 1, 8, none⟩ = some (.slice none 0 0) ∧ (∀ o, w'.frozen? ⟨w.heap.size + 1, o, none⟩ = false))) := by
    intro W hW
    have := copyNames_any B _ l W (hnm.kept ((f0.trans hW).old hB (fun _ _ e => e)) (Nat.le_refl _) (Nat.le_trans f0.size hW.size)) hn
    rw [← han] at this
    refine this.mono ?_
    rintro e w' ⟨a, c, he, h1, h2⟩
    exact ⟨⟨a, c, he, h1, hW.trans h1, h2.kept ⟨Nat.le_refl _, fun g hg _ => ⟨⟨Nat.le_trans hW.size hg.1, hg.2⟩, rfl⟩⟩⟩, SA.out w' (hW.trans h1)⟩
  have A7 : Hid (∀ W, Fr No w0 W → Calls Tryz.prog 40 #[.agg #[.int .i64 kd, .int .i64 n, .string x, .string y, .slice a0 n0 c0, .slice a1 n1 c1, .slice a2 n2 c2]] W fun e w' => (∃ kd' n' x' y' a0' n0' c0' a1' n1' c1' a2' n2' c2', e = .returned (.agg #[.int .i64 kd', .int .i64 n', .string x', .string y', .slice a0' n0' c0', .slice a1' n1' c1', .slice a2' n2' c2']) ∧ Fr No W w' ∧ Fr No w0 w' ∧
      RTD k w' (New W w') [.int .i64 kd', .int .i64 n', .string x', .string y', .slice a0' n0' c0', .slice a1' n1' c1', .slice a2' n2' c2'] t) ∧ (w'.cell? ⟨w.heap.size, 0, none⟩ = some (.int .i64 tg) ∧ w'.cell? ⟨w.heap.size, 1, none⟩ = some (.slice ag an ac) ∧ w'.cell? ⟨w.heap.size, 2, none⟩ = some (.int .i64 kd) ∧ w'.cell? ⟨w.heap.size, 3, none⟩ = some (.int .i64 n) ∧ w'.cell? ⟨w.heap.size, 4, none⟩ = some (.string x) ∧ w'.cell? ⟨w.heap.size, 5, none⟩ = some (.string y) ∧ w'.cell? ⟨w.heap.size, 6, none⟩ = some (.slice a0 n0 c0) ∧ w'.cell? ⟨w.heap.size, 7, none⟩ = some (.slice a1 n1 c1) ∧ w'.cell? ⟨w.heap.size, 8, none⟩ = some (.slice a2 n2 c2)) ∧ (w'.cell? ⟨w.heap.size + 1, 0, none⟩ = some (.int .i64 0) ∧ w'.cell? ⟨w.heap.size + 1, 1, none⟩ = some (.slice none 0 0) ∧ w'.cell? ⟨w.heap.size + 1, 2, none⟩ = some (.int .i64 0) ∧ w'.cell? ⟨w.heap.size + 1, 3, none⟩ = some (.int .i64 0) ∧ w'.cell? ⟨w.heap.size + 1, 4, none⟩ = some (.string ⟨#[]⟩) ∧ w'.cell? ⟨w.heap.size + 1, 5, none⟩ = some (.string ⟨#[]⟩) ∧ w'.cell? ⟨w.heap.size + 1, 6, none⟩ = some (.slice none 0 0) ∧ w'.cell? ⟨w.heap.size + 1, 7, none⟩ = some (.slice none 0 0) ∧ w'.cell? ⟨w.heap.size + 1, 8, none⟩ = some (.slice none 0 0) ∧ (∀ o, w'.frozen? ⟨w.heap.size + 1, o, none⟩ = false))) := by
    intro W hW
    refine (hO B W _ t (hrt.old ((f0.trans hW).old hB (fun _ _ e => e)) (Nat.le_trans f0.size hW.size)) (Nat.le_trans hB (Nat.le_trans f0.size hW.size)) hw).mono ?_
    rintro e w' ⟨cs', he, h1, h2⟩
    obtain ⟨kd', n', x', y', a0', n0', c0', a1', n1', c1', a2', n2', c2', rfl⟩ := h2.form
    exact ⟨⟨kd', n', x', y', a0', n0', c0', a1', n1', c1', a2', n2', c2', he, h1, hW.trans h1, h2⟩, SA.out w' (hW.trans h1)⟩
  have K9 : Hid (∀ (W : World) (u0 u1 u2 u3 u4 u5 u6 u7 u8 : Value), (W.cell? ⟨w.heap.size, 0, none⟩ = some (.int .i64 tg) ∧ W.cell? ⟨w.heap.size, 1, none⟩ = some (.slice ag an ac) ∧ W.cell? ⟨w.heap.size, 2, none⟩ = some (.int .i64 kd) ∧ W.cell? ⟨w.heap.size, 3, none⟩ = some (.int .i64 n) ∧ W.cell? ⟨w.heap.size, 4, none⟩ = some (.string x) ∧ W.cell? ⟨w.heap.size, 5, none⟩ = some (.string y) ∧ W.cell? ⟨w.heap.size, 6, none⟩ = some (.slice a0 n0 c0) ∧ W.cell? ⟨w.heap.size, 7, none⟩ = some (.slice a1 n1 c1) ∧ W.cell? ⟨w.heap.size, 8, none⟩ = some (.slice a2 n2 c2)) → ((((((((((W.setCell ⟨w.heap.size + 1, 0, none⟩ u0).setCell ⟨w.heap.size + 1, 1, none⟩ u1).setCell ⟨w.heap.size + 1, 2, none⟩ u2).setCell ⟨w.heap.size + 1, 3, none⟩ u3).setCell ⟨w.heap.size + 1, 4, none⟩ u4).setCell ⟨w.heap.size + 1, 5, none⟩ u5).setCell ⟨w.heap.size + 1, 6, none⟩ u6).setCell ⟨w.heap.size + 1, 7, none⟩ u7).setCell ⟨w.heap.size + 1, 8, none⟩ u8).cell? ⟨w.heap.size, 0, none⟩ = some (.int .i64 tg) ∧ (((((((((W.setCell ⟨w.heap.size + 1, 0, none⟩ u0).setCell ⟨w.heap.size + 1, 1, none⟩ u1).setCell ⟨w.heap.size + 1, 2, none⟩ u2).setCell ⟨w.heap.size + 1, 3, none⟩ u3).setCell ⟨w.heap.size + 1, 4, none⟩ u4).setCell ⟨w.heap.size + 1, 5, none⟩ u5).setCell ⟨w.heap.size + 1, 6, none⟩ u6).setCell ⟨w.heap.size + 1, 7, none⟩ u7).setCell ⟨w.heap.size + 1, 8, none⟩ u8).cell? ⟨w.heap.size, 1, none⟩ = some (.slice ag an ac) ∧ (((((((((W.setCell ⟨w.heap.size + 1, 0, none⟩ u0).setCell ⟨w.heap.size + 1, 1, none⟩ u1).setCell ⟨w.heap.size + 1, 2, none⟩ u2).setCell ⟨w.heap.size + 1, 3, none⟩ u3).setCell ⟨w.heap.size + 1, 4, none⟩ u4).setCell ⟨w.heap.size + 1, 5, none⟩ u5).setCell ⟨w.heap.size + 1, 6, none⟩ u6).setCell ⟨w.heap.size + 1, 7, none⟩ u7).setCell ⟨w.heap.size + 1, 8, none⟩ u8).cell? ⟨w.heap.size, 2, none⟩ = some (.int .i64 kd) ∧ (((((((((W.setCell ⟨w.heap.size + 1, 0, none⟩ u0).setCell ⟨w.heap.size + 1, 1, none⟩ u1).setCell ⟨w.heap.size + 1, 2, none⟩ u2).setCell ⟨w.heap.size + 1, 3, none⟩ u3).setCell ⟨w.heap.size + 1, 4, none⟩ u4).setCell ⟨w.heap.size + 1, 5, none⟩ u5).setCell ⟨w.heap.size + 1, 6, none⟩ u6).setCell ⟨w.heap.size + 1, 7, none⟩ u7).setCell ⟨w.heap.size + 1, 8, none⟩ u8).cell? ⟨w.heap.size, 3, none⟩ = some (.int .i64 n) ∧ (((((((((W.setCell ⟨w.heap.size + 1, 0, none⟩ u0).setCell ⟨w.heap.size + 1, 1, none⟩ u1).setCell ⟨w.heap.size + 1, 2, none⟩ u2).setCell ⟨w.heap.size + 1, 3, none⟩ u3).setCell ⟨w.heap.size + 1, 4, none⟩ u4).setCell ⟨w.heap.size + 1, 5, none⟩ u5).setCell ⟨w.heap.size + 1, 6, none⟩ u6).setCell ⟨w.heap.size + 1, 7, none⟩ u7).setCell ⟨w.heap.size + 1, 8, none⟩ u8).cell? ⟨w.heap.size, 4, none⟩ = some (.string x) ∧ (((((((((W.setCell ⟨w.heap.size + 1, 0, none⟩ u0).setCell ⟨w.heap.size + 1, 1, none⟩ u1).setCell ⟨w.heap.size + 1, 2, none⟩ u2).setCell ⟨w.heap.size + 1, 3, none⟩ u3).setCell ⟨w.heap.size + 1, 4, none⟩ u4).setCell ⟨w.heap.size + 1, 5, none⟩ u5).setCell ⟨w.heap.size + 1, 6, none⟩ u6).setCell ⟨w.heap.size + 1, 7, none⟩ u7).setCell ⟨w.heap.size + 1, 8, none⟩ u8).cell? ⟨w.heap.size, 5, none⟩ = some (.string y) ∧ (((((((((W.setCell ⟨w.heap.size + 1, 0, none⟩ u0).setCell ⟨w.heap.size + 1, 1, none⟩ u1).setCell ⟨w.heap.size + 1, 2, none⟩ u2).setCell ⟨w.heap.size + 1, 3, none⟩ u3).setCell ⟨w.heap.size + 1, 4, none⟩ u4).setCell ⟨w.heap.size + 1, 5, none⟩ u5).setCell ⟨w.heap.size + 1, 6, none⟩ u6).setCell ⟨w.heap.size + 1, 7, none⟩ u7).setCell ⟨w.heap.size + 1, 8, none⟩ u8).cell? ⟨w.heap.size, 6, none⟩ = some (.slice a0 n0 c0) ∧ (((((((((W.setCell ⟨w.heap.size + 1, 0, none⟩ u0).setCell ⟨w.heap.size + 1, 1, none⟩ u1).setCell ⟨w.heap.size + 1, 2, none⟩ u2).setCell ⟨w.heap.size + 1, 3, none⟩ u3).setCell ⟨w.heap.size + 1, 4, none⟩ u4).setCell ⟨w.heap.size + 1, 5, none⟩ u5).setCell ⟨w.heap.size + 1, 6, none⟩ u6).setCell ⟨w.heap.size + 1, 7, none⟩ u7).setCell ⟨w.heap.size + 1, 8, none⟩ u8).cell? ⟨w.heap.size, 7, none⟩ = some (.slice a1 n1 c1) ∧ (((((((((W.setCell ⟨w.heap.size + 1, 0, none⟩ u0).setCell ⟨w.heap.size + 1, 1, none⟩ u1).setCell ⟨w.heap.size + 1, 2, none⟩ u2).setCell ⟨w.heap.size + 1, 3, none⟩ u3).setCell ⟨w.heap.size + 1, 4, none⟩ u4).setCell ⟨w.heap.size + 1, 5, none⟩ u5).setCell ⟨w.heap.size + 1, 6, none⟩ u6).setCell ⟨w.heap.size + 1, 7, none⟩ u7).setCell ⟨w.heap.size + 1, 8, none⟩ u8).cell? ⟨w.heap.size, 8, none⟩ = some (.slice a2 n2 c2))) := by
    intro W u0 u1 u2 u3 u4 u5 u6 u7 u8 ⟨h0, h1, h2, h3, h4, h5, h6, h7, h8⟩
    have ho : ∀ o, (((((((((W.setCell ⟨w.heap.size + 1, 0, none⟩ u0).setCell ⟨w.heap.size + 1, 1, none⟩ u1).setCell ⟨w.heap.size + 1, 2, none⟩ u2).setCell ⟨w.heap.size + 1, 3, none⟩ u3).setCell ⟨w.heap.size + 1, 4, none⟩ u4).setCell ⟨w.heap.size + 1, 5, none⟩ u5).setCell ⟨w.heap.size + 1, 6, none⟩ u6).setCell ⟨w.heap.size + 1, 7, none⟩ u7).setCell ⟨w.heap.size + 1, 8, none⟩ u8).cell? ⟨w.heap.size, o, none⟩ = W.cell? ⟨w.heap.size, o, none⟩ := fun o => by
      have hne : w.heap.size ≠ w.heap.size + 1 := by omega
      rw [cell_set_other hne, cell_set_other hne, cell_set_other hne, cell_set_other hne, cell_set_other hne, cell_set_other hne, cell_set_other hne, cell_set_other hne, cell_set_other hne]
    exact ⟨(ho 0).trans h0, (ho 1).trans h1, (ho 2).trans h2, (ho 3).trans h3, (ho 4).trans h4, (ho 5).trans h5, (ho 6).trans h6, (ho 7).trans h7, (ho 8).trans h8⟩
  have HZ := hide (SA.out w0.drew (Fr.refl No w0).drew).1
  have F0 := hide f0
  have HS0 := hide hs0
  have D0 : Fr No w0 w0.drew := (Fr.refl No w0).drew
  have G1 := hide g1
  have hszW : w.heap.size + 1 < w0.heap.size := by omega
  clear hnm hrt hO hB hn hw g0 g1 f0 han
  go_enter Tryz.func79, Tryz.ntmps79
  go_wp2_with fail
  rw [← hw0]
  clear hw0
  go_region_held3 (fun w' : World => w'.cell? ⟨w.heap.size, 0, none⟩ = some (.int .i64 tg) ∧ w'.cell? ⟨w.heap.size, 1, none⟩ = some (.slice ag an ac) ∧ w'.cell? ⟨w.heap.size, 2, none⟩ = some (.int .i64 kd) ∧ w'.cell? ⟨w.heap.size, 3, none⟩ = some (.int .i64 n) ∧ w'.cell? ⟨w.heap.size, 4, none⟩ = some (.string x) ∧ w'.cell? ⟨w.heap.size, 5, none⟩ = some (.string y) ∧ w'.cell? ⟨w.heap.size, 6, none⟩ = some (.slice a0 n0 c0) ∧ w'.cell? ⟨w.heap.size, 7, none⟩ = some (.slice a1 n1 c1) ∧ w'.cell? ⟨w.heap.size, 8, none⟩ = some (.slice a2 n2 c2)) (first | with_reducible assumption | with_reducible exact HZ.out | with_reducible exact K9.out _ _ _ _ _ _ _ _ _ _ (by with_reducible assumption))
    (first
      | (go_at_call 69; refine (A22.out _ ?_).mono ?_; (first | exact HFB.out | exact D0); rintro e w1 ⟨⟨va, vc, rfl, hfW1, hf1, hn1⟩, hz1, ra0, ra1, ra2, ra3, ra4, ra5, ra6, ra7, ra8, raz⟩; have HFA := hide hf1; have HFWA := hide hfW1; have HNA := hide hn1; clear hf1 hfW1 hn1)
      | (go_at_call 40; refine (A7.out _ ?_).mono ?_; (first | exact HFA.out | exact D0); rintro e w2 ⟨⟨kd', n', x', y', a0', n0', c0', a1', n1', c1', a2', n2', c2', rfl, hfW2, hf2, hn2⟩, hz2, rb0, rb1, rb2, rb3, rb4, rb5, rb6, rb7, rb8, rbz⟩; have HFB := hide hf2; have HFWB := hide hfW2; have HNB := hide hn2; clear hf2 hfW2 hn2))
  clear ra0 ra1 ra2 ra3 ra4 ra5 ra6 ra7 ra8 raz rb0 rb1 rb2 rb3 rb4 rb5 rb6 rb7 rb8 rbz hz1 hz2 A22 A7 K9 SA HZ
  obtain ⟨cur', d1, d2, d3, d4, d5⟩ := sets_heap (w.heap.size + 1) 58 (0, 0) [.int .i64 tg, .slice va an vc, .int .i64 kd', .int .i64 n', .string x', .string y', .slice a0' n0' c0', .slice a1' n1' c1', .slice a2' n2' c2'] 0 w2 _ (fr_heap G1.out HFB.out (fun e => e)) (by simp)
  obtain ⟨W9, hW9⟩ : ∃ W9, W9 = setsAt w2 (w.heap.size + 1) 0 [.int .i64 tg, .slice va an vc, .int .i64 kd', .int .i64 n', .string x', .string y', .slice a0' n0' c0', .slice a1' n1' c1', .slice a2' n2' c2'] := ⟨_, rfl⟩
  rw [← hW9] at d1 d5
  have D1 : ∀ j, j < 9 → W9.cell? ⟨w.heap.size + 1, j, none⟩ = [.int .i64 tg, Value.slice va an vc, .int .i64 kd', .int .i64 n', .string x', .string y', .slice a0' n0' c0', .slice a1' n1' c1', .slice a2' n2' c2'][j]? := fun j hj => by
    rw [cell_of_heap d1]
    have := d4 j (by simpa using hj)
    rw [Nat.zero_add] at this
    exact this
  have r0 := D1 0 (by omega)
  have r1 := D1 1 (by omega)
  have r2 := D1 2 (by omega)
  have r3 := D1 3 (by omega)
  have r4 := D1 4 (by omega)
  have r5 := D1 5 (by omega)
  have r6 := D1 6 (by omega)
  have r7 := D1 7 (by omega)
  have r8 := D1 8 (by omega)
  clear D1 d1 d2 d3 d4
  show Exit.then _ _ Exit.normal _ (setsAt w2 (w.heap.size + 1) 0 [.int .i64 tg, .slice va an vc, .int .i64 kd', .int .i64 n', .string x', .string y', .slice a0' n0' c0', .slice a1' n1' c1', .slice a2' n2' c2'])
  rw [← hW9]
  have D5 := hide d5
  clear hW9 d5
  go_wp2_with fail
  refine bodyPost_ret (v := .agg #[.int .i64 tg, .slice va an vc, .int .i64 kd', .int .i64 n', .string x', .string y', .slice a0' n0' c0', .slice a1' n1' c1', .slice a2' n2' c2']) (by simp [results, Tryz.results79, go_sem, r0, r1, r2, r3, r4, r5, r6, r7, r8]) rfl ⟨va, vc, [.int .i64 kd', .int .i64 n', .string x', .string y', .slice a0' n0' c0', .slice a1' n1' c1', .slice a2' n2' c2'], New w0 w1, _, rfl, (F0.out.trans HFB.out).trans' D5.out (fun i hi e => by have e : i = w.heap.size + 1 := e; omega), part_two ?_ ?_ ?_,
    (HNA.out.kept (stays_fr HFWB.out (fun _ _ _ e => e) (fun _ h => h))).kept (stays_fr D5.out (fun i hi _ e => by have e : i = w.heap.size + 1 := e; have := hi.1; have := HS0.out; omega) (fun _ h => h)),
    HNB.out.kept (stays_fr D5.out ?_ (fun _ h => h))⟩
  · exact fun i hi => ⟨by have := hi.1; have := HS0.out; omega, Nat.lt_of_lt_of_le (Nat.lt_of_lt_of_le hi.2 HFWB.out.size) D5.out.size⟩
  · exact fun i hi => ⟨Nat.le_trans (Nat.le_trans F0.out.size HFA.out.size) hi.1, Nat.lt_of_lt_of_le hi.2 D5.out.size⟩
  · exact fun i h h' => absurd (Nat.lt_of_lt_of_le h.2 h'.1) (Nat.lt_irrefl _)
  · intro i hi _ e
    have e : i = w.heap.size + 1 := e
    have h1 : w1.heap.size ≤ i := hi.1
    have := HFA.out.size
    have := HS0.out
    omega
set_option maxHeartbeats 4000000 in
theorem ownFnD_any (k : Nat) (hO : OwnCD k) (B : Nat) (nm : ByteArray) (l : List ByteArray) (t : Pu.TT k) (ag : Option Addr) (an ac : Nat) (kd n : Int) (x y : ByteArray) (a0 a1 a2 : Option Addr) (n0 c0 n1 c1 n2 c2 : Nat) (w : World)  (hnm : Names B w (.slice ag an ac) l) (han : an = l.length) (hrt : RT k B w [.int .i64 kd, .int .i64 n, .string x, .string y, .slice a0 n0 c0, .slice a1 n1 c1, .slice a2 n2 c2] t) (hB : B ≤ w.heap.size) (hn : l.length ≤ 1073741824) (hw : Pu.wt k t ≤ 1073741824) :
    Calls Tryz.prog 68 #[.agg #[.string nm, .slice ag an ac, .int .i64 kd, .int .i64 n, .string x, .string y, .slice a0 n0 c0, .slice a1 n1 c1, .slice a2 n2 c2]] w fun e w' => ∃ va vc cs' U0 U1, e = .returned (.agg (.string nm :: .slice va an vc :: cs').toArray) ∧ Fr No w w' ∧ Part (New w w') [U0, U1] ∧ NamesS U0 w' (.slice va an vc) l ∧ RTD k w' U1 cs' t := by
  obtain ⟨w0, hw0⟩ : ∃ w0, w0 = (w.alloc (.cells #[.string nm, .slice ag an ac, .int .i64 kd, .int .i64 n, .string x, .string y, .slice a0 n0 c0, .slice a1 n1 c1, .slice a2 n2 c2] 34)).alloc (.cells #[.string ⟨#[]⟩, .slice none 0 0, .int .i64 0, .int .i64 0, .string ⟨#[]⟩, .string ⟨#[]⟩, .slice none 0 0, .slice none 0 0, .slice none 0 0] 34) := ⟨_, rfl⟩
  have f0 : Fr No w w0 := by rw [hw0]; exact ((Fr.refl No w).alloc _).alloc _
  have hs0 : w0.heap.size = w.heap.size + 2 := by rw [hw0]; simp
  have g0 : w0.heap[w.heap.size]? = some (.cells #[.string nm, .slice ag an ac, .int .i64 kd, .int .i64 n, .string x, .string y, .slice a0 n0 c0, .slice a1 n1 c1, .slice a2 n2 c2] 34 (0, 0)) := by
    rw [hw0]; exact fr_heap (heap_alloc_new _ _) ((Fr.refl No _).alloc _) (fun e => e)
  have g1 : w0.heap[w.heap.size + 1]? = some (.cells #[.string ⟨#[]⟩, .slice none 0 0, .int .i64 0, .int .i64 0, .string ⟨#[]⟩, .string ⟨#[]⟩, .slice none 0 0, .slice none 0 0, .slice none 0 0] 34 (0, 0)) := by
    rw [hw0]
    have := heap_alloc_new (w.alloc (.cells #[.string nm, .slice ag an ac, .int .i64 kd, .int .i64 n, .string x, .string y, .slice a0 n0 c0, .slice a1 n1 c1, .slice a2 n2 c2] 34)) (.cells #[.string ⟨#[]⟩, .slice none 0 0, .int .i64 0, .int .i64 0, .string ⟨#[]⟩, .string ⟨#[]⟩, .slice none 0 0, .slice none 0 0, .slice none 0 0] 34)
    rw [World.size_alloc] at this; exact this
  have SA : Hid (∀ W, Fr No w0 W → (W.cell? ⟨w.heap.size, 0, none⟩ = some (.string nm) ∧ W.cell? ⟨w.heap.size, 1, none⟩ = some (.slice ag an ac) ∧ W.cell? ⟨w.heap.size, 2, none⟩ = some (.int .i64 kd) ∧ W.cell? ⟨w.heap.size, 3, none⟩ = some (.int .i64 n) ∧ W.cell? ⟨w.heap.size, 4, none⟩ = some (.string x) ∧ W.cell? ⟨w.heap.size, 5, none⟩ = some (.string y) ∧ W.cell? ⟨w.heap.size, 6, none⟩ = some (.slice a0 n0 c0) ∧ W.cell? ⟨w.heap.size, 7, none⟩ = some (.slice a1 n1 c1) ∧ W.cell? ⟨w.heap.size, 8, none⟩ = some (.slice a2 n2 c2)) ∧ (W.cell? ⟨w.heap.size + 1, 0, none⟩ = some (.string ⟨#[]⟩) ∧ W.cell? ⟨w.heap.size + 1, 1, none⟩ = some (.slice none 0 0) ∧ W.cell? ⟨w.heap.size + 1, 2, none⟩ = some (.int .i64 0) ∧ W.cell? ⟨w.heap.size + 1, 3, none⟩ = some (.int .i64 0) ∧ W.cell? ⟨w.heap.size + 1, 4, none⟩ = some (.string ⟨#[]⟩) ∧ W.cell? ⟨w.heap.size + 1, 5, none⟩ = some (.string ⟨#[]⟩) ∧ W.cell? ⟨w.heap.size + 1, 6, none⟩ = some (.slice none 0 0) ∧ W.cell? ⟨w.heap.size + 1, 7, none⟩ = some (.slice none 0 0) ∧ W.cell? ⟨w.heap.size + 1, 8, none⟩ = some (.slice none 0 0) ∧ (∀ o, W.frozen? ⟨w.heap.size + 1, o, none⟩ = false))) := by
    intro W hW
    have c0 := cell_of_heap (fr_heap g0 hW (fun e => e))
    have c1 := cell_of_heap (fr_heap g1 hW (fun e => e))
    have z1 := frozen_of_heap (fr_heap g1 hW (fun e => e))
    exact ⟨⟨c0 0, c0 1, c0 2, c0 3, c0 4, c0 5, c0 6, c0 7, c0 8⟩, c1 0, c1 1, c1 2, c1 3, c1 4, c1 5, c1 6, c1 7, c1 8, z1⟩
  have A22 : Hid (∀ W, Fr No w0 W → Calls Tryz.prog 69 #[.slice ag an ac, .func (.func 70) #[] #[]] W fun e w' => (∃ a c, e = .returned (.slice a an c) ∧ Fr No W w' ∧ Fr No w0 w' ∧ NamesS (New w0 w') w' (.slice a an c) l) ∧ (w'.cell? ⟨w.heap.size, 0, none⟩ = some (.string nm) ∧ w'.cell? ⟨w.heap.size, 1, none⟩ = some (.slice ag an ac) ∧ w'.cell? ⟨w.heap.size, 2, none⟩ = some (.int .i64 kd) ∧ w'.cell? ⟨w.heap.size, 3, none⟩ = some (.int .i64 n) ∧ w'.cell? ⟨w.heap.size, 4, none⟩ = some (.string x) ∧ w'.cell? ⟨w.heap.size, 5, none⟩ = some (.string y) ∧ w'.cell? ⟨w.heap.size, 6, none⟩ = some (.slice a0 n0 c0) ∧ w'.cell? ⟨w.heap.size, 7, none⟩ = some (.slice a1 n1 c1) ∧ w'.cell? ⟨w.heap.size, 8, none⟩ = some (.slice a2 n2 c2)) ∧ (w'.cell? ⟨w.heap.size + 1, 0, none⟩ = some (.string ⟨#[]⟩) ∧ w'.cell? ⟨w.heap.size + 1, 1, none⟩ = some (.slice none 0 0) ∧ w'.cell? ⟨w.heap.size + 1, 2, none⟩ = some (.int .i64 0) ∧ w'.cell? ⟨w.heap.size + 1, 3, none⟩ = some (.int .i64 0) ∧ w'.cell? ⟨w.heap.size + 1, 4, none⟩ = some (.string ⟨#[]⟩) ∧ w'.cell? ⟨w.heap.size + 1, 5, none⟩ = some (.string ⟨#[]⟩) ∧ w'.cell? ⟨w.heap.size + 1, 6, none⟩ = some (.slice none 0 0) ∧ w'.cell? ⟨w.heap.size + 1, 7, none⟩ = some (.slice none 0 0) ∧ w'.cell? ⟨w.heap.size + 1, 8, none⟩ = some (.slice none 0 0) ∧ (∀ o, w'.frozen? ⟨w.heap.size + 1, o, none⟩ = false))) := by
    intro W hW
    have := copyNames_any B _ l W (hnm.kept ((f0.trans hW).old hB (fun _ _ e => e)) (Nat.le_refl _) (Nat.le_trans f0.size hW.size)) hn
    rw [← han] at this
    refine this.mono ?_
    rintro e w' ⟨a, c, he, h1, h2⟩
    exact ⟨⟨a, c, he, h1, hW.trans h1, h2.kept ⟨Nat.le_refl _, fun g hg _ => ⟨⟨Nat.le_trans hW.size hg.1, hg.2⟩, rfl⟩⟩⟩, SA.out w' (hW.trans h1)⟩
  have A7 : Hid (∀ W, Fr No w0 W → Calls Tryz.prog 40 #[.agg #[.int .i64 kd, .int .i64 n, .string x, .string y, .slice a0 n0 c0, .slice a1 n1 c1, .slice a2 n2 c2]] W fun e w' => (∃ kd' n' x' y' a0' n0' c0' a1' n1' c1' a2' n2' c2', e = .returned (.agg #[.int .i64 kd', .int .i64 n', .string x', .string y', .slice a0' n0' c0', .slice a1' n1' c1', .slice a2' n2' c2']) ∧ Fr No W w' ∧ Fr No w0 w' ∧
      RTD k w' (New W w') [.int .i64 kd', .int .i64 n', .string x', .string y', .slice a0' n0' c0', .slice a1' n1' c1', .slice a2' n2' c2'] t) ∧ (w'.cell? ⟨w.heap.size, 0, none⟩ = some (.string nm) ∧ w'.cell? ⟨w.heap.size, 1, none⟩ = some (.slice ag an ac) ∧ w'.cell? ⟨w.heap.size, 2, none⟩ = some (.int .i64 kd) ∧ w'.cell? ⟨w.heap.size, 3, none⟩ = some (.int .i64 n) ∧ w'.cell? ⟨w.heap.size, 4, none⟩ = some (.string x) ∧ w'.cell? ⟨w.heap.size, 5, none⟩ = some (.string y) ∧ w'.cell? ⟨w.heap.size, 6, none⟩ = some (.slice a0 n0 c0) ∧ w'.cell? ⟨w.heap.size, 7, none⟩ = some (.slice a1 n1 c1) ∧ w'.cell? ⟨w.heap.size, 8, none⟩ = some (.slice a2 n2 c2)) ∧ (w'.cell? ⟨w.heap.size + 1, 0, none⟩ = some (.string ⟨#[]⟩) ∧ w'.cell? ⟨w.heap.size + 1, 1, none⟩ = some (.slice none 0 0) ∧ w'.cell? ⟨w.heap.size + 1, 2, none⟩ = some (.int .i64 0) ∧ w'.cell? ⟨w.heap.size + 1, 3, none⟩ = some (.int .i64 0) ∧ w'.cell? ⟨w.heap.size + 1, 4, none⟩ = some (.string ⟨#[]⟩) ∧ w'.cell? ⟨w.heap.size + 1, 5, none⟩ = some (.string ⟨#[]⟩) ∧ w'.cell? ⟨w.heap.size + 1, 6, none⟩ = some (.slice none 0 0) ∧ w'.cell? ⟨w.heap.size + 1, 7, none⟩ = some (.slice none 0 0) ∧ w'.cell? ⟨w.heap.size + 1, 8, none⟩ = some (.slice none 0 0) ∧ (∀ o, w'.frozen? ⟨w.heap.size + 1, o, none⟩ = false))) := by
    intro W hW
    refine (hO B W _ t (hrt.old ((f0.trans hW).old hB (fun _ _ e => e)) (Nat.le_trans f0.size hW.size)) (Nat.le_trans hB (Nat.le_trans f0.size hW.size)) hw).mono ?_
    rintro e w' ⟨cs', he, h1, h2⟩
    obtain ⟨kd', n', x', y', a0', n0', c0', a1', n1', c1', a2', n2', c2', rfl⟩ := h2.form
    exact ⟨⟨kd', n', x', y', a0', n0', c0', a1', n1', c1', a2', n2', c2', he, h1, hW.trans h1, h2⟩, SA.out w' (hW.trans h1)⟩
  have K9 : Hid (∀ (W : World) (u0 u1 u2 u3 u4 u5 u6 u7 u8 : Value), (W.cell? ⟨w.heap.size, 0, none⟩ = some (.string nm) ∧ W.cell? ⟨w.heap.size, 1, none⟩ = some (.slice ag an ac) ∧ W.cell? ⟨w.heap.size, 2, none⟩ = some (.int .i64 kd) ∧ W.cell? ⟨w.heap.size, 3, none⟩ = some (.int .i64 n) ∧ W.cell? ⟨w.heap.size, 4, none⟩ = some (.string x) ∧ W.cell? ⟨w.heap.size, 5, none⟩ = some (.string y) ∧ W.cell? ⟨w.heap.size, 6, none⟩ = some (.slice a0 n0 c0) ∧ W.cell? ⟨w.heap.size, 7, none⟩ = some (.slice a1 n1 c1) ∧ W.cell? ⟨w.heap.size, 8, none⟩ = some (.slice a2 n2 c2)) → ((((((((((W.setCell ⟨w.heap.size + 1, 0, none⟩ u0).setCell ⟨w.heap.size + 1, 1, none⟩ u1).setCell ⟨w.heap.size + 1, 2, none⟩ u2).setCell ⟨w.heap.size + 1, 3, none⟩ u3).setCell ⟨w.heap.size + 1, 4, none⟩ u4).setCell ⟨w.heap.size + 1, 5, none⟩ u5).setCell ⟨w.heap.size + 1, 6, none⟩ u6).setCell ⟨w.heap.size + 1, 7, none⟩ u7).setCell ⟨w.heap.size + 1, 8, none⟩ u8).cell? ⟨w.heap.size, 0, none⟩ = some (.string nm) ∧ (((((((((W.setCell ⟨w.heap.size + 1, 0, none⟩ u0).setCell ⟨w.heap.size + 1, 1, none⟩ u1).setCell ⟨w.heap.size + 1, 2, none⟩ u2).setCell ⟨w.heap.size + 1, 3, none⟩ u3).setCell ⟨w.heap.size + 1, 4, none⟩ u4).setCell ⟨w.heap.size + 1, 5, none⟩ u5).setCell ⟨w.heap.size + 1, 6, none⟩ u6).setCell ⟨w.heap.size + 1, 7, none⟩ u7).setCell ⟨w.heap.size + 1, 8, none⟩ u8).cell? ⟨w.heap.size, 1, none⟩ = some (.slice ag an ac) ∧ (((((((((W.setCell ⟨w.heap.size + 1, 0, none⟩ u0).setCell ⟨w.heap.size + 1, 1, none⟩ u1).setCell ⟨w.heap.size + 1, 2, none⟩ u2).setCell ⟨w.heap.size + 1, 3, none⟩ u3).setCell ⟨w.heap.size + 1, 4, none⟩ u4).setCell ⟨w.heap.size + 1, 5, none⟩ u5).setCell ⟨w.heap.size + 1, 6, none⟩ u6).setCell ⟨w.heap.size + 1, 7, none⟩ u7).setCell ⟨w.heap.size + 1, 8, none⟩ u8).cell? ⟨w.heap.size, 2, none⟩ = some (.int .i64 kd) ∧ (((((((((W.setCell ⟨w.heap.size + 1, 0, none⟩ u0).setCell ⟨w.heap.size + 1, 1, none⟩ u1).setCell ⟨w.heap.size + 1, 2, none⟩ u2).setCell ⟨w.heap.size + 1, 3, none⟩ u3).setCell ⟨w.heap.size + 1, 4, none⟩ u4).setCell ⟨w.heap.size + 1, 5, none⟩ u5).setCell ⟨w.heap.size + 1, 6, none⟩ u6).setCell ⟨w.heap.size + 1, 7, none⟩ u7).setCell ⟨w.heap.size + 1, 8, none⟩ u8).cell? ⟨w.heap.size, 3, none⟩ = some (.int .i64 n) ∧ (((((((((W.setCell ⟨w.heap.size + 1, 0, none⟩ u0).setCell ⟨w.heap.size + 1, 1, none⟩ u1).setCell ⟨w.heap.size + 1, 2, none⟩ u2).setCell ⟨w.heap.size + 1, 3, none⟩ u3).setCell ⟨w.heap.size + 1, 4, none⟩ u4).setCell ⟨w.heap.size + 1, 5, none⟩ u5).setCell ⟨w.heap.size + 1, 6, none⟩ u6).setCell ⟨w.heap.size + 1, 7, none⟩ u7).setCell ⟨w.heap.size + 1, 8, none⟩ u8).cell? ⟨w.heap.size, 4, none⟩ = some (.string x) ∧ (((((((((W.setCell ⟨w.heap.size + 1, 0, none⟩ u0).setCell ⟨w.heap.size + 1, 1, none⟩ u1).setCell ⟨w.heap.size + 1, 2, none⟩ u2).setCell ⟨w.heap.size + 1, 3, none⟩ u3).setCell ⟨w.heap.size + 1, 4, none⟩ u4).setCell ⟨w.heap.size + 1, 5, none⟩ u5).setCell ⟨w.heap.size + 1, 6, none⟩ u6).setCell ⟨w.heap.size + 1, 7, none⟩ u7).setCell ⟨w.heap.size + 1, 8, none⟩ u8).cell? ⟨w.heap.size, 5, none⟩ = some (.string y) ∧ (((((((((W.setCell ⟨w.heap.size + 1, 0, none⟩ u0).setCell ⟨w.heap.size + 1, 1, none⟩ u1).setCell ⟨w.heap.size + 1, 2, none⟩ u2).setCell ⟨w.heap.size + 1, 3, none⟩ u3).setCell ⟨w.heap.size + 1, 4, none⟩ u4).setCell ⟨w.heap.size + 1, 5, none⟩ u5).setCell ⟨w.heap.size + 1, 6, none⟩ u6).setCell ⟨w.heap.size + 1, 7, none⟩ u7).setCell ⟨w.heap.size + 1, 8, none⟩ u8).cell? ⟨w.heap.size, 6, none⟩ = some (.slice a0 n0 c0) ∧ (((((((((W.setCell ⟨w.heap.size + 1, 0, none⟩ u0).setCell ⟨w.heap.size + 1, 1, none⟩ u1).setCell ⟨w.heap.size + 1, 2, none⟩ u2).setCell ⟨w.heap.size + 1, 3, none⟩ u3).setCell ⟨w.heap.size + 1, 4, none⟩ u4).setCell ⟨w.heap.size + 1, 5, none⟩ u5).setCell ⟨w.heap.size + 1, 6, none⟩ u6).setCell ⟨w.heap.size + 1, 7, none⟩ u7).setCell ⟨w.heap.size + 1, 8, none⟩ u8).cell? ⟨w.heap.size, 7, none⟩ = some (.slice a1 n1 c1) ∧ (((((((((W.setCell ⟨w.heap.size + 1, 0, none⟩ u0).setCell ⟨w.heap.size + 1, 1, none⟩ u1).setCell ⟨w.heap.size + 1, 2, none⟩ u2).setCell ⟨w.heap.size + 1, 3, none⟩ u3).setCell ⟨w.heap.size + 1, 4, none⟩ u4).setCell ⟨w.heap.size + 1, 5, none⟩ u5).setCell ⟨w.heap.size + 1, 6, none⟩ u6).setCell ⟨w.heap.size + 1, 7, none⟩ u7).setCell ⟨w.heap.size + 1, 8, none⟩ u8).cell? ⟨w.heap.size, 8, none⟩ = some (.slice a2 n2 c2))) := by
    intro W u0 u1 u2 u3 u4 u5 u6 u7 u8 ⟨h0, h1, h2, h3, h4, h5, h6, h7, h8⟩
    have ho : ∀ o, (((((((((W.setCell ⟨w.heap.size + 1, 0, none⟩ u0).setCell ⟨w.heap.size + 1, 1, none⟩ u1).setCell ⟨w.heap.size + 1, 2, none⟩ u2).setCell ⟨w.heap.size + 1, 3, none⟩ u3).setCell ⟨w.heap.size + 1, 4, none⟩ u4).setCell ⟨w.heap.size + 1, 5, none⟩ u5).setCell ⟨w.heap.size + 1, 6, none⟩ u6).setCell ⟨w.heap.size + 1, 7, none⟩ u7).setCell ⟨w.heap.size + 1, 8, none⟩ u8).cell? ⟨w.heap.size, o, none⟩ = W.cell? ⟨w.heap.size, o, none⟩ := fun o => by
      have hne : w.heap.size ≠ w.heap.size + 1 := by omega
      rw [cell_set_other hne, cell_set_other hne, cell_set_other hne, cell_set_other hne, cell_set_other hne, cell_set_other hne, cell_set_other hne, cell_set_other hne, cell_set_other hne]
    exact ⟨(ho 0).trans h0, (ho 1).trans h1, (ho 2).trans h2, (ho 3).trans h3, (ho 4).trans h4, (ho 5).trans h5, (ho 6).trans h6, (ho 7).trans h7, (ho 8).trans h8⟩
  have HZ := hide (SA.out w0.drew (Fr.refl No w0).drew).1
  have F0 := hide f0
  have HS0 := hide hs0
  have D0 : Fr No w0 w0.drew := (Fr.refl No w0).drew
  have G1 := hide g1
  have hszW : w.heap.size + 1 < w0.heap.size := by omega
  clear hnm hrt hO hB hn hw g0 g1 f0 han
  go_enter Tryz.func68, Tryz.ntmps68
  go_wp2_with fail
  rw [← hw0]
  clear hw0
  go_region_held3 (fun w' : World => w'.cell? ⟨w.heap.size, 0, none⟩ = some (.string nm) ∧ w'.cell? ⟨w.heap.size, 1, none⟩ = some (.slice ag an ac) ∧ w'.cell? ⟨w.heap.size, 2, none⟩ = some (.int .i64 kd) ∧ w'.cell? ⟨w.heap.size, 3, none⟩ = some (.int .i64 n) ∧ w'.cell? ⟨w.heap.size, 4, none⟩ = some (.string x) ∧ w'.cell? ⟨w.heap.size, 5, none⟩ = some (.string y) ∧ w'.cell? ⟨w.heap.size, 6, none⟩ = some (.slice a0 n0 c0) ∧ w'.cell? ⟨w.heap.size, 7, none⟩ = some (.slice a1 n1 c1) ∧ w'.cell? ⟨w.heap.size, 8, none⟩ = some (.slice a2 n2 c2)) (first | with_reducible assumption | with_reducible exact HZ.out | with_reducible exact K9.out _ _ _ _ _ _ _ _ _ _ (by with_reducible assumption))
    (first
      | (go_at_call 69; refine (A22.out _ ?_).mono ?_; (first | exact HFB.out | exact D0); rintro e w1 ⟨⟨va, vc, rfl, hfW1, hf1, hn1⟩, hz1, ra0, ra1, ra2, ra3, ra4, ra5, ra6, ra7, ra8, raz⟩; have HFA := hide hf1; have HFWA := hide hfW1; have HNA := hide hn1; clear hf1 hfW1 hn1)
      | (go_at_call 40; refine (A7.out _ ?_).mono ?_; (first | exact HFA.out | exact D0); rintro e w2 ⟨⟨kd', n', x', y', a0', n0', c0', a1', n1', c1', a2', n2', c2', rfl, hfW2, hf2, hn2⟩, hz2, rb0, rb1, rb2, rb3, rb4, rb5, rb6, rb7, rb8, rbz⟩; have HFB := hide hf2; have HFWB := hide hfW2; have HNB := hide hn2; clear hf2 hfW2 hn2))
  clear ra0 ra1 ra2 ra3 ra4 ra5 ra6 ra7 ra8 raz rb0 rb1 rb2 rb3 rb4 rb5 rb6 rb7 rb8 rbz hz1 hz2 A22 A7 K9 SA HZ
  obtain ⟨cur', d1, d2, d3, d4, d5⟩ := sets_heap (w.heap.size + 1) 34 (0, 0) [.string nm, .slice va an vc, .int .i64 kd', .int .i64 n', .string x', .string y', .slice a0' n0' c0', .slice a1' n1' c1', .slice a2' n2' c2'] 0 w2 _ (fr_heap G1.out HFB.out (fun e => e)) (by simp)
  obtain ⟨W9, hW9⟩ : ∃ W9, W9 = setsAt w2 (w.heap.size + 1) 0 [.string nm, .slice va an vc, .int .i64 kd', .int .i64 n', .string x', .string y', .slice a0' n0' c0', .slice a1' n1' c1', .slice a2' n2' c2'] := ⟨_, rfl⟩
  rw [← hW9] at d1 d5
  have D1 : ∀ j, j < 9 → W9.cell? ⟨w.heap.size + 1, j, none⟩ = [.string nm, Value.slice va an vc, .int .i64 kd', .int .i64 n', .string x', .string y', .slice a0' n0' c0', .slice a1' n1' c1', .slice a2' n2' c2'][j]? := fun j hj => by
    rw [cell_of_heap d1]
    have := d4 j (by simpa using hj)
    rw [Nat.zero_add] at this
    exact this
  have r0 := D1 0 (by omega)
  have r1 := D1 1 (by omega)
  have r2 := D1 2 (by omega)
  have r3 := D1 3 (by omega)
  have r4 := D1 4 (by omega)
  have r5 := D1 5 (by omega)
  have r6 := D1 6 (by omega)
  have r7 := D1 7 (by omega)
  have r8 := D1 8 (by omega)
  clear D1 d1 d2 d3 d4
  show Exit.then _ _ Exit.normal _ (setsAt w2 (w.heap.size + 1) 0 [.string nm, .slice va an vc, .int .i64 kd', .int .i64 n', .string x', .string y', .slice a0' n0' c0', .slice a1' n1' c1', .slice a2' n2' c2'])
  rw [← hW9]
  have D5 := hide d5
  clear hW9 d5
  go_wp2_with fail
  refine bodyPost_ret (v := .agg #[.string nm, .slice va an vc, .int .i64 kd', .int .i64 n', .string x', .string y', .slice a0' n0' c0', .slice a1' n1' c1', .slice a2' n2' c2']) (by simp [results, Tryz.results68, go_sem, r0, r1, r2, r3, r4, r5, r6, r7, r8]) rfl ⟨va, vc, [.int .i64 kd', .int .i64 n', .string x', .string y', .slice a0' n0' c0', .slice a1' n1' c1', .slice a2' n2' c2'], New w0 w1, _, rfl, (F0.out.trans HFB.out).trans' D5.out (fun i hi e => by have e : i = w.heap.size + 1 := e; omega), part_two ?_ ?_ ?_,
    (HNA.out.kept (stays_fr HFWB.out (fun _ _ _ e => e) (fun _ h => h))).kept (stays_fr D5.out (fun i hi _ e => by have e : i = w.heap.size + 1 := e; have := hi.1; have := HS0.out; omega) (fun _ h => h)),
    HNB.out.kept (stays_fr D5.out ?_ (fun _ h => h))⟩
  · exact fun i hi => ⟨by have := hi.1; have := HS0.out; omega, Nat.lt_of_lt_of_le (Nat.lt_of_lt_of_le hi.2 HFWB.out.size) D5.out.size⟩
  · exact fun i hi => ⟨Nat.le_trans (Nat.le_trans F0.out.size HFA.out.size) hi.1, Nat.lt_of_lt_of_le hi.2 D5.out.size⟩
  · exact fun i h h' => absurd (Nat.lt_of_lt_of_le h.2 h'.1) (Nat.lt_irrefl _)
  · intro i hi _ e
    have e : i = w.heap.size + 1 := e
    have h1 : w1.heap.size ≤ i := hi.1
    have := HFA.out.size
    have := HS0.out
    omega
end Go.Proofs.YtomahbdidlglfacGreatDoor
