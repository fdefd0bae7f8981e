/- The law 'ScopeTells', walked. -/
import Derived.Test.YtmjpfiecgkoaeaaR11
import Derived.Test.YtmjpfiecgkoaeaaR5
import Derived.Test.YtmjpfiecgkoaeaaR3
import Derived.Test.YtmjpfiecgkoaeaaL2
namespace Go.Proofs.Ytmjpfiecgkoaeaa
open Go.RowKit Go.Maps Go.WideMaps

theorem Fns.kept' {k B B' : Nat} {w w' : World} {v : Value} {l : List (Pu.Fn k)} (h : Fns k B w v l) (ho : Old B w w') (hB : B ≤ B') (hs : w.heap.size ≤ w'.heap.size) : Fns k B' w' v l := by
  obtain ⟨acs, h1, h2⟩ := h
  exact ⟨acs, h1.kept ho hB hs, h2.mono fun _ _ h => h.kept ho hB hs⟩

set_option maxHeartbeats 8000000 in
theorem scopeTells_any (k B : Nat) (w : World) (v : Value) (l : List (Pu.Fn k)) (csa csb : List Value) (a b : Pu.TT k) (hl : Fns k B w v l) (ha : RT k B w csa a) (hb : RT k B w csb b) (hB : B ≤ w.heap.size) (hw : (l.map wf).sum ≤ 1073741824) (hwa : Pu.wt k a ≤ 1048576) :
    Calls Try.prog 3 #[v, .agg csa.toArray, .agg csb.toArray] w fun e w' => e = .returned (.bool true) ∧ Fr No w w' := by
  have hform : ∃ a cap, v = .slice a l.length cap := by obtain ⟨acs, hr, _⟩ := hl; obtain ⟨a, c, h, _⟩ := hr.form; exact ⟨a, c, h⟩
  obtain ⟨al, cl, rfl⟩ := hform
  obtain ⟨kd, n, x, y, a0, m0, c0, a1, m1, c1, a2, m2, c2, rfl⟩ := ha.form
  obtain ⟨kdb, nb, xb, yb, b0, p0, d0, b1, p1, d1, b2, p2, d2, rfl⟩ := hb.form
  obtain ⟨W0, hW0⟩ : ∃ W0, W0 = (w.alloc (.cells #[.int .i64 kd, .int .i64 n, .string x, .string y, .slice a0 m0 c0, .slice a1 m1 c1, .slice a2 m2 c2] 27)).alloc (.cells #[.int .i64 kdb, .int .i64 nb, .string xb, .string yb, .slice b0 p0 d0, .slice b1 p1 d1, .slice b2 p2 d2] 27) := ⟨_, rfl⟩
  have f0' : Fr No w W0 := by rw [hW0]; exact ((Fr.refl No w).alloc _).alloc _
  have hA0 : W0.heap[w.heap.size]? = some (.cells #[.int .i64 kd, .int .i64 n, .string x, .string y, .slice a0 m0 c0, .slice a1 m1 c1, .slice a2 m2 c2] 27 (0, 0)) := by rw [hW0]; exact fr_heap (heap_alloc_new _ _) ((Fr.refl No _).alloc _) (fun e => e)
  have hB0 : W0.heap[w.heap.size + 1]? = some (.cells #[.int .i64 kdb, .int .i64 nb, .string xb, .string yb, .slice b0 p0 d0, .slice b1 p1 d1, .slice b2 p2 d2] 27 (0, 0)) := by
    rw [hW0]
    have := heap_alloc_new (w.alloc (.cells #[.int .i64 kd, .int .i64 n, .string x, .string y, .slice a0 m0 c0, .slice a1 m1 c1, .slice a2 m2 c2] 27)) (.cells #[.int .i64 kdb, .int .i64 nb, .string xb, .string yb, .slice b0 p0 d0, .slice b1 p1 d1, .slice b2 p2 d2] 27)
    rw [World.size_alloc] at this; exact this
  have RA : ∀ W, Fr No W0 W → RT k B W [.int .i64 kd, .int .i64 n, .string x, .string y, .slice a0 m0 c0, .slice a1 m1 c1, .slice a2 m2 c2] a := fun W hW => ha.fr hB (f0'.trans hW)
  have RB : ∀ W, Fr No W0 W → RT k B W [.int .i64 kdb, .int .i64 nb, .string xb, .string yb, .slice b0 p0 d0, .slice b1 p1 d1, .slice b2 p2 d2] b := fun W hW => hb.fr hB (f0'.trans hW)
  have RL : ∀ W, Fr No W0 W → Fns k B W (.slice al l.length cl) l := fun W hW => hl.old ((f0'.trans hW).old hB (fun _ _ e => e)) (f0'.trans hW).size
  have sB : ∀ W, Fr No W0 W → B ≤ W.heap.size := fun W hW => Nat.le_trans hB (f0'.trans hW).size
  have hsa := size_wt k a
  have SA : Hid (∀ W, Fr No W0 W → (W.cell? ⟨w.heap.size, 0, none⟩ = some (.int .i64 kd) ∧ W.cell? ⟨w.heap.size, 1, none⟩ = some (.int .i64 n) ∧ W.cell? ⟨w.heap.size, 2, none⟩ = some (.string x) ∧ W.cell? ⟨w.heap.size, 3, none⟩ = some (.string y) ∧ W.cell? ⟨w.heap.size, 4, none⟩ = some (.slice a0 m0 c0) ∧ W.cell? ⟨w.heap.size, 5, none⟩ = some (.slice a1 m1 c1) ∧ W.cell? ⟨w.heap.size, 6, none⟩ = some (.slice a2 m2 c2) ∧ W.cell? ⟨w.heap.size + 1, 0, none⟩ = some (.int .i64 kdb) ∧ W.cell? ⟨w.heap.size + 1, 1, none⟩ = some (.int .i64 nb) ∧ W.cell? ⟨w.heap.size + 1, 2, none⟩ = some (.string xb) ∧ W.cell? ⟨w.heap.size + 1, 3, none⟩ = some (.string yb) ∧ W.cell? ⟨w.heap.size + 1, 4, none⟩ = some (.slice b0 p0 d0) ∧ W.cell? ⟨w.heap.size + 1, 5, none⟩ = some (.slice b1 p1 d1) ∧ W.cell? ⟨w.heap.size + 1, 6, none⟩ = some (.slice b2 p2 d2))) := by
    intro W hW
    have c0 := cell_of_heap (fr_heap hA0 hW (fun e => e))
    have c1 := cell_of_heap (fr_heap hB0 hW (fun e => e))
    exact ⟨c0 0, c0 1, c0 2, c0 3, c0 4, c0 5, c0 6, c1 0, c1 1, c1 2, c1 3, c1 4, c1 5, c1 6⟩
  have A7 : Hid (∀ W, Fr No W0 W → Calls Try.prog 7 #[.agg #[.int .i64 kd, .int .i64 n, .string x, .string y, .slice a0 m0 c0, .slice a1 m1 c1, .slice a2 m2 c2]] W fun e w' => ∃ kdc nc xc yc e0 q0 f0 e1 q1 f1 e2 q2 f2, e = .returned (.agg #[.int .i64 kdc, .int .i64 nc, .string xc, .string yc, .slice e0 q0 f0, .slice e1 q1 f1, .slice e2 q2 f2]) ∧ Fr No W0 w' ∧ (w'.cell? ⟨w.heap.size, 0, none⟩ = some (.int .i64 kd) ∧ w'.cell? ⟨w.heap.size, 1, none⟩ = some (.int .i64 n) ∧ w'.cell? ⟨w.heap.size, 2, none⟩ = some (.string x) ∧ w'.cell? ⟨w.heap.size, 3, none⟩ = some (.string y) ∧ w'.cell? ⟨w.heap.size, 4, none⟩ = some (.slice a0 m0 c0) ∧ w'.cell? ⟨w.heap.size, 5, none⟩ = some (.slice a1 m1 c1) ∧ w'.cell? ⟨w.heap.size, 6, none⟩ = some (.slice a2 m2 c2) ∧ w'.cell? ⟨w.heap.size + 1, 0, none⟩ = some (.int .i64 kdb) ∧ w'.cell? ⟨w.heap.size + 1, 1, none⟩ = some (.int .i64 nb) ∧ w'.cell? ⟨w.heap.size + 1, 2, none⟩ = some (.string xb) ∧ w'.cell? ⟨w.heap.size + 1, 3, none⟩ = some (.string yb) ∧ w'.cell? ⟨w.heap.size + 1, 4, none⟩ = some (.slice b0 p0 d0) ∧ w'.cell? ⟨w.heap.size + 1, 5, none⟩ = some (.slice b1 p1 d1) ∧ w'.cell? ⟨w.heap.size + 1, 6, none⟩ = some (.slice b2 p2 d2)) ∧ RT k w'.heap.size w' [.int .i64 kdc, .int .i64 nc, .string xc, .string yc, .slice e0 q0 f0, .slice e1 q1 f1, .slice e2 q2 f2] a) := by
    intro W hW
    refine (own_all k B W _ a (RA W hW) (sB W hW) (by omega)).mono ?_
    rintro e w' ⟨cs', he, h1, h2⟩
    obtain ⟨kdc, nc, xc, yc, e0, q0, f0, e1, q1, f1, e2, q2, f2, rfl⟩ := h2.form
    exact ⟨kdc, nc, xc, yc, e0, q0, f0, e1, q1, f1, e2, q2, f2, he, hW.trans h1, SA.out w' (hW.trans h1), h2.rt (fun g hg => hg.2)⟩
  have A6 : Hid (∀ W X Y r, Fr No W0 W → ((X = .agg #[.int .i64 kd, .int .i64 n, .string x, .string y, .slice a0 m0 c0, .slice a1 m1 c1, .slice a2 m2 c2] ∧ Y = .agg #[.int .i64 kdb, .int .i64 nb, .string xb, .string yb, .slice b0 p0 d0, .slice b1 p1 d1, .slice b2 p2 d2] ∧ r = Pu.same k a b) ∨ (∃ kdc nc xc yc e0 q0 f0 e1 q1 f1 e2 q2 f2, X = .agg #[.int .i64 kdc, .int .i64 nc, .string xc, .string yc, .slice e0 q0 f0, .slice e1 q1 f1, .slice e2 q2 f2] ∧ Y = .agg #[.int .i64 kd, .int .i64 n, .string x, .string y, .slice a0 m0 c0, .slice a1 m1 c1, .slice a2 m2 c2] ∧ RT k W.heap.size W [.int .i64 kdc, .int .i64 nc, .string xc, .string yc, .slice e0 q0 f0, .slice e1 q1 f1, .slice e2 q2 f2] a ∧ r = true)) → Calls Try.prog 6 #[X, Y] W fun e w' => e = .returned (.bool r) ∧ Fr No W0 w' ∧ (w'.cell? ⟨w.heap.size, 0, none⟩ = some (.int .i64 kd) ∧ w'.cell? ⟨w.heap.size, 1, none⟩ = some (.int .i64 n) ∧ w'.cell? ⟨w.heap.size, 2, none⟩ = some (.string x) ∧ w'.cell? ⟨w.heap.size, 3, none⟩ = some (.string y) ∧ w'.cell? ⟨w.heap.size, 4, none⟩ = some (.slice a0 m0 c0) ∧ w'.cell? ⟨w.heap.size, 5, none⟩ = some (.slice a1 m1 c1) ∧ w'.cell? ⟨w.heap.size, 6, none⟩ = some (.slice a2 m2 c2) ∧ w'.cell? ⟨w.heap.size + 1, 0, none⟩ = some (.int .i64 kdb) ∧ w'.cell? ⟨w.heap.size + 1, 1, none⟩ = some (.int .i64 nb) ∧ w'.cell? ⟨w.heap.size + 1, 2, none⟩ = some (.string xb) ∧ w'.cell? ⟨w.heap.size + 1, 3, none⟩ = some (.string yb) ∧ w'.cell? ⟨w.heap.size + 1, 4, none⟩ = some (.slice b0 p0 d0) ∧ w'.cell? ⟨w.heap.size + 1, 5, none⟩ = some (.slice b1 p1 d1) ∧ w'.cell? ⟨w.heap.size + 1, 6, none⟩ = some (.slice b2 p2 d2))) := by
    intro W X Y r hW hX
    rcases hX with ⟨rfl, rfl, rfl⟩ | ⟨kdc, nc, xc, yc, e0, q0, f0, e1, q1, f1, e2, q2, f2, rfl, rfl, hR, rfl⟩
    · refine (rsame_all k B B W _ _ a b (RA W hW) (RB W hW) (sB W hW) (sB W hW)).mono ?_
      rintro e w' ⟨he, h1⟩
      exact ⟨he, hW.trans h1, SA.out w' (hW.trans h1)⟩
    · refine (rsame_all k W.heap.size B W _ _ a a hR (RA W hW) (Nat.le_refl _) (sB W hW)).mono ?_
      rw [Pu.same_refl]
      rintro e w' ⟨he, h1⟩
      exact ⟨he, hW.trans h1, SA.out w' (hW.trans h1)⟩
  have A9 : Hid (∀ W, Fr No W0 W → Calls Try.prog 9 #[.slice al l.length cl] W fun e w' => ∃ g c, e = .returned (.slice g l.length c) ∧ Fr No W0 w' ∧ (w'.cell? ⟨w.heap.size, 0, none⟩ = some (.int .i64 kd) ∧ w'.cell? ⟨w.heap.size, 1, none⟩ = some (.int .i64 n) ∧ w'.cell? ⟨w.heap.size, 2, none⟩ = some (.string x) ∧ w'.cell? ⟨w.heap.size, 3, none⟩ = some (.string y) ∧ w'.cell? ⟨w.heap.size, 4, none⟩ = some (.slice a0 m0 c0) ∧ w'.cell? ⟨w.heap.size, 5, none⟩ = some (.slice a1 m1 c1) ∧ w'.cell? ⟨w.heap.size, 6, none⟩ = some (.slice a2 m2 c2) ∧ w'.cell? ⟨w.heap.size + 1, 0, none⟩ = some (.int .i64 kdb) ∧ w'.cell? ⟨w.heap.size + 1, 1, none⟩ = some (.int .i64 nb) ∧ w'.cell? ⟨w.heap.size + 1, 2, none⟩ = some (.string xb) ∧ w'.cell? ⟨w.heap.size + 1, 3, none⟩ = some (.string yb) ∧ w'.cell? ⟨w.heap.size + 1, 4, none⟩ = some (.slice b0 p0 d0) ∧ w'.cell? ⟨w.heap.size + 1, 5, none⟩ = some (.slice b1 p1 d1) ∧ w'.cell? ⟨w.heap.size + 1, 6, none⟩ = some (.slice b2 p2 d2)) ∧ Fns k w'.heap.size w' (.slice g l.length c) l) := by
    intro W hW
    refine (fnsCopy_any k B _ l W (RL W hW) (sB W hW) hw).mono ?_
    rintro e w' ⟨g, c, he, h1, acs', h2, h3⟩
    exact ⟨g, c, he, hW.trans h1, SA.out w' (hW.trans h1), acs', h2.row (fun g hg => hg.2), h3.mono fun _ _ h => h.rf (fun g hg => hg.2)⟩
  have A8 : Hid (∀ W g c, Fr No W0 W → Fns k W.heap.size W (.slice g l.length c) l → Calls Try.prog 8 #[.slice g l.length c, .slice al l.length cl] W fun e w' => e = .returned (.bool true) ∧ Fr No W0 w' ∧ (w'.cell? ⟨w.heap.size, 0, none⟩ = some (.int .i64 kd) ∧ w'.cell? ⟨w.heap.size, 1, none⟩ = some (.int .i64 n) ∧ w'.cell? ⟨w.heap.size, 2, none⟩ = some (.string x) ∧ w'.cell? ⟨w.heap.size, 3, none⟩ = some (.string y) ∧ w'.cell? ⟨w.heap.size, 4, none⟩ = some (.slice a0 m0 c0) ∧ w'.cell? ⟨w.heap.size, 5, none⟩ = some (.slice a1 m1 c1) ∧ w'.cell? ⟨w.heap.size, 6, none⟩ = some (.slice a2 m2 c2) ∧ w'.cell? ⟨w.heap.size + 1, 0, none⟩ = some (.int .i64 kdb) ∧ w'.cell? ⟨w.heap.size + 1, 1, none⟩ = some (.int .i64 nb) ∧ w'.cell? ⟨w.heap.size + 1, 2, none⟩ = some (.string xb) ∧ w'.cell? ⟨w.heap.size + 1, 3, none⟩ = some (.string yb) ∧ w'.cell? ⟨w.heap.size + 1, 4, none⟩ = some (.slice b0 p0 d0) ∧ w'.cell? ⟨w.heap.size + 1, 5, none⟩ = some (.slice b1 p1 d1) ∧ w'.cell? ⟨w.heap.size + 1, 6, none⟩ = some (.slice b2 p2 d2))) := by
    intro W g c hW hF
    refine (rsameFns_eq k W.heap.size B _ _ l W hF (RL W hW) (Nat.le_refl _) (sB W hW)).mono ?_
    rintro e w' ⟨he, h1⟩
    exact ⟨he, hW.trans h1, SA.out w' (hW.trans h1)⟩
  have A10 : Hid (∀ W Y r, Fr No W0 W → ((Y = .agg #[.int .i64 kdb, .int .i64 nb, .string xb, .string yb, .slice b0 p0 d0, .slice b1 p1 d1, .slice b2 p2 d2] ∧ r = Pu.same k a b) ∨ (Y = .agg #[.int .i64 kd, .int .i64 n, .string x, .string y, .slice a0 m0 c0, .slice a1 m1 c1, .slice a2 m2 c2] ∧ r = true)) → Calls Try.prog 10 #[.agg #[.int .i64 kd, .int .i64 n, .string x, .string y, .slice a0 m0 c0, .slice a1 m1 c1, .slice a2 m2 c2], Y] W fun e w' => e = .returned (.bool r) ∧ Fr No W0 w' ∧ (w'.cell? ⟨w.heap.size, 0, none⟩ = some (.int .i64 kd) ∧ w'.cell? ⟨w.heap.size, 1, none⟩ = some (.int .i64 n) ∧ w'.cell? ⟨w.heap.size, 2, none⟩ = some (.string x) ∧ w'.cell? ⟨w.heap.size, 3, none⟩ = some (.string y) ∧ w'.cell? ⟨w.heap.size, 4, none⟩ = some (.slice a0 m0 c0) ∧ w'.cell? ⟨w.heap.size, 5, none⟩ = some (.slice a1 m1 c1) ∧ w'.cell? ⟨w.heap.size, 6, none⟩ = some (.slice a2 m2 c2) ∧ w'.cell? ⟨w.heap.size + 1, 0, none⟩ = some (.int .i64 kdb) ∧ w'.cell? ⟨w.heap.size + 1, 1, none⟩ = some (.int .i64 nb) ∧ w'.cell? ⟨w.heap.size + 1, 2, none⟩ = some (.string xb) ∧ w'.cell? ⟨w.heap.size + 1, 3, none⟩ = some (.string yb) ∧ w'.cell? ⟨w.heap.size + 1, 4, none⟩ = some (.slice b0 p0 d0) ∧ w'.cell? ⟨w.heap.size + 1, 5, none⟩ = some (.slice b1 p1 d1) ∧ w'.cell? ⟨w.heap.size + 1, 6, none⟩ = some (.slice b2 p2 d2))) := by
    intro W Y r hW hY
    rcases hY with ⟨rfl, rfl⟩ | ⟨rfl, rfl⟩
    · refine (same_all k B B W _ _ a b (RA W hW) (RB W hW) (sB W hW) (sB W hW)).mono ?_
      rintro e w' ⟨he, h1⟩
      exact ⟨he, hW.trans h1, SA.out w' (hW.trans h1)⟩
    · refine (same_all k B B W _ _ a a (RA W hW) (RA W hW) (sB W hW) (sB W hW)).mono ?_
      rw [Pu.same_refl]
      rintro e w' ⟨he, h1⟩
      exact ⟨he, hW.trans h1, SA.out w' (hW.trans h1)⟩
  have A11 : Hid (∀ W, Fr No W0 W → Calls Try.prog 11 #[.agg #[.int .i64 kd, .int .i64 n, .string x, .string y, .slice a0 m0 c0, .slice a1 m1 c1, .slice a2 m2 c2]] W fun e w' => e = .returned (.int .i64 (Pu.size k a)) ∧ Fr No W0 w' ∧ (w'.cell? ⟨w.heap.size, 0, none⟩ = some (.int .i64 kd) ∧ w'.cell? ⟨w.heap.size, 1, none⟩ = some (.int .i64 n) ∧ w'.cell? ⟨w.heap.size, 2, none⟩ = some (.string x) ∧ w'.cell? ⟨w.heap.size, 3, none⟩ = some (.string y) ∧ w'.cell? ⟨w.heap.size, 4, none⟩ = some (.slice a0 m0 c0) ∧ w'.cell? ⟨w.heap.size, 5, none⟩ = some (.slice a1 m1 c1) ∧ w'.cell? ⟨w.heap.size, 6, none⟩ = some (.slice a2 m2 c2) ∧ w'.cell? ⟨w.heap.size + 1, 0, none⟩ = some (.int .i64 kdb) ∧ w'.cell? ⟨w.heap.size + 1, 1, none⟩ = some (.int .i64 nb) ∧ w'.cell? ⟨w.heap.size + 1, 2, none⟩ = some (.string xb) ∧ w'.cell? ⟨w.heap.size + 1, 3, none⟩ = some (.string yb) ∧ w'.cell? ⟨w.heap.size + 1, 4, none⟩ = some (.slice b0 p0 d0) ∧ w'.cell? ⟨w.heap.size + 1, 5, none⟩ = some (.slice b1 p1 d1) ∧ w'.cell? ⟨w.heap.size + 1, 6, none⟩ = some (.slice b2 p2 d2))) := by
    intro W hW
    refine (size_any k B W _ a (RA W hW) (sB W hW) (by omega)).mono ?_
    rintro e w' ⟨he, h1⟩
    exact ⟨he, hW.trans h1, SA.out w' (hW.trans h1)⟩
  have A12 : Hid (∀ W, Fr No W0 W → Calls Try.prog 12 #[.agg #[.int .i64 kd, .int .i64 n, .string x, .string y, .slice a0 m0 c0, .slice a1 m1 c1, .slice a2 m2 c2]] W fun e w' => e = .returned (.int .i64 (Pu.size k a)) ∧ Fr No W0 w' ∧ (w'.cell? ⟨w.heap.size, 0, none⟩ = some (.int .i64 kd) ∧ w'.cell? ⟨w.heap.size, 1, none⟩ = some (.int .i64 n) ∧ w'.cell? ⟨w.heap.size, 2, none⟩ = some (.string x) ∧ w'.cell? ⟨w.heap.size, 3, none⟩ = some (.string y) ∧ w'.cell? ⟨w.heap.size, 4, none⟩ = some (.slice a0 m0 c0) ∧ w'.cell? ⟨w.heap.size, 5, none⟩ = some (.slice a1 m1 c1) ∧ w'.cell? ⟨w.heap.size, 6, none⟩ = some (.slice a2 m2 c2) ∧ w'.cell? ⟨w.heap.size + 1, 0, none⟩ = some (.int .i64 kdb) ∧ w'.cell? ⟨w.heap.size + 1, 1, none⟩ = some (.int .i64 nb) ∧ w'.cell? ⟨w.heap.size + 1, 2, none⟩ = some (.string xb) ∧ w'.cell? ⟨w.heap.size + 1, 3, none⟩ = some (.string yb) ∧ w'.cell? ⟨w.heap.size + 1, 4, none⟩ = some (.slice b0 p0 d0) ∧ w'.cell? ⟨w.heap.size + 1, 5, none⟩ = some (.slice b1 p1 d1) ∧ w'.cell? ⟨w.heap.size + 1, 6, none⟩ = some (.slice b2 p2 d2))) := by
    intro W hW
    refine (rsize_all k B W _ a (RA W hW) (sB W hW) (by omega)).mono ?_
    rintro e w' ⟨he, h1⟩
    exact ⟨he, hW.trans h1, SA.out w' (hW.trans h1)⟩
  have A14 : Hid (∀ W, Fr No W0 W → Calls Try.prog 14 #[.agg #[.int .i64 kd, .int .i64 n, .string x, .string y, .slice a0 m0 c0, .slice a1 m1 c1, .slice a2 m2 c2]] W fun e w' => ∃ g c, e = .returned (.slice g (Pu.free k a).length c) ∧ Fr No W0 w' ∧ (w'.cell? ⟨w.heap.size, 0, none⟩ = some (.int .i64 kd) ∧ w'.cell? ⟨w.heap.size, 1, none⟩ = some (.int .i64 n) ∧ w'.cell? ⟨w.heap.size, 2, none⟩ = some (.string x) ∧ w'.cell? ⟨w.heap.size, 3, none⟩ = some (.string y) ∧ w'.cell? ⟨w.heap.size, 4, none⟩ = some (.slice a0 m0 c0) ∧ w'.cell? ⟨w.heap.size, 5, none⟩ = some (.slice a1 m1 c1) ∧ w'.cell? ⟨w.heap.size, 6, none⟩ = some (.slice a2 m2 c2) ∧ w'.cell? ⟨w.heap.size + 1, 0, none⟩ = some (.int .i64 kdb) ∧ w'.cell? ⟨w.heap.size + 1, 1, none⟩ = some (.int .i64 nb) ∧ w'.cell? ⟨w.heap.size + 1, 2, none⟩ = some (.string xb) ∧ w'.cell? ⟨w.heap.size + 1, 3, none⟩ = some (.string yb) ∧ w'.cell? ⟨w.heap.size + 1, 4, none⟩ = some (.slice b0 p0 d0) ∧ w'.cell? ⟨w.heap.size + 1, 5, none⟩ = some (.slice b1 p1 d1) ∧ w'.cell? ⟨w.heap.size + 1, 6, none⟩ = some (.slice b2 p2 d2)) ∧ Names w'.heap.size w' (.slice g (Pu.free k a).length c) (Pu.free k a)) := by
    intro W hW
    refine (free_any k B W _ a (RA W hW) (sB W hW) (by omega)).mono ?_
    rintro e w' ⟨v', he, h1, h2, h3⟩
    obtain ⟨g, c, rfl⟩ := row_form h2
    exact ⟨g, c, he, hW.trans h1, SA.out w' (hW.trans h1), names_of_row h2 h3⟩
  have A15 : Hid (∀ W g c, Fr No W0 W → Names W.heap.size W (.slice g (Pu.free k a).length c) (Pu.free k a) → Calls Try.prog 15 #[.agg #[.int .i64 kd, .int .i64 n, .string x, .string y, .slice a0 m0 c0, .slice a1 m1 c1, .slice a2 m2 c2]] W fun e w' => ∃ g' c', e = .returned (.slice g' (Pu.free k a).length c') ∧ Fr No W0 w' ∧ (w'.cell? ⟨w.heap.size, 0, none⟩ = some (.int .i64 kd) ∧ w'.cell? ⟨w.heap.size, 1, none⟩ = some (.int .i64 n) ∧ w'.cell? ⟨w.heap.size, 2, none⟩ = some (.string x) ∧ w'.cell? ⟨w.heap.size, 3, none⟩ = some (.string y) ∧ w'.cell? ⟨w.heap.size, 4, none⟩ = some (.slice a0 m0 c0) ∧ w'.cell? ⟨w.heap.size, 5, none⟩ = some (.slice a1 m1 c1) ∧ w'.cell? ⟨w.heap.size, 6, none⟩ = some (.slice a2 m2 c2) ∧ w'.cell? ⟨w.heap.size + 1, 0, none⟩ = some (.int .i64 kdb) ∧ w'.cell? ⟨w.heap.size + 1, 1, none⟩ = some (.int .i64 nb) ∧ w'.cell? ⟨w.heap.size + 1, 2, none⟩ = some (.string xb) ∧ w'.cell? ⟨w.heap.size + 1, 3, none⟩ = some (.string yb) ∧ w'.cell? ⟨w.heap.size + 1, 4, none⟩ = some (.slice b0 p0 d0) ∧ w'.cell? ⟨w.heap.size + 1, 5, none⟩ = some (.slice b1 p1 d1) ∧ w'.cell? ⟨w.heap.size + 1, 6, none⟩ = some (.slice b2 p2 d2)) ∧ Names w'.heap.size w' (.slice g (Pu.free k a).length c) (Pu.free k a) ∧ Names w'.heap.size w' (.slice g' (Pu.free k a).length c') (Pu.free k a)) := by
    intro W g c hW hN
    refine (rfree_all k B W _ a (RA W hW) (sB W hW) (by omega)).mono ?_
    rw [free_eq]
    rintro e w' ⟨v', he, h1, h2, h3⟩
    obtain ⟨g', c', rfl⟩ := row_form h2
    exact ⟨g', c', he, hW.trans h1, SA.out w' (hW.trans h1), hN.kept (h1.old (Nat.le_refl _) (fun _ _ e => e)) h1.size h1.size, names_of_row h2 h3⟩
  have A13 : Hid (∀ W g c g' c', Fr No W0 W → Names W.heap.size W (.slice g (Pu.free k a).length c) (Pu.free k a) → Names W.heap.size W (.slice g' (Pu.free k a).length c') (Pu.free k a) → Calls Try.prog 13 #[.slice g (Pu.free k a).length c, .slice g' (Pu.free k a).length c'] W fun e w' => e = .returned (.bool true) ∧ Fr No W0 w' ∧ (w'.cell? ⟨w.heap.size, 0, none⟩ = some (.int .i64 kd) ∧ w'.cell? ⟨w.heap.size, 1, none⟩ = some (.int .i64 n) ∧ w'.cell? ⟨w.heap.size, 2, none⟩ = some (.string x) ∧ w'.cell? ⟨w.heap.size, 3, none⟩ = some (.string y) ∧ w'.cell? ⟨w.heap.size, 4, none⟩ = some (.slice a0 m0 c0) ∧ w'.cell? ⟨w.heap.size, 5, none⟩ = some (.slice a1 m1 c1) ∧ w'.cell? ⟨w.heap.size, 6, none⟩ = some (.slice a2 m2 c2) ∧ w'.cell? ⟨w.heap.size + 1, 0, none⟩ = some (.int .i64 kdb) ∧ w'.cell? ⟨w.heap.size + 1, 1, none⟩ = some (.int .i64 nb) ∧ w'.cell? ⟨w.heap.size + 1, 2, none⟩ = some (.string xb) ∧ w'.cell? ⟨w.heap.size + 1, 3, none⟩ = some (.string yb) ∧ w'.cell? ⟨w.heap.size + 1, 4, none⟩ = some (.slice b0 p0 d0) ∧ w'.cell? ⟨w.heap.size + 1, 5, none⟩ = some (.slice b1 p1 d1) ∧ w'.cell? ⟨w.heap.size + 1, 6, none⟩ = some (.slice b2 p2 d2))) := by
    intro W g c g' c' hW hN hN'
    refine (sameNames_any W.heap.size W.heap.size _ _ _ _ W hN hN').mono ?_
    rw [decide_eq_true rfl]
    rintro e w' ⟨he, h1⟩
    exact ⟨he, hW.trans h1, SA.out w' (hW.trans h1)⟩
  have A16 : Hid (∀ W, Fr No W0 W → Calls Try.prog 16 #[.slice al l.length cl, .func (.func 17) #[] #[]] W fun e w' => e = .returned (.int .i64 (Pu.check l)) ∧ Fr No W0 w') := by
    intro W hW
    refine (check_any k B W _ l (RL W hW) (sB W hW) hw).mono ?_
    rintro e w' ⟨he, h1⟩
    exact ⟨he, hW.trans h1⟩
  have A18 : Hid (∀ W, Fr No W0 W → Calls Try.prog 18 #[.slice al l.length cl] W fun e w' => e = .returned (.int .i64 (Pu.check l)) ∧ Fr No W0 w') := by
    intro W hW
    refine (rcheck_any k B W _ l (RL W hW) (sB W hW) hw).mono ?_
    rintro e w' ⟨he, h1⟩
    exact ⟨he, hW.trans h1⟩
  obtain ⟨sb, hsb⟩ : ∃ sb, sb = Pu.same k a b := ⟨_, rfl⟩
  rw [← hsb] at A10 A6
  obtain ⟨sz, hsz⟩ : ∃ sz : Int, sz = (Pu.size k a : Int) := ⟨_, rfl⟩
  rw [← hsz] at A11 A12
  obtain ⟨nf, hnf⟩ : ∃ nf, nf = (Pu.free k a).length := ⟨_, rfl⟩
  rw [← hnf] at A13 A14 A15
  obtain ⟨er, her⟩ : ∃ er, er = Pu.check l := ⟨_, rfl⟩
  rw [← her] at A16 A18
  have D0 : Fr No W0 W0.drew := (Fr.refl No W0).drew
  have HZ := hide (SA.out W0.drew D0)
  have FF := hide f0'
  clear hsb hsz hnf her hl ha hb hB hw hwa RA RB RL sB hsa f0' hA0 hB0
  show Calls Try.prog 3 #[.slice al l.length cl, .agg #[.int .i64 kd, .int .i64 n, .string x, .string y, .slice a0 m0 c0, .slice a1 m1 c1, .slice a2 m2 c2], .agg #[.int .i64 kdb, .int .i64 nb, .string xb, .string yb, .slice b0 p0 d0, .slice b1 p1 d1, .slice b2 p2 d2]] w _
  cases sb
  all_goals
    go_enter Try.func3, Try.ntmps3
    go_wp2_with fail
    rw [← hW0]
    clear hW0
    go_region_held3 (fun w' : World => w'.cell? ⟨w.heap.size, 0, none⟩ = some (.int .i64 kd) ∧ w'.cell? ⟨w.heap.size, 1, none⟩ = some (.int .i64 n) ∧ w'.cell? ⟨w.heap.size, 2, none⟩ = some (.string x) ∧ w'.cell? ⟨w.heap.size, 3, none⟩ = some (.string y) ∧ w'.cell? ⟨w.heap.size, 4, none⟩ = some (.slice a0 m0 c0) ∧ w'.cell? ⟨w.heap.size, 5, none⟩ = some (.slice a1 m1 c1) ∧ w'.cell? ⟨w.heap.size, 6, none⟩ = some (.slice a2 m2 c2) ∧ w'.cell? ⟨w.heap.size + 1, 0, none⟩ = some (.int .i64 kdb) ∧ w'.cell? ⟨w.heap.size + 1, 1, none⟩ = some (.int .i64 nb) ∧ w'.cell? ⟨w.heap.size + 1, 2, none⟩ = some (.string xb) ∧ w'.cell? ⟨w.heap.size + 1, 3, none⟩ = some (.string yb) ∧ w'.cell? ⟨w.heap.size + 1, 4, none⟩ = some (.slice b0 p0 d0) ∧ w'.cell? ⟨w.heap.size + 1, 5, none⟩ = some (.slice b1 p1 d1) ∧ w'.cell? ⟨w.heap.size + 1, 6, none⟩ = some (.slice b2 p2 d2)) (first | with_reducible assumption | with_reducible exact HZ.out)
      (first
        | (go_at_call 7; refine (A7.out _ ?_).mono ?_; (first | with_reducible assumption | exact D0); rintro e w1 ⟨kdc, nc, xc, yc, e0, q0, f0, e1, q1, f1, e2, q2, f2, rfl, hf1, hz1, hr1⟩)
        | (go_at_call 6; refine (A6.out _ _ _ false ?_ (by exact .inl ⟨rfl, rfl, rfl⟩)).mono ?_; (first | with_reducible assumption | exact D0); rintro e w2 ⟨rfl, hf2, hz2⟩)
        | (go_at_call 6; refine (A6.out _ _ _ true ?_ (by first | exact .inl ⟨rfl, rfl, rfl⟩ | exact .inr ⟨_, _, _, _, _, _, _, _, _, _, _, _, _, rfl, rfl, hr1, rfl⟩)).mono ?_; (first | with_reducible assumption | exact D0); rintro e w2 ⟨rfl, hf2, hz2⟩)
        | (go_at_call 9; refine (A9.out _ ?_).mono ?_; (first | with_reducible assumption | exact D0); rintro e w3 ⟨g3, k3, rfl, hf3, hz3, hr3⟩)
        | (go_at_call 8; refine (A8.out _ _ _ ?_ ?_).mono ?_; (first | with_reducible assumption | exact D0); with_reducible assumption; rintro e w4 ⟨rfl, hf4, hz4⟩)
        | (go_at_call 10; refine (A10.out _ _ false ?_ (by exact .inl ⟨rfl, rfl⟩)).mono ?_; (first | with_reducible assumption | exact D0); rintro e w7 ⟨rfl, hf7, hz7⟩)
        | (go_at_call 10; refine (A10.out _ _ true ?_ (by first | exact .inl ⟨rfl, rfl⟩ | exact .inr ⟨rfl, rfl⟩)).mono ?_; (first | with_reducible assumption | exact D0); rintro e w7 ⟨rfl, hf7, hz7⟩)
        | (go_at_call 11; refine (A11.out _ ?_).mono ?_; (first | with_reducible assumption | exact D0); rintro e w8 ⟨rfl, hf8, hz8⟩)
        | (go_at_call 12; refine (A12.out _ ?_).mono ?_; (first | with_reducible assumption | exact D0); rintro e w9 ⟨rfl, hf9, hz9⟩)
        | (go_at_call 14; refine (A14.out _ ?_).mono ?_; (first | with_reducible assumption | exact D0); rintro e wa ⟨ga, ka, rfl, hfa, hza, hna⟩)
        | (go_at_call 15; refine (A15.out _ _ _ ?_ hna).mono ?_; (first | with_reducible assumption | exact D0); rintro e wb ⟨gb, kb, rfl, hfb, hzb, hnb, hnc⟩)
        | (go_at_call 13; refine (A13.out _ _ _ _ _ ?_ ?_ ?_).mono ?_; (first | with_reducible assumption | exact D0); with_reducible assumption; with_reducible assumption; rintro e wc ⟨rfl, hfc, hzc⟩))
    all_goals
      go_wp2_with fail
      refine (A16.out _ hfc).mono ?_
      rintro e wd ⟨rfl, hfd⟩
      go_wp2_with fail
      refine (A18.out _ hfd).mono ?_
      rintro e we ⟨rfl, hfe⟩
      go_wp2_with fail
      go_ret
      exact ⟨by simp, FF.out.trans hfe⟩
end Go.Proofs.Ytmjpfiecgkoaeaa
