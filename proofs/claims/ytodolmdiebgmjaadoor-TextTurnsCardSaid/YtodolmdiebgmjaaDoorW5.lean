/- 'branch', walked, over a contract of the term's own. -/
import Derived.Test.YtodolmdiebgmjaaDoorW4
namespace Go.Proofs.YtodolmdiebgmjaaDoor
open Go.RowKit

theorem two_blocks {w w' : World} {o1 o2 : Obj} {R : Nat} (hf : Fr ((w.alloc o1).alloc o2).heap.size R ((w.alloc o1).alloc o2) w') (hR : R < w.heap.size) :
    w'.heap[w.heap.size]? = some o1 ∧ w'.heap[w.heap.size + 1]? = some o2 := by
  constructor
  · rw [hf.block w.heap.size (by simp; omega) (by omega), Below.heap_alloc _ _ _ (by simp)]; exact heap_alloc_new w o1
  · rw [hf.block (w.heap.size + 1) (by simp) (by omega)]
    have := heap_alloc_new (w.alloc o1) o2
    simpa using this
theorem Fr.of_two {w w' : World} {o1 o2 : Obj} {R : Nat} (hf : Fr ((w.alloc o1).alloc o2).heap.size R ((w.alloc o1).alloc o2) w') : Fr w.heap.size R w w' ∧ w.heap.size + 2 ≤ w'.heap.size := by
  refine ⟨(((Fr.refl w.heap.size R w).alloc (Nat.le_refl _) o1).alloc (by simp) o2).trans' hf (by simp; omega), ?_⟩
  have := hf.size
  simpa using this

/-- What 'branch' answers. -/
def BranchC (k : Nat) (B R : Nat) (s : Pu.St) (a : Nat) (w : World) : Prop :=
  Calls Tryd.prog 57 #[.pointer (some ⟨R, 0, none⟩), .int .i64 a] w fun e w' => ∃ cs : List Value, e = .returned (.agg cs.toArray) ∧ RT (k + 1) (From w.heap.size) w' cs (Pu.branch (Pu.term k) s).1 ∧ Ok B w' R (Pu.branch (Pu.term k) s).2 ∧ Fr w.heap.size R w w'

/-- A box's cells, told one by one. -/
theorem box_facts {w : World} {g : Nat} {cur : Array Value} {t : TypeId} (h : w.heap[g]? = some (.cells cur t (0, 0))) : (∀ o, w.cell? ⟨g, o, none⟩ = cur[o]?) ∧ (∀ o, w.frozen? ⟨g, o, none⟩ = false) :=
  ⟨cell_of_heap h, frozen_of_heap h⟩

/-- The end of 'branch': one more cell of the second box, then the first box whole. -/
theorem stays_end {w3 : World} {X Y g0 g1 o a0 a1 a2 a3 a4 a5 a6 : Nat} {u u0 u1 u2 u3 u4 u5 u6 : Value} (h1 : g1 < X) (h0 : g0 < X) (hY : Y ≤ X) :
    Stays (From X) (From Y) w3 ((((((((w3.setCell ⟨g1, o, none⟩ u).setCell ⟨g0, a0, none⟩ u0).setCell ⟨g0, a1, none⟩ u1).setCell ⟨g0, a2, none⟩ u2).setCell ⟨g0, a3, none⟩ u3).setCell ⟨g0, a4, none⟩ u4).setCell ⟨g0, a5, none⟩ u5).setCell ⟨g0, a6, none⟩ u6) :=
  fun g hg hl => by
    have hg : X ≤ g := hg
    obtain ⟨_, e1⟩ := ((stays_set (S := From X) (w := w3) (g := g1) (o := o) (u := u) (by show ¬ X ≤ g1; omega)).trans (stays_set7 (S := From X) (g := g0) (a0 := a0) (a1 := a1) (a2 := a2) (a3 := a3) (a4 := a4) (a5 := a5) (a6 := a6) (u0 := u0) (u1 := u1) (u2 := u2) (u3 := u3) (u4 := u4) (u5 := u5) (u6 := u6) (by show ¬ X ≤ g0; omega)) (by rw [size_set]; exact Nat.le_refl _)) g hg hl
    exact ⟨by show Y ≤ g; omega, e1⟩

-- a constructor
set_option maxHeartbeats 1000000 in
theorem branch_con (k : Nat) (hk : 1 ≤ k) (hT : TermC k) (B R : Nat) (s : Pu.St) (a : Nat) (w : World) (h : Ok B w R s) (ha : a + k = 26) (hp : Lib.hasPrefix (Pu.next s).1.data.toList [35] = true) : BranchC k B R s a w := by
  unfold BranchC
  have hE : Hid (Pu.branch (Pu.term k) s = (⟨3, (Pu.tag (Pu.next s).1 (Pu.next s).2).1, ⟨#[]⟩, (Pu.terms (Pu.term k) ((Pu.tag (Pu.next s).1 (Pu.next s).2).2.ws.length + 1) (Pu.tag (Pu.next s).1 (Pu.next s).2).2).1, []⟩,
      (Pu.terms (Pu.term k) ((Pu.tag (Pu.next s).1 (Pu.next s).2).2.ws.length + 1) (Pu.tag (Pu.next s).1 (Pu.next s).2).2).2)) := by
    simp [Hid, Pu.branch, hp]
  have H := hide h
  have HA := hide ha
  have HT := hide hT
  clear h ha hT
  go_enter Tryd.func57, Tryd.ntmps57
  go_wp2_with fail
  refine (next_ok B R _ _ H.out.alloc.alloc).mono ?_
  rintro e w1 ⟨rfl, hr1, hf1⟩
  have H1 := hide hr1
  have hRb : R < w.heap.size := H.out.lt
  obtain ⟨b0, b1⟩ := two_blocks hf1 hRb
  obtain ⟨G1, z1⟩ := hf1.of_two
  have HB0 := hide b0
  have HB1 := hide b1
  have HG1 := hide G1
  clear hr1 b0 b1 G1 hf1
  go_wp2_with fail
  refine (Tryd.strings_HasPrefix _ _ _).mono ?_
  rintro e w1' ⟨rfl, rfl⟩
  go_wp2_with fail
  refine (tag_ok B R _ _ _ H1.out H.out.next_size).mono ?_
  rintro e w2 ⟨rfl, hr2, hf2⟩
  have H2 := hide hr2
  have HG2 := hide (HG1.out.on hf2 (Nat.le_refl _))
  have b0 := block_later HB0.out hf2 (by omega)
  have b1 := block_later HB1.out hf2 (by omega)
  have x2 := hf2.size
  have HB0 := hide b0
  have HB1 := hide b1
  obtain ⟨c1, z1⟩ := box_facts b1
  clear hr2 b0 b1 hf2
  go_wp2_with fail
  clear c1 z1
  refine (terms_ok k hk HT.out B R _ a _ ((H2.out.setCell (by have := H.out.bw; show B ≤ w.heap.size + 1; omega)).setCell (by have := H.out.bw; show B ≤ w.heap.size + 1; omega)) HA.out).mono ?_
  rintro e w3 ⟨v, xs, rfl, hown, heach, hr3, hf3⟩
  obtain ⟨av, cv, rfl⟩ := (Row.of_owns hown).form
  have H3 := hide hr3
  have HO := hide hown
  have HC := hide heach
  have HG3 := hide (((HG2.out.setCell' (p := ⟨w.heap.size + 1, 0, none⟩) (by show w.heap.size ≤ w.heap.size + 1; omega)).setCell' (p := ⟨w.heap.size + 1, 1, none⟩) (by show w.heap.size ≤ w.heap.size + 1; omega)).on hf3 (Nat.le_refl _))
  have x3 := hf3.size
  simp only [size_set] at x3
  have b1 := block_later (heap_set_lit (heap_set_lit HB1.out rfl) rfl) hf3 (by omega)
  have b0 := block_later (w := (w2.setCell ⟨w.heap.size + 1, 0, none⟩ _).setCell ⟨w.heap.size + 1, 1, none⟩ _) (by rw [Below.heap_setCell _ _ _ _ (by show w.heap.size ≠ w.heap.size + 1; omega), Below.heap_setCell _ _ _ _ (by show w.heap.size ≠ w.heap.size + 1; omega)]; exact HB0.out) hf3 (by omega)
  obtain ⟨c1, z1⟩ := box_facts b1
  obtain ⟨c0, z0⟩ := box_facts b0
  clear b0 b1 hf3 hr3 hown heach
  go_wp2_with fail
  refine bodyPost_ret (v := .agg [.int .i64 3, .int .i64 (Pu.tag (Pu.next s).1 (Pu.next s).2).1, .string ⟨#[]⟩, .string ⟨#[]⟩, .slice none 0 0, .slice av (Pu.terms (Pu.term k) ((Pu.tag (Pu.next s).1 (Pu.next s).2).2.ws.length + 1) (Pu.tag (Pu.next s).1 (Pu.next s).2).2).1.length cv, .slice none 0 0].toArray) (by simp [results, Tryd.results57, go_sem, c0]) rfl ⟨_, rfl, ?_, ?_, ?_⟩
  · rw [hE.out]
    refine ⟨_, _, xs, [], rfl, (Row.of_owns HO.out).kept (stays_end ?_ ?_ ?_), HC.out.mono fun c t ht => RT.kept (stays_end ?_ ?_ ?_) ht, Row.nil _ _ _ _, rfl⟩ <;> simp only [size_set] <;> omega
  · rw [hE.out]; exact (H3.out.setCell (by have := H.out.bw; show B ≤ w.heap.size + 1; omega)).set7 H.out.bw
  · exact (HG3.out.setCell' (by show w.heap.size ≤ w.heap.size + 1; omega)).set7 (Nat.le_refl _)

-- a let
set_option maxHeartbeats 1000000 in
theorem branch_let (k : Nat) (hT : TermC k) (B R : Nat) (s : Pu.St) (a : Nat) (w : World) (h : Ok B w R s) (ha : a + k = 26) (hp : Lib.hasPrefix (Pu.next s).1.data.toList [35] = false)
    (hl : ((Pu.next s).1.toList == [108, 101, 116]) = true) : BranchC k B R s a w := by
  unfold BranchC
  have hE : Hid (Pu.branch (Pu.term k) s = (⟨6, 0, (Pu.next (Pu.next s).2).1, (Pu.two (Pu.term k) (Pu.name (Pu.next (Pu.next s).2).1 (Pu.next (Pu.next s).2).2)).1, []⟩,
      (Pu.two (Pu.term k) (Pu.name (Pu.next (Pu.next s).2).1 (Pu.next (Pu.next s).2).2)).2)) := by
    simp only [Hid, Pu.branch, hp, hl, if_true]; rfl
  have H := hide h
  have HA := hide ha
  have HT := hide hT
  clear h ha hT
  go_enter Tryd.func57, Tryd.ntmps57
  go_wp2_with fail
  refine (next_ok B R _ _ H.out.alloc.alloc).mono ?_
  rintro e w1 ⟨rfl, hr1, hf1⟩
  have H1 := hide hr1
  have hRb : R < w.heap.size := H.out.lt
  have hB1 : B ≤ w.heap.size + 1 := by have := H.out.bw; omega
  obtain ⟨b0, b1⟩ := two_blocks hf1 hRb
  obtain ⟨G1, z1⟩ := hf1.of_two
  have HB0 := hide b0
  have HB1 := hide b1
  have HG1 := hide G1
  clear hr1 b0 b1 G1 hf1
  go_wp2_with fail
  refine (Tryd.strings_HasPrefix _ _ _).mono ?_
  rintro e w1' ⟨rfl, rfl⟩
  go_wp2_with fail
  refine (next_ok B R _ _ H1.out).mono ?_
  rintro e w2 ⟨rfl, hr2, hf2⟩
  have H2 := hide hr2
  clear hr2
  go_wp2_with fail
  refine (name_ok B R _ _ _ H2.out H1.out.next_size).mono ?_
  rintro e w3 ⟨rfl, hr3, hf3⟩
  have H3 := hide hr3
  have HG3 := hide ((HG1.out.on hf2 (Nat.le_refl _)).on hf3 (Nat.le_refl _))
  have b0 := block_later (block_later HB0.out hf2 (by omega)) hf3 (by omega)
  have b1 := block_later (block_later HB1.out hf2 (by omega)) hf3 (by omega)
  have x3 := Nat.le_trans hf2.size hf3.size
  have HB0 := hide b0
  have HB1 := hide b1
  obtain ⟨c1, q1⟩ := box_facts b1
  clear hr3 b0 b1 hf2 hf3
  go_wp2_with fail
  clear c1 q1
  refine (two_ok k HT.out B R _ a _ ((H3.out.setCell hB1).setCell hB1) HA.out).mono ?_
  rintro e w4 ⟨v, xs, rfl, hown, heach, hr4, hf4⟩
  obtain ⟨av, cv, rfl⟩ := (Row.of_owns hown).form
  have H4 := hide hr4
  have HO := hide hown
  have HC := hide heach
  have HG4 := hide (((HG3.out.setCell' (p := ⟨w.heap.size + 1, 0, none⟩) (Nat.le_succ _)).setCell' (p := ⟨w.heap.size + 1, 2, none⟩) (Nat.le_succ _)).on hf4 (Nat.le_refl _))
  have x4 := hf4.size
  simp only [size_set] at x4
  have b1 := block_later (heap_set_lit (heap_set_lit HB1.out rfl) rfl) hf4 (by omega)
  have b0 := block_later (w := (w3.setCell ⟨w.heap.size + 1, 0, none⟩ _).setCell ⟨w.heap.size + 1, 2, none⟩ _) (by rw [Below.heap_setCell _ _ _ _ (by show w.heap.size ≠ w.heap.size + 1; omega), Below.heap_setCell _ _ _ _ (by show w.heap.size ≠ w.heap.size + 1; omega)]; exact HB0.out) hf4 (by omega)
  obtain ⟨c1, q1⟩ := box_facts b1
  obtain ⟨c0, q0⟩ := box_facts b0
  clear b0 b1 hf4 hr4 hown heach
  go_wp2_with fail
  refine bodyPost_ret (v := .agg [.int .i64 6, .int .i64 0, .string (Pu.next (Pu.next s).2).1, .string ⟨#[]⟩, .slice none 0 0, .slice av 2 cv, .slice none 0 0].toArray) (by simp [results, Tryd.results57, go_sem, c0]) rfl ⟨_, rfl, ?_, ?_, ?_⟩
  · rw [hE.out]
    refine ⟨_, _, xs, [], rfl, (Row.of_owns HO.out).kept (stays_end ?_ ?_ ?_), HC.out.mono fun c t ht => RT.kept (stays_end ?_ ?_ ?_) ht, Row.nil _ _ _ _, rfl⟩ <;> simp only [size_set] <;> omega
  · rw [hE.out]; exact (H4.out.setCell hB1).set7 H.out.bw
  · exact (HG4.out.setCell' (p := ⟨w.heap.size + 1, 5, none⟩) (Nat.le_succ _)).set7 (Nat.le_refl _)

-- a primitive
set_option maxHeartbeats 1000000 in
theorem branch_prim (k : Nat) (hT : TermC k) (B R : Nat) (s : Pu.St) (a : Nat) (w : World) (h : Ok B w R s) (ha : a + k = 26) (hp : Lib.hasPrefix (Pu.next s).1.data.toList [35] = false)
    (hl : ((Pu.next s).1.toList == [108, 101, 116]) = false) (hm : ((Pu.next s).1.toList == [109, 97, 116, 99, 104]) = false) (hq : (Pu.primitive (Pu.next s).1 != 0) = true) : BranchC k B R s a w := by
  unfold BranchC
  have hE : Hid (Pu.branch (Pu.term k) s = (⟨5, Pu.primitive (Pu.next s).1, ⟨#[]⟩, (Pu.two (Pu.term k) (Pu.next s).2).1, []⟩, (Pu.two (Pu.term k) (Pu.next s).2).2)) := by
    simp only [Hid, Pu.branch, hp, hl, hm, hq, if_true]; rfl
  have H := hide h
  have HA := hide ha
  have HT := hide hT
  clear h ha hT
  go_enter Tryd.func57, Tryd.ntmps57
  go_wp2_with fail
  refine (next_ok B R _ _ H.out.alloc.alloc).mono ?_
  rintro e w1 ⟨rfl, hr1, hf1⟩
  have H1 := hide hr1
  have hRb : R < w.heap.size := H.out.lt
  have hB1 : B ≤ w.heap.size + 1 := by have := H.out.bw; omega
  obtain ⟨b0, b1⟩ := two_blocks hf1 hRb
  obtain ⟨G1, z1⟩ := hf1.of_two
  have HB0 := hide b0
  have HB1 := hide b1
  have HG1 := hide G1
  clear hr1 b0 b1 G1 hf1
  go_wp2_with fail
  refine (Tryd.strings_HasPrefix _ _ _).mono ?_
  rintro e w1' ⟨rfl, rfl⟩
  go_wp2_with fail
  refine (primitive_any _ _).mono ?_
  rintro e w1' ⟨rfl, rfl⟩
  go_wp2_with fail
  refine (primitive_any _ _).mono ?_
  rintro e w1 ⟨rfl, rfl⟩
  obtain ⟨c1, q1⟩ := box_facts HB1.out
  go_wp2_with fail
  clear c1 q1
  refine (two_ok k HT.out B R _ a _ ((H1.out.setCell hB1).setCell hB1) HA.out).mono ?_
  rintro e w4 ⟨v, xs, rfl, hown, heach, hr4, hf4⟩
  obtain ⟨av, cv, rfl⟩ := (Row.of_owns hown).form
  have H4 := hide hr4
  have HO := hide hown
  have HC := hide heach
  have HG4 := hide (((HG1.out.setCell' (p := ⟨w.heap.size + 1, 0, none⟩) (Nat.le_succ _)).setCell' (p := ⟨w.heap.size + 1, 1, none⟩) (Nat.le_succ _)).on hf4 (Nat.le_refl _))
  have x4 := hf4.size
  simp only [size_set] at x4
  have b1 := block_later (heap_set_lit (heap_set_lit HB1.out rfl) rfl) hf4 (by omega)
  have b0 := block_later (w := (w1.setCell ⟨w.heap.size + 1, 0, none⟩ _).setCell ⟨w.heap.size + 1, 1, none⟩ _) (by rw [Below.heap_setCell _ _ _ _ (by show w.heap.size ≠ w.heap.size + 1; omega), Below.heap_setCell _ _ _ _ (by show w.heap.size ≠ w.heap.size + 1; omega)]; exact HB0.out) hf4 (by omega)
  obtain ⟨c1, q1⟩ := box_facts b1
  obtain ⟨c0, q0⟩ := box_facts b0
  clear b0 b1 hf4 hr4 hown heach
  go_wp2_with fail
  refine bodyPost_ret (v := .agg [.int .i64 5, .int .i64 (Pu.primitive (Pu.next s).1), .string ⟨#[]⟩, .string ⟨#[]⟩, .slice none 0 0, .slice av 2 cv, .slice none 0 0].toArray) (by simp [results, Tryd.results57, go_sem, c0]) rfl ⟨_, rfl, ?_, ?_, ?_⟩
  · rw [hE.out]
    refine ⟨_, _, xs, [], rfl, (Row.of_owns HO.out).kept (stays_end ?_ ?_ ?_), HC.out.mono fun c t ht => RT.kept (stays_end ?_ ?_ ?_) ht, Row.nil _ _ _ _, rfl⟩ <;> simp only [size_set] <;> omega
  · rw [hE.out]; exact (H4.out.setCell hB1).set7 H.out.bw
  · exact (HG4.out.setCell' (p := ⟨w.heap.size + 1, 5, none⟩) (Nat.le_succ _)).set7 (Nat.le_refl _)

/-- What 'terms' answers. -/
def TermsC (k : Nat) (B R : Nat) (s : Pu.St) (a : Nat) (w : World) : Prop :=
  Calls Tryd.prog 67 #[.pointer (some ⟨R, 0, none⟩), .int .i64 a] w fun e w' => ∃ v xs, e = .returned v ∧ w'.ownsRow w.heap.size 33 7 v (Pu.terms (Pu.term k) (s.ws.length + 1) s).1.length xs ∧
      Each 7 (RT k (From w.heap.size) w') xs (Pu.terms (Pu.term k) (s.ws.length + 1) s).1 ∧ Ok B w' R (Pu.terms (Pu.term k) (s.ws.length + 1) s).2 ∧ Fr w.heap.size R w w'

set_option maxHeartbeats 400000 in
theorem terms_nil (k : Nat) (B R : Nat) (s : Pu.St) (a : Nat) (w : World) (h : Ok B w R s) (hs : s.ws = []) : TermsC k B R s a w := by
  unfold TermsC
  have hm : (Pu.more s).1 = false := by simp [Pu.more, hs]
  have hE : Hid (Pu.terms (Pu.term k) (s.ws.length + 1) s = ([], (Pu.more s).2)) := by simp [Hid, Pu.terms, hm]
  have H := hide h
  clear h hs
  go_enter Tryd.func67, Tryd.ntmps67
  go_wp2_with fail
  refine wp_loop_rounds 1 ?_
  rw [rounds_succ]
  go_wp2_with fail
  refine (more_ok B R s _ H.out).mono ?_
  rintro e w2 ⟨rfl, hr2, hf2⟩
  have H2 := hide hr2
  clear hr2
  go_wp2_with fail
  go_ret
  refine ⟨_, [], rfl, ?_, ?_, ?_, hf2⟩
  · rw [hE.out]; exact World.ownsRow_nil _ _ _ _
  · rw [hE.out]; rfl
  · rw [hE.out]; exact H2.out

-- a call
set_option maxHeartbeats 1000000 in
theorem branch_call (k : Nat) (B R : Nat) (s : Pu.St) (a : Nat) (w : World) (h : Ok B w R s) (ha : ∀ w', Ok B w' R (Pu.name (Pu.next s).1 (Pu.next s).2) → TermsC k B R (Pu.name (Pu.next s).1 (Pu.next s).2) a w')
    (hp : Lib.hasPrefix (Pu.next s).1.data.toList [35] = false)
    (hl : ((Pu.next s).1.toList == [108, 101, 116]) = false) (hm : ((Pu.next s).1.toList == [109, 97, 116, 99, 104]) = false) (hq : (Pu.primitive (Pu.next s).1 != 0) = false) : BranchC k B R s a w := by
  unfold BranchC
  have hE : Hid (Pu.branch (Pu.term k) s = (⟨4, 0, (Pu.next s).1, (Pu.terms (Pu.term k) ((Pu.name (Pu.next s).1 (Pu.next s).2).ws.length + 1) (Pu.name (Pu.next s).1 (Pu.next s).2)).1, []⟩,
      (Pu.terms (Pu.term k) ((Pu.name (Pu.next s).1 (Pu.next s).2).ws.length + 1) (Pu.name (Pu.next s).1 (Pu.next s).2)).2)) := by
    simp only [Hid, Pu.branch, hp, hl, hm, hq]; rfl
  have H := hide h
  have HA := hide ha
  clear h ha
  go_enter Tryd.func57, Tryd.ntmps57
  go_wp2_with fail
  refine (next_ok B R _ _ H.out.alloc.alloc).mono ?_
  rintro e w1 ⟨rfl, hr1, hf1⟩
  have H1 := hide hr1
  have hRb : R < w.heap.size := H.out.lt
  have hB1 : B ≤ w.heap.size + 1 := by have := H.out.bw; omega
  obtain ⟨b0, b1⟩ := two_blocks hf1 hRb
  obtain ⟨G1, z1⟩ := hf1.of_two
  have HB0 := hide b0
  have HB1 := hide b1
  have HG1 := hide G1
  clear hr1 b0 b1 G1 hf1
  go_wp2_with fail
  refine (Tryd.strings_HasPrefix _ _ _).mono ?_
  rintro e w1' ⟨rfl, rfl⟩
  go_wp2_with fail
  refine (primitive_any _ _).mono ?_
  rintro e w1' ⟨rfl, rfl⟩
  go_wp2_with fail
  refine (name_ok B R _ _ _ H1.out H.out.next_size).mono ?_
  rintro e w2 ⟨rfl, hr2, hf2⟩
  have H2 := hide hr2
  have HG2 := hide (HG1.out.on hf2 (Nat.le_refl _))
  have b0 := block_later HB0.out hf2 (by omega)
  have b1 := block_later HB1.out hf2 (by omega)
  have x2 := hf2.size
  have HB0 := hide b0
  have HB1 := hide b1
  obtain ⟨c1, q1⟩ := box_facts b1
  clear hr2 b0 b1 hf2
  go_wp2_with fail
  clear c1 q1
  refine (HA.out _ ((H2.out.setCell hB1).setCell hB1)).mono ?_
  rintro e w3 ⟨v, xs, rfl, hown, heach, hr3, hf3⟩
  obtain ⟨av, cv, rfl⟩ := (Row.of_owns hown).form
  have H3 := hide hr3
  have HO := hide hown
  have HC := hide heach
  have HG3 := hide (((HG2.out.setCell' (p := ⟨w.heap.size + 1, 0, none⟩) (Nat.le_succ _)).setCell' (p := ⟨w.heap.size + 1, 2, none⟩) (Nat.le_succ _)).on hf3 (Nat.le_refl _))
  have x3 := hf3.size
  simp only [size_set] at x3
  have b1 := block_later (heap_set_lit (heap_set_lit HB1.out rfl) rfl) hf3 (by omega)
  have b0 := block_later (w := (w2.setCell ⟨w.heap.size + 1, 0, none⟩ _).setCell ⟨w.heap.size + 1, 2, none⟩ _) (by rw [Below.heap_setCell _ _ _ _ (by show w.heap.size ≠ w.heap.size + 1; omega), Below.heap_setCell _ _ _ _ (by show w.heap.size ≠ w.heap.size + 1; omega)]; exact HB0.out) hf3 (by omega)
  obtain ⟨c1, q1⟩ := box_facts b1
  obtain ⟨c0, q0⟩ := box_facts b0
  clear b0 b1 hf3 hr3 hown heach
  go_wp2_with fail
  refine bodyPost_ret (v := .agg [.int .i64 4, .int .i64 0, .string (Pu.next s).1, .string ⟨#[]⟩, .slice none 0 0, .slice av (Pu.terms (Pu.term k) ((Pu.name (Pu.next s).1 (Pu.next s).2).ws.length + 1) (Pu.name (Pu.next s).1 (Pu.next s).2)).1.length cv, .slice none 0 0].toArray) (by simp [results, Tryd.results57, go_sem, c0]) rfl ⟨_, rfl, ?_, ?_, ?_⟩
  · rw [hE.out]
    refine ⟨_, _, xs, [], rfl, (Row.of_owns HO.out).kept (stays_end ?_ ?_ ?_), HC.out.mono fun c t ht => RT.kept (stays_end ?_ ?_ ?_) ht, Row.nil _ _ _ _, rfl⟩ <;> simp only [size_set] <;> omega
  · rw [hE.out]; exact (H3.out.setCell hB1).set7 H.out.bw
  · exact (HG3.out.setCell' (p := ⟨w.heap.size + 1, 5, none⟩) (Nat.le_succ _)).set7 (Nat.le_refl _)

-- a match
set_option maxHeartbeats 1000000 in
theorem branch_match (k : Nat) (hT : TermC k) (B R : Nat) (s : Pu.St) (a : Nat) (w : World) (h : Ok B w R s) (ha : a + k = 26) (hp : Lib.hasPrefix (Pu.next s).1.data.toList [35] = false)
    (hl : ((Pu.next s).1.toList == [108, 101, 116]) = false) (hm : ((Pu.next s).1.toList == [109, 97, 116, 99, 104]) = true) : BranchC k B R s a w := by
  unfold BranchC
  have hE : Hid (Pu.branch (Pu.term k) s = (⟨7, 0, ⟨#[]⟩, [(Pu.term k (Pu.next s).2).1], (Pu.cases (Pu.term k) ((Pu.term k (Pu.next s).2).2.ws.length + 1) (Pu.term k (Pu.next s).2).2).1⟩,
      (Pu.cases (Pu.term k) ((Pu.term k (Pu.next s).2).2.ws.length + 1) (Pu.term k (Pu.next s).2).2).2)) := by
    simp only [Hid, Pu.branch, hp, hl, hm, if_true]; rfl
  have H := hide h
  have HA := hide ha
  have HT := hide hT
  clear h ha hT
  go_enter Tryd.func57, Tryd.ntmps57
  go_wp2_with fail
  refine (next_ok B R _ _ H.out.alloc.alloc).mono ?_
  rintro e w1 ⟨rfl, hr1, hf1⟩
  have H1 := hide hr1
  have hRb : R < w.heap.size := H.out.lt
  have hB1 : B ≤ w.heap.size + 1 := by have := H.out.bw; omega
  obtain ⟨b0, b1⟩ := two_blocks hf1 hRb
  obtain ⟨G1, z1⟩ := hf1.of_two
  have HB0 := hide b0
  have HB1 := hide b1
  have HG1 := hide G1
  clear hr1 b0 b1 G1 hf1
  go_wp2_with fail
  refine (Tryd.strings_HasPrefix _ _ _).mono ?_
  rintro e w1' ⟨rfl, rfl⟩
  obtain ⟨c1, q1⟩ := box_facts HB1.out
  go_wp2_with fail
  clear c1 q1
  refine (HT.out B R _ a _ (H1.out.setCell hB1) HA.out).mono ?_
  rintro e w2 ⟨cs, rfl, hrt, hr2, hf2⟩
  obtain ⟨kd, nn, x, a1, n1, e1, a2, n2, e2, rfl⟩ := hrt.form
  have H2 := hide hr2
  have R2 := hide hrt
  have HG2 := hide ((HG1.out.setCell' (p := ⟨w.heap.size + 1, 0, none⟩) (Nat.le_succ _)).on hf2 (Nat.le_refl _))
  have x2 := hf2.size
  simp only [size_set] at x2
  have b1 := block_later (heap_set_lit HB1.out rfl) hf2 (by omega)
  have b0 := block_later (w := w1'.setCell ⟨w.heap.size + 1, 0, none⟩ _) (by rw [Below.heap_setCell _ _ _ _ (by show w.heap.size ≠ w.heap.size + 1; omega)]; exact HB0.out) hf2 (by omega)
  have HB0 := hide b0
  have HB1 := hide b1
  obtain ⟨c1, q1⟩ := box_facts b1
  clear hr2 hrt b0 b1 hf2
  have hz2 : w.heap.size + 1 < w2.heap.size := by omega
  go_wp2_with fail
  clear c1 q1
  refine (cases_ok k HT.out B R _ a _ (H2.out.setCell hB1).alloc HA.out).mono ?_
  rintro e w3 ⟨v, xs, rfl, hown, heach, hr3, hf3⟩
  obtain ⟨av, cv, rfl⟩ := (Row.of_owns hown).form
  have H3 := hide hr3
  have HO := hide hown
  have HC := hide heach
  have HF3 := hide hf3
  have HG3 := hide (((HG2.out.setCell' (p := ⟨w.heap.size + 1, 5, none⟩) (Nat.le_succ _)).alloc (by rw [size_set]; omega) _).on hf3 (Nat.le_refl _))
  have x3 : w2.heap.size + 1 ≤ w3.heap.size := by have := hf3.size; simpa [size_set] using this
  have b1 := block_later (w := (w2.setCell ⟨w.heap.size + 1, 5, none⟩ _).alloc _) (by rw [Below.heap_alloc _ _ _ (by rw [size_set]; omega)]; exact heap_set_lit HB1.out rfl) hf3 (by omega)
  have b0 := block_later (g := w.heap.size) (w := (w2.setCell ⟨w.heap.size + 1, 5, none⟩ _).alloc _) (by rw [Below.heap_alloc _ _ _ (by rw [size_set]; omega), Below.heap_setCell _ _ _ _ (by show w.heap.size ≠ w.heap.size + 1; omega)]; exact HB0.out) hf3 (by omega)
  obtain ⟨c1, q1⟩ := box_facts b1
  obtain ⟨c0, q0⟩ := box_facts b0
  clear b0 b1 hf3 hr3 hown heach
  go_wp2_with fail
  refine bodyPost_ret (v := .agg [.int .i64 7, .int .i64 0, .string ⟨#[]⟩, .string ⟨#[]⟩, .slice none 0 0, .slice (some ⟨w2.heap.size, 0, none⟩) 1 1, .slice av (Pu.cases (Pu.term k) ((Pu.term k (Pu.next s).2).2.ws.length + 1) (Pu.term k (Pu.next s).2).2).1.length cv].toArray) (by simp [results, Tryd.results57, go_sem, c0]) rfl ⟨_, rfl, ?_, ?_, ?_⟩
  · rw [hE.out]
    have hrow := World.ownsRow_lit (base := w2.heap.size) (e := 33) (size := 7) (w2.setCell ⟨w.heap.size + 1, 5, none⟩ (.slice (some ⟨w2.heap.size, 0, none⟩) 1 1)) #[.int .i64 kd, .int .i64 nn, .string x, .string ⟨#[]⟩, .slice none 0 0, .slice a1 n1 e1, .slice a2 n2 e2] 1 (by rw [size_set]; exact Nat.le_refl _) (by unfold maxLen; omega) rfl
    rw [size_set] at hrow
    have st3 : Stays (From w2.heap.size) (From w2.heap.size) ((w2.setCell ⟨w.heap.size + 1, 5, none⟩ (.slice (some ⟨w2.heap.size, 0, none⟩) 1 1)).alloc (.cells #[.int .i64 kd, .int .i64 nn, .string x, .string ⟨#[]⟩, .slice none 0 0, .slice a1 n1 e1, .slice a2 n2 e2] 33)) w3 := stays_fr HF3.out (by omega) (Nat.le_refl _)
    have st3' : Stays (From w1'.heap.size) (From w1'.heap.size) w2 w3 := by
      refine (stays_set (g := w.heap.size + 1) (o := 5) (u := .slice (some ⟨w2.heap.size, 0, none⟩) 1 1) (by show ¬ w1'.heap.size ≤ _; omega)).trans ?_ (by rw [size_set]; exact Nat.le_refl _)
      refine (stays_fr (R := R) ((Fr.refl _ R _).alloc (Nat.le_refl _) _) (by omega) (Nat.le_refl _)).trans (stays_fr HF3.out (by omega) (Nat.le_refl _)) (by simp)
    have hR2 := R2.out
    rw [size_set] at hR2
    have hC := HC.out
    have hO := HO.out
    have eX : ((w2.setCell ⟨w.heap.size + 1, 5, none⟩ (.slice (some ⟨w2.heap.size, 0, none⟩) 1 1)).alloc (.cells #[.int .i64 kd, .int .i64 nn, .string x, .string ⟨#[]⟩, .slice none 0 0, .slice a1 n1 e1, .slice a2 n2 e2] 33)).heap.size = w2.heap.size + 1 := by simp
    rw [eX] at hC hO
    refine ⟨_, _, [.int .i64 kd, .int .i64 nn, .string x, .string ⟨#[]⟩, .slice none 0 0, .slice a1 n1 e1, .slice a2 n2 e2], xs, rfl, ((Row.of_owns hrow).kept st3).kept (stays_end ?_ ?_ ?_), ⟨_, [], rfl, rfl, RT.kept (stays_end ?_ ?_ ?_) (RT.kept st3' hR2), rfl⟩, (Row.of_owns hO).kept (stays_end ?_ ?_ ?_), hC.mono fun c t ht => RC.kept (stays_end ?_ ?_ ?_) (fun _ _ hc => RT.kept (stays_end ?_ ?_ ?_) hc) ht⟩ <;> omega
  · rw [hE.out]; exact (H3.out.setCell hB1).set7 H.out.bw
  · exact (HG3.out.setCell' (p := ⟨w.heap.size + 1, 6, none⟩) (Nat.le_succ _)).set7 (Nat.le_refl _)

end Go.Proofs.YtodolmdiebgmjaaDoor
