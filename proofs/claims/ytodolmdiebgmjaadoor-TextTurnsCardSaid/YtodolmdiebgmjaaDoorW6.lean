/- 'term', walked: the contract of all levels. -/
import Derived.Test.YtodolmdiebgmjaaDoorW5
namespace Go.Proofs.YtodolmdiebgmjaaDoor
open Go.RowKit

theorem empty_list : (⟨#[]⟩ : ByteArray).toList = [] := ByteArray.toList_mk []

theorem branch_any (k : Nat) (hk : 1 ≤ k) (hT : TermC k) (B R : Nat) (s : Pu.St) (a : Nat) (w : World) (h : Ok B w R s) (ha : a + k = 26) : BranchC k B R s a w := by
  cases hp : Lib.hasPrefix (Pu.next s).1.data.toList [35]
  · cases hl : ((Pu.next s).1.toList == [108, 101, 116])
    · cases hm : ((Pu.next s).1.toList == [109, 97, 116, 99, 104])
      · cases hq : (Pu.primitive (Pu.next s).1 != 0)
        · exact branch_call k B R s a w h (fun w' h' => terms_ok k hk hT B R _ a w' h' ha) hp hl hm hq
        · exact branch_prim k hT B R s a w h ha hp hl hm hq
      · exact branch_match k hT B R s a w h ha hp hl hm
    · exact branch_let k hT B R s a w h ha hp hl
  · exact branch_con k hk hT B R s a w h ha hp
theorem branch_nil (k : Nat) (B R : Nat) (s : Pu.St) (a : Nat) (w : World) (h : Ok B w R s) (hs : s.ws = []) : BranchC k B R s a w := by
  have e : (Pu.next s).1 = ⟨#[]⟩ := by simp [Pu.next, hs]
  have es : (Pu.name (Pu.next s).1 (Pu.next s).2).ws = [] := by
    have h1 := (Pu.name_suf (Pu.next s).1 (Pu.next s).2).trans (Pu.next_suf s)
    rw [hs] at h1
    exact List.suffix_nil.1 h1
  refine branch_call k B R s a w h (fun w' h' => terms_nil k B R _ a w' h' es) ?_ ?_ ?_ ?_ <;> rw [e]
  · rfl
  · rw [empty_list]; rfl
  · rw [empty_list]; rfl
  · simp [Pu.primitive]

-- a name or a number
set_option maxHeartbeats 1000000 in
theorem term_leaf (k : Nat) (B R : Nat) (s : Pu.St) (a : Nat) (w : World) (h : Ok B w R s) (ha : a + (k + 1) = 26) (hl : ((Pu.next s).1.toList == [40]) = false) :
    Calls Tryd.prog 40 #[.pointer (some ⟨R, 0, none⟩), .int .i64 a] w fun e w' => ∃ cs : List Value, e = .returned (.agg cs.toArray) ∧ RT (k + 1) (From w.heap.size) w' cs (Pu.term (k + 1) s).1 ∧ Ok B w' R (Pu.term (k + 1) s).2 ∧ Fr w.heap.size R w w' := by
  have hE : Hid (Pu.term (k + 1) s = ((Pu.leaf (α := Pu.TT k) (Pu.next s).1 (Pu.next s).2).1, if decide (k = 0) = true then Pu.fail 9 (Pu.leaf (α := Pu.TT k) (Pu.next s).1 (Pu.next s).2).2 else (Pu.leaf (α := Pu.TT k) (Pu.next s).1 (Pu.next s).2).2)) := by
    simp only [Hid, Pu.term, Pu.termN, hl]; rfl
  have hA : Hid ((Pu.leaf (α := Pu.TT k) (Pu.next s).1 (Pu.next s).2).1.args = [] ∧ (Pu.leaf (α := Pu.TT k) (Pu.next s).1 (Pu.next s).2).1.cases = []) := by
    unfold Hid Pu.leaf; split <;> exact ⟨rfl, rfl⟩
  have H := hide h
  have HA := hide ha
  clear h
  by_cases hk : k = 0
  · subst hk
    have ha25 : a = 25 := by omega
    subst ha25
    clear ha
    go_enter Tryd.func40, Tryd.ntmps40
    go_wp2_with fail
    refine (next_ok B R _ _ H.out.alloc.alloc).mono ?_
    rintro e w1 ⟨rfl, hr1, hf1⟩
    have H1 := hide hr1
    have hRb : R < w.heap.size := H.out.lt
    have hB1 : B ≤ w.heap.size + 1 := by have := H.out.bw; omega
    obtain ⟨b0, b1⟩ := two_blocks hf1 hRb
    obtain ⟨G1, z1⟩ := hf1.of_two
    have HB0 := hide b0
    have HB1 := hide b1
    have HG1 := hide G1
    clear hr1 b0 b1 G1 hf1
    go_wp2_with fail
    refine (leaf_ok (α := Pu.TT 0) B R _ _ _ H1.out H.out.next_size).mono ?_
    rintro e w2 ⟨rfl, hr2, hf2⟩
    have H2 := hide hr2
    have HG2 := hide (HG1.out.on hf2 (Nat.le_refl _))
    have b0 := block_later HB0.out hf2 (by omega)
    have b1 := block_later HB1.out hf2 (by omega)
    have HB0 := hide b0
    have HB1 := hide b1
    obtain ⟨c1, q1⟩ := box_facts b1
    unfold leafCells
    clear hr2 b0 b1 hf2
    go_wp2_with fail
    clear c1 q1
    refine (fail_ok B R _ _ _ (H2.out.set7 hB1)).mono ?_
    rintro e w3 ⟨rfl, hr3, hf3⟩
    have H3 := hide hr3
    have HG3 := hide ((HG2.out.set7 (g := w.heap.size + 1) (Nat.le_succ _)).on hf3 (Nat.le_refl _))
    have b1 := block_later (heap_set_lit (heap_set_lit (heap_set_lit (heap_set_lit (heap_set_lit (heap_set_lit (heap_set_lit HB1.out rfl) rfl) rfl) rfl) rfl) rfl) rfl) hf3 (by omega)
    have b0 := block_later (g := w.heap.size) (by rw [set7_other (by omega)]; exact HB0.out) hf3 (by omega)
    obtain ⟨c1, q1⟩ := box_facts b1
    obtain ⟨c0, q0⟩ := box_facts b0
    clear hr3 hf3 b1 b0
    go_wp2_with fail
    refine bodyPost_ret (v := .agg [.int .i64 (Pu.leaf (α := Pu.TT 0) (Pu.next s).1 (Pu.next s).2).1.kind, .int .i64 (Pu.leaf (α := Pu.TT 0) (Pu.next s).1 (Pu.next s).2).1.n, .string (Pu.leaf (α := Pu.TT 0) (Pu.next s).1 (Pu.next s).2).1.name, .string ⟨#[]⟩, .slice none 0 0, .slice none 0 0, .slice none 0 0].toArray) (by simp [results, Tryd.results40, go_sem, c0]) rfl ⟨_, rfl, ?_, ?_, ?_⟩
    · rw [hE.out]
      refine ⟨_, _, [], [], rfl, ?_, ?_, ?_, ?_⟩
      · rw [hA.out.1]; exact Row.nil _ _ _ _
      · rw [hA.out.1]; rfl
      · rw [hA.out.2]; exact Row.nil _ _ _ _
      · rw [hA.out.2]; rfl
    · rw [hE.out]; exact H3.out.set7 H.out.bw
    · exact HG3.out.set7 (Nat.le_refl _)
  · have ha24 : (a : Int) ≤ 24 := by omega
    have hk0 : Hid (decide (k = 0) = false) := by simp [Hid, hk]
    clear ha hk
    go_enter Tryd.func40, Tryd.ntmps40
    go_wp2_with fail
    refine (next_ok B R _ _ H.out.alloc.alloc).mono ?_
    rintro e w1 ⟨rfl, hr1, hf1⟩
    have H1 := hide hr1
    have hRb : R < w.heap.size := H.out.lt
    have hB1 : B ≤ w.heap.size + 1 := by have := H.out.bw; omega
    obtain ⟨b0, b1⟩ := two_blocks hf1 hRb
    obtain ⟨G1, z1⟩ := hf1.of_two
    have HB0 := hide b0
    have HB1 := hide b1
    have HG1 := hide G1
    clear hr1 b0 b1 G1 hf1
    go_wp2_with fail
    refine (leaf_ok (α := Pu.TT k) B R _ _ _ H1.out H.out.next_size).mono ?_
    rintro e w2 ⟨rfl, hr2, hf2⟩
    have H2 := hide hr2
    have HG2 := hide (HG1.out.on hf2 (Nat.le_refl _))
    have b0 := block_later HB0.out hf2 (by omega)
    have b1 := block_later HB1.out hf2 (by omega)
    obtain ⟨c1, q1⟩ := box_facts b1
    obtain ⟨c0, q0⟩ := box_facts b0
    unfold leafCells
    clear hr2 b0 b1 hf2
    go_wp2_with fail
    refine bodyPost_ret (v := .agg [.int .i64 (Pu.leaf (α := Pu.TT k) (Pu.next s).1 (Pu.next s).2).1.kind, .int .i64 (Pu.leaf (α := Pu.TT k) (Pu.next s).1 (Pu.next s).2).1.n, .string (Pu.leaf (α := Pu.TT k) (Pu.next s).1 (Pu.next s).2).1.name, .string ⟨#[]⟩, .slice none 0 0, .slice none 0 0, .slice none 0 0].toArray) (by simp [results, Tryd.results40, go_sem, c0]) rfl ⟨_, rfl, ?_, ?_, ?_⟩
    · rw [hE.out]
      refine ⟨_, _, [], [], rfl, ?_, ?_, ?_, ?_⟩
      · rw [hA.out.1]; exact Row.nil _ _ _ _
      · rw [hA.out.1]; rfl
      · rw [hA.out.2]; exact Row.nil _ _ _ _
      · rw [hA.out.2]; rfl
    · rw [hE.out, hk0.out]; exact (H2.out.set7 hB1).set7 H.out.bw
    · exact (HG2.out.set7 (g := w.heap.size + 1) (Nat.le_succ _)).set7 (Nat.le_refl _)

theorem stays_end7 {w3 : World} {X Y g0 g1 a0 a1 a2 a3 a4 a5 a6 d0 d1 d2 d3 d4 d5 d6 : Nat} {u0 u1 u2 u3 u4 u5 u6 v0 v1 v2 v3 v4 v5 v6 : Value} (h1 : g1 < X) (h0 : g0 < X) (hY : Y ≤ X) :
    Stays (From X) (From Y) w3 ((((((((((((((w3.setCell ⟨g1, d0, none⟩ v0).setCell ⟨g1, d1, none⟩ v1).setCell ⟨g1, d2, none⟩ v2).setCell ⟨g1, d3, none⟩ v3).setCell ⟨g1, d4, none⟩ v4).setCell ⟨g1, d5, none⟩ v5).setCell ⟨g1, d6, none⟩ v6).setCell
      ⟨g0, a0, none⟩ u0).setCell ⟨g0, a1, none⟩ u1).setCell ⟨g0, a2, none⟩ u2).setCell ⟨g0, a3, none⟩ u3).setCell ⟨g0, a4, none⟩ u4).setCell ⟨g0, a5, none⟩ u5).setCell ⟨g0, a6, none⟩ u6) := by
  have e1 : Stays (From X) (From X) w3 _ := stays_set7 (g := g1) (a0 := d0) (a1 := d1) (a2 := d2) (a3 := d3) (a4 := d4) (a5 := d5) (a6 := d6) (u0 := v0) (u1 := v1) (u2 := v2) (u3 := v3) (u4 := v4) (u5 := v5) (u6 := v6) (by show ¬ X ≤ g1; omega)
  refine Stays.trans e1 ?_ (by rw [size_set7]; exact Nat.le_refl _)
  intro g hg hl
  obtain ⟨_, e⟩ := stays_set7 (S := From X) (g := g0) (a0 := a0) (a1 := a1) (a2 := a2) (a3 := a3) (a4 := a4) (a5 := a5) (a6 := a6) (u0 := u0) (u1 := u1) (u2 := u2) (u3 := u3) (u4 := u4) (u5 := u5) (u6 := u6) (by show ¬ X ≤ g0; omega) g hg hl
  exact ⟨Nat.le_trans hY hg, e⟩

-- a term in brackets
set_option maxHeartbeats 1000000 in
theorem term_open (k : Nat) (hT : k = 0 ∨ TermC k) (B R : Nat) (s : Pu.St) (a : Nat) (w : World) (h : Ok B w R s) (ha : a + (k + 1) = 26) (hl : ((Pu.next s).1.toList == [40]) = true) :
    Calls Tryd.prog 40 #[.pointer (some ⟨R, 0, none⟩), .int .i64 a] w fun e w' => ∃ cs : List Value, e = .returned (.agg cs.toArray) ∧ RT (k + 1) (From w.heap.size) w' cs (Pu.term (k + 1) s).1 ∧ Ok B w' R (Pu.term (k + 1) s).2 ∧ Fr w.heap.size R w w' := by
  have hE : Hid (Pu.term (k + 1) s = Pu.branch (Pu.term k) (if decide (k = 0) = true then Pu.fail 9 (Pu.next s).2 else (Pu.next s).2)) := by
    simp only [Hid, Pu.term, Pu.termN, hl, if_true]; rfl
  have H := hide h
  have HA := hide ha
  have HT := hide hT
  clear h hT
  by_cases hk : k = 0
  · subst hk
    have ha25 : a = 25 := by omega
    subst ha25
    clear ha
    go_enter Tryd.func40, Tryd.ntmps40
    go_wp2_with fail
    refine (next_ok B R _ _ H.out.alloc.alloc).mono ?_
    rintro e w1 ⟨rfl, hr1, hf1⟩
    have H1 := hide hr1
    have hRb : R < w.heap.size := H.out.lt
    have hB1 : B ≤ w.heap.size + 1 := by have := H.out.bw; omega
    obtain ⟨b0, b1⟩ := two_blocks hf1 hRb
    obtain ⟨G1, z1⟩ := hf1.of_two
    have HB0 := hide b0
    have HB1 := hide b1
    have HG1 := hide G1
    clear hr1 b0 b1 G1 hf1
    go_wp2_with fail
    refine (fail_ok B R _ _ _ H1.out).mono ?_
    rintro e w2 ⟨rfl, hr2, hf2⟩
    have H2 := hide hr2
    have HG2 := hide (HG1.out.on hf2 (Nat.le_refl _))
    have HB0 := hide (block_later HB0.out hf2 (by omega))
    have HB1 := hide (block_later HB1.out hf2 (by omega))
    have x2 := hf2.size
    clear hr2 hf2
    go_wp2_with fail
    have hb : Calls Tryd.prog 57 #[.pointer (some ⟨R, 0, none⟩), .int .i64 26] w2 _ := branch_nil 0 B R _ 26 w2 H2.out rfl
    refine hb.mono ?_
    rintro e w3 ⟨cs, rfl, hrt, hr3, hf3⟩
    obtain ⟨kd, nn, x, a1, n1, e1, a2, n2, e2, rfl⟩ := hrt.form
    have H3 := hide hr3
    have R3 := hide hrt
    have HG3 := hide (HG2.out.on hf3 (Nat.le_refl _))
    have b0 := block_later HB0.out hf3 (by omega)
    have b1 := block_later HB1.out hf3 (by omega)
    obtain ⟨c1, q1⟩ := box_facts b1
    obtain ⟨c0, q0⟩ := box_facts b0
    clear hr3 hrt hf3 b0 b1
    go_wp2_with fail
    refine bodyPost_ret (v := .agg [.int .i64 kd, .int .i64 nn, .string x, .string ⟨#[]⟩, .slice none 0 0, .slice a1 n1 e1, .slice a2 n2 e2].toArray) (by simp [results, Tryd.results40, go_sem, c0]) rfl ⟨_, rfl, ?_, ?_, ?_⟩
    · rw [hE.out]; exact RT.kept (stays_end7 (by omega) (by omega) (by omega)) R3.out
    · rw [hE.out]; exact (H3.out.set7 hB1).set7 H.out.bw
    · exact (HG3.out.set7 (g := w.heap.size + 1) (Nat.le_succ _)).set7 (Nat.le_refl _)
  · have ha24 : (a : Int) ≤ 24 := by omega
    have hk0 : Hid (decide (k = 0) = false) := by simp [Hid, hk]
    have HT : Hid (TermC k) := by rcases HT.out with h | h; exact absurd h hk; exact h
    have HK : Hid (1 ≤ k) := by simp only [Hid]; omega
    clear ha hk
    go_enter Tryd.func40, Tryd.ntmps40
    go_wp2_with fail
    refine (next_ok B R _ _ H.out.alloc.alloc).mono ?_
    rintro e w1 ⟨rfl, hr1, hf1⟩
    have H1 := hide hr1
    have hRb : R < w.heap.size := H.out.lt
    have hB1 : B ≤ w.heap.size + 1 := by have := H.out.bw; omega
    obtain ⟨b0, b1⟩ := two_blocks hf1 hRb
    obtain ⟨G1, z1⟩ := hf1.of_two
    have HB0 := hide b0
    have HB1 := hide b1
    have HG1 := hide G1
    clear hr1 b0 b1 G1 hf1
    go_wp2_with fail
    have hb : Calls Tryd.prog 57 #[.pointer (some ⟨R, 0, none⟩), .int .i64 ((a : Int) + 1)] w1 _ := branch_any k HK.out HT.out B R _ (a + 1) w1 H1.out (by have := HA.out; omega)
    refine hb.mono ?_
    rintro e w3 ⟨cs, rfl, hrt, hr3, hf3⟩
    obtain ⟨kd, nn, x, a1, n1, e1, a2, n2, e2, rfl⟩ := hrt.form
    have H3 := hide hr3
    have R3 := hide hrt
    have HG3 := hide (HG1.out.on hf3 (Nat.le_refl _))
    have b0 := block_later HB0.out hf3 (by omega)
    have b1 := block_later HB1.out hf3 (by omega)
    obtain ⟨c1, q1⟩ := box_facts b1
    obtain ⟨c0, q0⟩ := box_facts b0
    clear hr3 hrt hf3 b0 b1
    go_wp2_with fail
    refine bodyPost_ret (v := .agg [.int .i64 kd, .int .i64 nn, .string x, .string ⟨#[]⟩, .slice none 0 0, .slice a1 n1 e1, .slice a2 n2 e2].toArray) (by simp [results, Tryd.results40, go_sem, c0]) rfl ⟨_, rfl, ?_, ?_, ?_⟩
    · rw [hE.out, hk0.out]; exact RT.kept (stays_end7 (by omega) (by omega) (by omega)) R3.out
    · rw [hE.out, hk0.out]; exact (H3.out.set7 hB1).set7 H.out.bw
    · exact (HG3.out.set7 (g := w.heap.size + 1) (Nat.le_succ _)).set7 (Nat.le_refl _)

theorem term_all : ∀ k, TermC (k + 1)
  | 0 => fun B R s a w h ha => by
    cases hl : ((Pu.next s).1.toList == [40])
    · exact term_leaf 0 B R s a w h ha hl
    · exact term_open 0 (.inl rfl) B R s a w h ha hl
  | k + 1 => fun B R s a w h ha => by
    cases hl : ((Pu.next s).1.toList == [40])
    · exact term_leaf (k + 1) B R s a w h ha hl
    · exact term_open (k + 1) (.inr (term_all k)) B R s a w h ha hl

end Go.Proofs.YtodolmdiebgmjaaDoor
