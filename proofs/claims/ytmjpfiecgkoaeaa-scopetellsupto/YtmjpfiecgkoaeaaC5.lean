/- The check: a term where names are there. -/
import Derived.Test.YtmjpfiecgkoaeaaC4
namespace Go.Proofs.Ytmjpfiecgkoaeaa
open Go.RowKit Go.Maps Go.WideMaps

/-- What 'term' does at terms of k levels. -/
def TermC (k : Nat) : Prop := ∀ (B P Pm A K : Nat) (w : World) (fns : ByteArray → Option Int) (c : Pu.Cnt) (d : Nat) (cs : List Value) (t : Pu.TT k), RT k B w cs t → CkS B P Pm A K w fns c → B ≤ w.heap.size → d ≤ 25 →
  (∀ x, c x + Pu.wt k t ≤ 1099511627776) → K + 2 * Pu.wt k t ≤ 1099511627776 →
  Calls Try.prog 54 #[Ck P Pm A, .agg cs.toArray, .int .i64 d] w fun e w' => e = .returned (.int .i64 (Pu.term fns k c t d)) ∧ CkS B P Pm A (K + 2 * Pu.wt k t) w' fns c ∧ Fr (· = A) w w'

theorem with_le' (c : Pu.Cnt) (l : List ByteArray) (x : ByteArray) : Pu.with' c l x ≤ c x + l.length := by
  unfold Pu.with'
  have := List.countP_le_length (p := fun y => decide (y = x)) (l := l)
  omega

theorem fr_set {T : Nat → Prop} {w w' : World} {R : Nat} {u : Value} (h : Fr T w w') (hR : w.heap.size ≤ R) : Fr T w (w'.setCell ⟨R, 0, none⟩ u) := h.setCell (.inr hR) u

set_option maxHeartbeats 1000000 in
theorem under1_any (k : Nat) (hT : TermC k) (B P Pm A K s : Nat) (w : World) (fns : ByteArray → Option Int) (c : Pu.Cnt) (d : Nat) (cs : List Value) (t : Pu.TT k) (ht : RT k B w cs t) (hs : CkS B P Pm A K w fns c) (hB : B ≤ w.heap.size) (hd : d ≤ 25)
    (hc : ∀ x, c x + Pu.wt k t ≤ 1099511627776) (hK : K + 2 * Pu.wt k t ≤ 1099511627776) (u : Value)
    (h0 : w.heap[s]? = some (.cells (CkA P Pm A) 67 (0, 0))) (h1 : w.heap[s + 1]? = some (.cells cs.toArray 27 (0, 0))) (h2 : w.heap[s + 1 + 1]? = some (.cells #[.int .i64 d] 3 (0, 0))) (h3 : w.heap[s + 1 + 1 + 1]? = some (.cells #[u] 35 (0, 0))) :
    Calls Try.prog 53 #[.pointer (some ⟨s, 0, none⟩), .pointer (some ⟨s + 1, 0, none⟩), .pointer (some ⟨s + 1 + 1, 0, none⟩), .pointer (some ⟨s + 1 + 1 + 1, 0, none⟩)] w fun e w' => e = .returned (.tuple #[]) ∧
      CntAt w' A (K + 2 * Pu.wt k t) c ∧ Fr (fun i => i = A ∨ i = s + 1 + 1 + 1) w w' ∧ w'.heap[s + 1 + 1 + 1]? = some (.cells #[.int .i64 (Pu.term fns k c t d)] 35 (0, 0)) := by
  have HC := hide (hT B P Pm A K w fns c d cs t ht hs hB hd hc hK)
  obtain ⟨kd, n, x, y, a0, n0, c0, a1, n1, c1, a2, n2, c2, rfl⟩ := ht.form
  have b0 := cell_of_heap h0
  have b1 := cell_of_heap h1
  have b2 : w.cell? ⟨s + 1 + 1, 0, none⟩ = some (.int .i64 d) := by rw [cell_of_heap h2]; rfl
  have H3 := hide h3
  have hne : s + 1 + 1 + 1 ≠ A := hs.a.ne_cells h3
  clear h0 h1 h2 h3 hs ht hc hT
  go_enter Try.func53, Try.ntmps53
  go_wp2_with fail
  refine HC.out.mono ?_
  rintro e w1 ⟨rfl, hs1, hf1⟩
  have g3 := fr_heap H3.out hf1 hne
  have z3 := frozen_of_heap g3 0
  obtain ⟨u', hu⟩ : ∃ u', w1.cell? ⟨s + 1 + 1 + 1, 0, none⟩ = some u' := ⟨_, by rw [cell_of_heap g3]; rfl⟩
  have G3 := hide g3
  have HS1 := hide hs1
  have HF1 := hide hf1
  clear g3 hs1 hf1 b0 b1 b2
  go_wp2_with fail
  go_end0
  refine ⟨rfl, HS1.out.a.fr ((Fr.refl (· = s + 1 + 1 + 1) w1).setCell (.inl rfl) _) (Ne.symm hne), ?_, one_set G3.out⟩
  exact (HF1.out.mono (fun i _ e => .inl e)).setCell (.inl (.inr rfl)) _

set_option maxHeartbeats 1000000 in
theorem under_any (k : Nat) (hT : TermC k) (B Bn P Pm A K : Nat) (w : World) (fns : ByteArray → Option Int) (c : Pu.Cnt) (d : Nat) (cs : List Value) (t : Pu.TT k) (v : Value) (l : List ByteArray) (hl : Names Bn w v l) (hA : ∀ w w', Names Bn w v l → Fr (· = A) w w' → Names Bn w' v l)
    (ht : RT k B w cs t) (hs : CkS B P Pm A K w fns c) (hB : B ≤ w.heap.size) (hd : d ≤ 25) (hBn : Bn ≤ w.heap.size)
    (hc : ∀ x, c x + (l.length + Pu.wt k t) ≤ 1099511627776) (hK : K + 2 * l.length + 2 * Pu.wt k t ≤ 1099511627776) :
    Calls Try.prog 40 #[Ck P Pm A, v, .agg cs.toArray, .int .i64 d] w fun e w' => e = .returned (.int .i64 (Pu.term fns k (Pu.with' c l) t d)) ∧ CkS B P Pm A (K + 2 * l.length + 2 * Pu.wt k t) w' fns c ∧ Fr (· = A) w w' := by
  obtain ⟨kd, n, x, y, a0, n0, c0, a1, n1, c1, a2, n2, c2, rfl⟩ := ht.form
  obtain ⟨av, cpv, rfl, _⟩ := hl.1.form
  have hmf : ∀ (fn : Fn) (first cap : Array Value) (w : World), (Instr.makeFunc fn first cap).run Try.prog w = .ok (.func fn first cap) w := fun _ _ _ _ => rfl
  obtain ⟨W, hW⟩ : ∃ W, W = (((w.alloc (.cells (CkA P Pm A) 67)).alloc (.cells #[.int .i64 kd, .int .i64 n, .string x, .string y, .slice a0 n0 c0, .slice a1 n1 c1, .slice a2 n2 c2] 27)).alloc (.cells #[.int .i64 d] 3)).alloc (.cells #[.int .i64 0] 35) := ⟨_, rfl⟩
  have fW : Fr No w W := by rw [hW]; exact ((((Fr.refl No w).alloc _).alloc _).alloc _).alloc _
  have g0 : W.heap[w.heap.size]? = some (.cells (CkA P Pm A) 67 (0, 0)) := by
    rw [hW]
    exact fr_heap (fr_heap (fr_heap (heap_alloc_new _ _) ((Fr.refl No _).alloc _) (fun e => e)) ((Fr.refl No _).alloc _) (fun e => e)) ((Fr.refl No _).alloc _) (fun e => e)
  have g1 : W.heap[w.heap.size + 1]? = some (.cells #[.int .i64 kd, .int .i64 n, .string x, .string y, .slice a0 n0 c0, .slice a1 n1 c1, .slice a2 n2 c2] 27 (0, 0)) := by
    rw [hW]
    have := heap_alloc_new (w.alloc (.cells (CkA P Pm A) 67)) (.cells #[.int .i64 kd, .int .i64 n, .string x, .string y, .slice a0 n0 c0, .slice a1 n1 c1, .slice a2 n2 c2] 27)
    rw [World.size_alloc] at this
    exact fr_heap (fr_heap this ((Fr.refl No _).alloc _) (fun e => e)) ((Fr.refl No _).alloc _) (fun e => e)
  have g2 : W.heap[w.heap.size + 1 + 1]? = some (.cells #[.int .i64 d] 3 (0, 0)) := by
    rw [hW]
    have := heap_alloc_new ((w.alloc (.cells (CkA P Pm A) 67)).alloc (.cells #[.int .i64 kd, .int .i64 n, .string x, .string y, .slice a0 n0 c0, .slice a1 n1 c1, .slice a2 n2 c2] 27)) (.cells #[.int .i64 d] 3)
    rw [World.size_alloc, World.size_alloc] at this
    exact fr_heap this ((Fr.refl No _).alloc _) (fun e => e)
  have g3 : W.heap[w.heap.size + 1 + 1 + 1]? = some (.cells #[.int .i64 0] 35 (0, 0)) := by
    rw [hW]
    have := heap_alloc_new (((w.alloc (.cells (CkA P Pm A) 67)).alloc (.cells #[.int .i64 kd, .int .i64 n, .string x, .string y, .slice a0 n0 c0, .slice a1 n1 c1, .slice a2 n2 c2] 27)).alloc (.cells #[.int .i64 d] 3)) (.cells #[.int .i64 0] 35)
    rw [World.size_alloc, World.size_alloc, World.size_alloc] at this
    exact this
  have hsW := hs.no fW
  have hlW := hl.fr fW
  have htW := ht.old (fW.old hB (fun _ _ e => e)) fW.size
  have CALL : Hid (Calls Try.prog 46 #[.map (some A), .slice av l.length cpv, .func (.func 53) #[] #[.pointer (some ⟨w.heap.size, 0, none⟩), .pointer (some ⟨w.heap.size + 1, 0, none⟩), .pointer (some ⟨w.heap.size + 1 + 1, 0, none⟩), .pointer (some ⟨w.heap.size + 1 + 1 + 1, 0, none⟩)]] W fun e w' => e = .returned (.tuple #[]) ∧
      CkS B P Pm A (K + 2 * l.length + 2 * Pu.wt k t) w' fns c ∧ Fr (· = A) w w' ∧ w'.heap[w.heap.size + 1 + 1 + 1]? = some (.cells #[.int .i64 (Pu.term fns k (Pu.with' c l) t d)] 35 (0, 0))) := by
    have nA : ∀ {R : Nat} {cur : Array Value} {ty : TypeId} {z : Nat × Nat}, W.heap[R]? = some (.cells cur ty z) → R ≠ A := fun h => hsW.a.ne_cells h
    have nN : ∀ w2, Fr (fun i => i = A ∨ i = w.heap.size + 1 + 1 + 1) W w2 → Names Bn w2 (.slice av l.length cpv) l := by
      intro w2 hf
      obtain ⟨w3, hw3⟩ : ∃ w3 : World, w3 = { w2 with heap := w2.heap.setIfInBounds (w.heap.size + 1 + 1 + 1) (.cells #[.int .i64 0] 35) } := ⟨_, rfl⟩
      have hb3 : ∀ i, i ≠ w.heap.size + 1 + 1 + 1 → w3.heap[i]? = w2.heap[i]? := fun i hi => by rw [hw3]; simp [Ne.symm hi]
      have hs3 : w3.heap.size = w2.heap.size := by rw [hw3]; simp
      have hf3 : Fr (· = A) W w3 := ⟨by rw [hw3]; exact hf.os, by rw [hw3]; exact hf.tape, by rw [hw3]; exact hf.output, by rw [hs3]; exact hf.size, fun i hi hne => by
        by_cases e : i = w.heap.size + 1 + 1 + 1
        · subst e
          rw [g3, hw3]
          simp [Nat.lt_of_lt_of_le hi hf.size]
        · rw [hb3 i e]; exact hf.block i hi (fun h => h.elim hne e)⟩
      have h3 := hA W w3 hlW hf3
      refine ⟨?_, h3.2⟩
      obtain ⟨a, cap, p1, p2, p3, p4⟩ := h3.1
      refine ⟨a, cap, p1, p2, p3, fun hn => ?_⟩
      obtain ⟨g, o, p5, p6, p7, p8⟩ := p4 hn
      refine ⟨g, o, p5, p6, by omega, fun i hi => ?_⟩
      rw [← p8 i hi]
      have hge : g ≠ w.heap.size + 1 + 1 + 1 := by omega
      simp only [World.cell?, hb3 g hge]
    refine (with_any 53 _ Bn A K (K + l.length + 2 * Pu.wt k t) (.slice av l.length cpv) l c W (fun w2 => Fr (fun i => i = A ∨ i = w.heap.size + 1 + 1 + 1) W w2 ∧ w2.heap[w.heap.size + 1 + 1 + 1]? = some (.cells #[.int .i64 (Pu.term fns k (Pu.with' c l) t d)] 35 (0, 0))) (fun a w => Try.call53 a w) hlW hA hsW.a (fun x => by have := hc x; omega) (by omega) (by omega) ?_ ?_).mono ?_
    · intro w1 hf1 hc1
      have hs1 := hsW.turn hf1 (K' := K + l.length) (by omega) hc1
      have ho1 : Old B W w1 := hf1.old (Nat.le_trans hB fW.size) (fun i hi e => by have := hs.hA; have e : i = A := e; omega)
      refine (under1_any k hT B P Pm A (K + l.length) w.heap.size w1 fns (Pu.with' c l) d _ t (htW.old ho1 hf1.size) hs1 (Nat.le_trans hB (Nat.le_trans fW.size hf1.size)) hd (fun y => by have := hc y; have := with_le' c l y; omega) (by omega) (.int .i64 0) (fr_heap g0 hf1 (nA g0)) (fr_heap g1 hf1 (nA g1)) (fr_heap g2 hf1 (nA g2)) (fr_heap g3 hf1 (nA g3))).mono ?_
      rintro e w2 ⟨he, h1, h2, h3⟩
      have f12 : Fr (fun i => i = A ∨ i = w.heap.size + 1 + 1 + 1) W w2 := (hf1.mono (fun i _ e => .inl e)).trans h2
      exact ⟨he, h1, nN w2 f12, f12, h3⟩
    · rintro w2 w3 ⟨h1, h2⟩ hf
      exact ⟨h1.trans' hf (fun i _ e => .inl e), fr_heap h2 hf (nA g3)⟩
    · rintro e w' ⟨he, hcn, h1, h2⟩
      have fA : Fr (· = A) w w' := (fW.mono (fun _ _ e => e.elim) : Fr (· = A) w W).trans' h1 (fun i hi e => e.elim id (fun e => by omega))
      exact ⟨he, hs.turn fA (by omega) (hcn.mono (by omega)), fA, h2⟩
  have hPl := lt_of_heap hs.p
  have hPm := hs.m.lt
  have hAl := hs.a.lt
  rw [hW] at CALL
  clear hl hA ht hs hsW hlW htW g0 g1 g2 g3 hT
  show Calls Try.prog 40 #[.agg #[.func (.func 49) #[] #[.pointer (some ⟨P, 0, none⟩)], .map (some Pm), .map (some A)], .slice av l.length cpv, .agg #[.int .i64 kd, .int .i64 n, .string x, .string y, .slice a0 n0 c0, .slice a1 n1 c1, .slice a2 n2 c2], .int .i64 d] w _
  go_enter Try.func40, Try.ntmps40
  go_wp2_with fail
  refine CALL.out.mono ?_
  rintro e w1 ⟨rfl, hs1, hf1, hb1⟩
  have c1 : w1.cell? ⟨w.heap.size + 1 + 1 + 1, 0, none⟩ = some (.int .i64 (Pu.term fns k (Pu.with' c l) t d)) := by rw [cell_of_heap hb1]; rfl
  have z1 := frozen_of_heap hb1 0
  have HS1 := hide hs1
  have HF1 := hide hf1
  have HB1 := hide hb1
  clear hs1 hf1 hb1 hmf hW fW CALL
  go_wp2_with fail
  have c3 : (w1.setCell ⟨w.heap.size + 1 + 1 + 1, 0, none⟩ (.int .i64 (Pu.term fns k (Pu.with' c l) t d))).cell? ⟨w.heap.size + 1 + 1 + 1, 0, none⟩ = some (.int .i64 (Pu.term fns k (Pu.with' c l) t d)) := by rw [cell_of_heap (one_set HB1.out)]; rfl
  have f3 : Fr (· = w.heap.size + 1 + 1 + 1) w1 (w1.setCell ⟨w.heap.size + 1 + 1 + 1, 0, none⟩ (.int .i64 (Pu.term fns k (Pu.with' c l) t d))) := (Fr.refl (· = w.heap.size + 1 + 1 + 1) w1).setCell (.inl rfl) _
  refine bodyPost_ret (v := .int .i64 (Pu.term fns k (Pu.with' c l) t d)) (by simp [results, Try.results40, go_sem, c3]) rfl ⟨rfl, ?_, ?_⟩
  · exact ⟨fr_heap HS1.out.p f3 (by show ¬ P = _; omega), HS1.out.m.fr f3 (by show ¬ Pm = _; omega), HS1.out.a.fr f3 (by show ¬ A = _; omega), HS1.out.ne, HS1.out.hA⟩
  · exact HF1.out.setCell (.inr (by show w.heap.size ≤ w.heap.size + 1 + 1 + 1; omega)) _
end Go.Proofs.Ytmjpfiecgkoaeaa
