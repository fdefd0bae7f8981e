/- Copies of values: 'Own', walked; numbers, primitives. -/
import Derived.Test.YtdgmengfdfkgaabDoorRvE5
namespace Go.Proofs.YtdgmengfdfkgaabDoor
open Go.RowKit Go.Maps Go.WideMaps
set_option maxRecDepth 100000

/-- What 'Own' does at values of k levels. -/
def OwnV (k : Nat) : Prop := ∀ (w : World) (cs : List Value) (v : Pu.V), RV k Any w cs v →
  Calls Tryd.prog 23 #[.agg cs.toArray] w fun e w' => ∃ cs', e = .returned (.agg cs'.toArray) ∧ Fr No w w' ∧ RV k (New w w') w' cs' v

set_option maxHeartbeats 4000000 in
theorem own_node (k : Nat) (hO : OwnV k) : OwnV (k + 1) := by
  intro w cs v hv
  obtain ⟨kv, xs0, rfl, hkl, hr, he⟩ := hv
  obtain ⟨a0, cp0, rfl, hcp1, hcp2⟩ := hr.form
  unfold maxLen at hcp2
  obtain ⟨c1, n1, l⟩ := v
  simp only at *
  have HR := hide hr
  have HE := hide he
  have HO := hide hO
  clear hr he hO
  show Calls Tryd.prog 23 #[.agg #[.bool c1, .int .i64 n1, .slice a0 l.length cp0]] w _
  by_cases h0 : l.length = 0
  · have e0 : l = [] := List.length_eq_zero_iff.1 h0
    subst e0
    simp only [List.length_nil]
    go_enter Tryd.func23, Tryd.ntmps23
    go_wp2_with fail
    go_loopw [17] (fun q wr => q = .int .i64 0 ∧ wr = (w.alloc (.cells #[.bool c1, .int .i64 n1, .slice a0 0 cp0] 29)).alloc (.cells #[.bool false, .int .i64 0, .slice none 0 0] 29)) (fun _ _ => 0)
    case atStart => exact ⟨rfl, rfl⟩
    case round =>
      obtain ⟨rfl, rfl⟩ := hrel
      go_wp2_with fail
      refine bodyPost_ret (ret1 rfl _ _ (w.heap.size + 1) (.bool c1) (.int .i64 n1) (.slice none 0 0) (0, 0) rfl ?_) rfl ⟨[.bool c1, .int .i64 n1, .slice none 0 0], rfl, ((Fr.refl No w).alloc _).alloc _, RV.num _ _ _ _ _⟩
      have g1 := heap_alloc_new (w.alloc (.cells #[.bool c1, .int .i64 n1, .slice a0 0 cp0] 29)) (.cells #[.bool c1, .int .i64 n1, .slice none 0 0] 29)
      rw [World.size_alloc] at g1
      exact g1
  · have h0' : (0 : Int) < (l.length : Int) := by omega
    obtain ⟨i0, hi, hz0, hz1, hz2⟩ := info_parts Tryd.info29
    have hmk : ∀ u : World, (Instr.makeSlice 27 (.int .i64 (l.length : Int)) (.int .i64 (l.length : Int))).run Tryd.prog u =
        .ok (.slice (some ⟨u.heap.size, 0, none⟩) l.length l.length) (u.alloc (.cells (madeCells #[.bool false, .int .i64 0, .slice none 0 0] (l.length * 3)) 29)) := fun u => by
      have h := run_make (P := Tryd.prog) u 27 29 i0 _ Tryd.underlying27 hi hz0 .i64 .i64 (l.length : Int) (l.length : Int) (by omega) (Int.le_refl _) (by rw [hz2]; omega) (by omega)
      rw [Int.toNat_natCast] at h
      simpa [hz1, Value.cells] using h
    obtain ⟨W0, hW0⟩ : ∃ W0, W0 = ((w.alloc (.cells #[.bool c1, .int .i64 n1, .slice a0 l.length cp0] 29)).alloc (.cells #[.bool false, .int .i64 0, .slice none 0 0] 29)).alloc (.cells (madeCells #[.bool false, .int .i64 0, .slice none 0 0] (l.length * 3)) 29) := ⟨_, rfl⟩
    have f0 : Fr No w W0 := by rw [hW0]; exact (((Fr.refl No w).alloc _).alloc _).alloc _
    have g0 : W0.heap[w.heap.size]? = some (.cells #[.bool c1, .int .i64 n1, .slice a0 l.length cp0] 29 (0, 0)) := by rw [hW0]; exact fr_heap (heap_alloc_new w _) (((Fr.refl No _).alloc _).alloc _) (fun e => e)
    have g1 : W0.heap[w.heap.size + 1]? = some (.cells #[.bool false, .int .i64 0, .slice none 0 0] 29 (0, 0)) := by
      have h := heap_alloc_new (w.alloc (.cells #[.bool c1, .int .i64 n1, .slice a0 l.length cp0] 29)) (.cells #[.bool false, .int .i64 0, .slice none 0 0] 29)
      rw [World.size_alloc] at h
      rw [hW0]; exact fr_heap h ((Fr.refl No _).alloc _) (fun e => e)
    have g2 : W0.heap[w.heap.size + 1 + 1]? = some (.cells (madeCells #[.bool false, .int .i64 0, .slice none 0 0] (l.length * 3)) 29 (0, 0)) := by
      have h := heap_alloc_new ((w.alloc (.cells #[.bool c1, .int .i64 n1, .slice a0 l.length cp0] 29)).alloc (.cells #[.bool false, .int .i64 0, .slice none 0 0] 29)) (.cells (madeCells #[.bool false, .int .i64 0, .slice none 0 0] (l.length * 3)) 29)
      rw [World.size_alloc, World.size_alloc] at h
      rw [hW0]; exact h
    have F0 := hide f0
    have G0 := hide g0
    have G1 := hide g1
    have G2 := hide g2
    have HW0 := hide hW0
    clear f0 g0 g1 g2 hW0
    go_enter Tryd.func23, Tryd.ntmps23
    go_wp2_with fail
    clear hmk
    rw [← HW0.out]
    generalize (decide (0 < l.length)) = bq
    go_loopw [17] (fun q wr => ∃ i : Nat, i ≤ l.length ∧ q = .int .i64 i ∧ Fr No w wr ∧ wr.heap[w.heap.size]? = some (.cells #[.bool c1, .int .i64 n1, .slice a0 l.length cp0] 29 (0, 0)) ∧ wr.heap[w.heap.size + 1]? = some (.cells #[.bool false, .int .i64 0, .slice none 0 0] 29 (0, 0)) ∧
      ∃ cur xs, wr.heap[w.heap.size + 1 + 1]? = some (.cells cur 29 (0, 0)) ∧ cur.size = l.length * 3 ∧ xs.length = i * 3 ∧ (∀ j, j < i * 3 → cur[j]? = xs[j]?) ∧
      Each 3 (RV k (fun x => w.heap.size + 1 + 1 < x ∧ x < wr.heap.size) wr) xs (l.take i)) (fun q _ => l.length - (intOf q).toNat)
    case atStart => exact ⟨0, Nat.zero_le _, rfl, F0.out, G0.out, G1.out, _, [], G2.out, size_madeCells _ _, rfl, fun j hj => absurd hj (by omega), rfl⟩
    case round =>
      clear F0 G0 G1 G2 HW0
      obtain ⟨i, hi', rfl, hf, hb0, hb1, cur, xs, hg, hsz, hxl, hcur, hea⟩ := hrel
      have hbs : w.heap.size + 1 + 1 < wr.heap.size := lt_of_heap hg
      by_cases hlt : i < l.length
      · obtain ⟨g, o, cap, b1, m1, e1, hav, _, _, _, hgw, hm1, hrt, q0, q1, q2⟩ := kids_at (HR.out.kept (stays_fr hf (fun _ _ _ e => e) (fun _ h => h))) (HE.out.mono fun _ _ h => h.fr hf) i hlt
        injection hav with hav1 _ hav2
        subst hav1 hav2
        have htk : l.take (i + 1) = l.take i ++ [l[i]] := List.take_succ_eq_append_getElem hlt
        obtain ⟨x, hx⟩ : ∃ x, x = l[i] := ⟨_, rfl⟩
        rw [← hx] at hrt q0 q1 hm1 htk
        have CO : Hid (∀ W, Fr No wr W → Calls Tryd.prog 23 #[.agg #[.bool x.con, .int .i64 x.n, .slice b1 m1 e1]] W fun e w' => ∃ cs', e = .returned (.agg cs'.toArray) ∧ Fr No W w' ∧ RV k (New W w') w' cs' x) := fun W hW => HO.out W _ x (hrt.fr hW)
        have HTK := hide htk
        have HF := hide hf
        have HG := hide hg
        have HB0 := hide hb0
        have HB1 := hide hb1
        have HCUR := hide hcur
        have HEA := hide hea
        clear hrt hf hg hb0 hb1 hcur hea htk hx hm1
        have i1 : (i : Int) < (l.length : Int) := by omega
        have i00 : (0 : Int) ≤ (i : Int) := by omega
        have hsize : i * 3 + 3 ≤ cur.size := by omega
        go_wp2_with fail
        refine (CO.out _ ((Fr.refl No wr).alloc _)).mono ?_
        rintro e w1 ⟨cs', rfl, hf1, hrt1⟩
        obtain ⟨p0, s0, rfl⟩ := hrt1.form
        have F1 : Fr No wr w1 := ((Fr.refl No wr).alloc _).trans hf1
        have g1 := fr_heap HG.out F1 (fun e => e)
        obtain ⟨u0, hu0⟩ := some_at g1 (o := i * 3) (by omega)
        obtain ⟨u1, hu1⟩ := some_at g1 (o := i * 3 + 1) (by omega)
        obtain ⟨u2, hu2⟩ := some_at g1 (o := i * 3 + 2) (by omega)
        have z1 := frozen_of_heap g1
        have G1 := hide g1
        have HF1 := hide F1
        have hw1s : wr.heap.size < w1.heap.size := by have := hf1.size; simp at this; omega
        have HRT1 := hide hrt1
        clear g1 F1 hf1 hrt1 CO q0 q1 q2
        go_wp2_with fail
        go_roundw
        case rel =>
          obtain ⟨cur', k1, k2, k3, k4, k5⟩ := sets_heap (w.heap.size + 1 + 1) 29 (0, 0) [.bool x.con, .int .i64 x.n, .slice p0 x.kids.length s0] (i * 3) w1 cur G1.out (by simp; omega)
          have f01 : Fr (· = w.heap.size + 1 + 1) wr (setsAt w1 (w.heap.size + 1 + 1) (i * 3) [.bool x.con, .int .i64 x.n, .slice p0 x.kids.length s0]) := (HF1.out.mono (fun _ _ e => e.elim)).trans k5
          refine ⟨i + 1, by omega, by go_num, ?_, ?_, ?_, cur', xs ++ [.bool x.con, .int .i64 x.n, .slice p0 x.kids.length s0], k1, by omega, by simp [hxl]; omega, fun j hj => ?_, ?_⟩
          · exact HF.out.trans' f01 (fun j hj e => by have e : j = w.heap.size + 1 + 1 := e; omega)
          · exact fr_heap HB0.out f01 (fun e => by have e : w.heap.size = w.heap.size + 1 + 1 := e; omega)
          · exact fr_heap HB1.out f01 (fun e => by have e : w.heap.size + 1 = w.heap.size + 1 + 1 := e; omega)
          · by_cases hji : j < i * 3
            · rw [k3 j hji, HCUR.out j hji, List.getElem?_append_left (by omega)]
            · have := k4 (j - i * 3) (by simp; omega)
              rw [show i * 3 + (j - i * 3) = j by omega] at this
              rw [this, List.getElem?_append_right (by omega), hxl]
          · rw [HTK.out]
            refine Each.snoc (n := 3) rfl ?_ ?_
            rotate_left
            · exact HEA.out.mono fun _ _ h => h.kept (stays_fr f01 (fun g hg _ e => by have e : g = w.heap.size + 1 + 1 := e; omega) (fun g hg => ⟨hg.1, Nat.lt_of_lt_of_le hg.2 f01.size⟩))
            exact HRT1.out.kept (stays_fr k5 (fun g hg _ e => by have e : g = w.heap.size + 1 + 1 := e; have := hg.1; simp at this; omega) (fun g hg => ⟨by have := hg.1; simp at this; omega, Nat.lt_of_lt_of_le hg.2 k5.size⟩))
        case measure => simp [intOf]; omega
      · have hil : i = l.length := by omega
        subst hil
        rw [List.take_length] at hea
        have HF := hide hf
        have HG := hide hg
        have HCUR := hide hcur
        have HEA := hide hea
        have HB1 := hide hb1
        have c0 := cell_of_heap hb0
        have c1' := cell_of_heap hb1
        have z1 := frozen_of_heap hb1
        have hl1 := lt_of_heap hb1
        clear hf hg hcur hea hb0 hb1
        go_wp2_with fail
        obtain ⟨s1, s2⟩ := set3 HB1.out (.bool c1) (.int .i64 n1) (.slice (some ⟨w.heap.size + 1 + 1, 0, none⟩) l.length l.length)
        refine bodyPost_ret (ret1 rfl _ _ (w.heap.size + 1) (.bool c1) (.int .i64 n1) (.slice (some ⟨w.heap.size + 1 + 1, 0, none⟩) l.length l.length) (0, 0) rfl s1) rfl ⟨[.bool c1, .int .i64 n1, .slice (some ⟨w.heap.size + 1 + 1, 0, none⟩) l.length l.length], rfl, ?_, ?_⟩
        · exact HF.out.trans' s2 (fun j hj e => by have e : j = w.heap.size + 1 := e; omega)
        · have g2 := fr_heap HG.out s2 (fun e => by have e : w.heap.size + 1 + 1 = w.heap.size + 1 := e; omega)
          refine ⟨_, xs, rfl, hkl, ⟨_, _, rfl, Nat.le_refl _, by unfold maxLen; omega, fun _ => ⟨_, _, rfl, ⟨by omega, lt_of_heap g2⟩, lt_of_heap g2, fun j hj => ?_⟩⟩, ?_⟩
          · rw [cell_of_heap g2, Nat.zero_add]
            exact HCUR.out j (by omega)
          · exact HEA.out.mono fun _ _ h => h.kept (stays_fr s2 (fun g hg _ e => by have e : g = w.heap.size + 1 := e; omega) (fun g hg => ⟨by omega, Nat.lt_of_lt_of_le hg.2 s2.size⟩))

theorem own_all : ∀ k, OwnV k
  | 0 => fun _ _ _ h => h.elim
  | k + 1 => own_node k (own_all k)
end Go.Proofs.YtdgmengfdfkgaabDoor
