/- The check: is a tag taken? -/
import Derived.Test.YtmjpfiecgkoaeaaC3
namespace Go.Proofs.Ytmjpfiecgkoaeaa
open Go.RowKit Go.Maps Go.WideMaps

theorem tagIs_any (b : Nat) (n m : Int) (r c1 c2 c3 c4 c5 c6 c7 c8 : Value) (d1 d2 d3 d4 d5 d6 d7 d8 : Value) (w : World) (hr : r = .agg #[.int .i64 m, d1, d2, d3, d4, d5, d6, d7, d8]) (hb : w.heap[b]? = some (.cells #[.int .i64 n, c1, c2, c3, c4, c5, c6, c7, c8] 48 (0, 0))) :
    Calls Try.prog 62 #[r, .pointer (some ⟨b, 0, none⟩)] w fun e w' => e = .returned (.bool (decide (m = n))) ∧ Fr No w w' := by
  subst hr
  have b0 : w.cell? ⟨b, 0, none⟩ = some (.int .i64 n) := by rw [cell_of_heap hb]; rfl
  have hbs : b < w.heap.size := lt_of_heap hb
  clear hb
  go_enter Try.func62, Try.ntmps62
  go_wp2_with fail
  go_ret
  refine ⟨?_, (Fr.refl No w).alloc _⟩
  congr 2

theorem taken_snoc {α : Type} (l : List (Int × List ByteArray × α)) (i : Nat) (h : i < l.length) (n : Int) : Pu.taken (l.take (i + 1)) n = (Pu.taken (l.take i) n || decide (l[i].1 = n)) := by
  unfold Pu.taken
  rw [List.take_succ_eq_append_getElem h, List.any_append]
  simp

set_option maxHeartbeats 2000000 in
theorem index_any (k B : Nat) (w : World) (a : Option Addr) (cp m : Nat) (acs : List Value) (l : List (Int × List ByteArray × Pu.TT k)) (hr : Row B w (.slice a l.length cp) l.length acs) (he : Each 9 (RC (RT k B w) B w) acs l) (hm : m ≤ l.length)
    (b : Nat) (n : Int) (c1 c2 c3 c4 c5 c6 c7 c8 : Value) (hb : w.heap[b]? = some (.cells #[.int .i64 n, c1, c2, c3, c4, c5, c6, c7, c8] 48 (0, 0))) :
    Calls Try.prog 63 #[.slice a m cp, .func (.func 62) #[] #[.pointer (some ⟨b, 0, none⟩)]] w fun e w' => (∃ r : Int, e = .returned (.int .i64 r) ∧ decide (r ≥ 0) = Pu.taken (l.take m) n) ∧ Fr No w w' := by
  obtain ⟨a', cp', hv0, hcp1, hcp2⟩ := hr.form
  injection hv0 with hv1 _ hv3
  subst hv1 hv3
  unfold maxLen at hcp2
  have HR := hide hr
  have HE := hide he
  have HB := hide hb
  have hbs : b < w.heap.size := lt_of_heap hb
  clear hr he hb
  go_enter Try.func63, Try.ntmps63
  go_wp2_with fail
  go_loopw [8] (fun q wr => ∃ i : Nat, i ≤ m ∧ q = .int .i64 i ∧ Fr No w wr ∧ Pu.taken (l.take i) n = false) (fun q _ => m - (intOf q).toNat)
  case atStart => exact ⟨0, Nat.zero_le _, rfl, Fr.refl _ _, rfl⟩
  case round =>
    obtain ⟨i, hi, rfl, hf, ht⟩ := hrel
    by_cases hlt : i < m
    · have hlt' : i < l.length := by omega
      obtain ⟨g, o, cap, ag, an, ac, kd', n', x', y', b0, n0, e0, b1, n1, e1, b2, n2, e2, hav, hcap, hg, hgw, hnm, han, hrt, hcell⟩ := cases_at HR.out HE.out i hlt'
      injection hav with hav1 _ hav2
      subst hav1 hav2
      have hcw : ∀ j, j < 9 → wr.cell? ⟨g, o + i * 9 + j, none⟩ = [Value.int .i64 l[i].1, .slice ag an ac, .int .i64 kd', .int .i64 n', .string x', .string y', .slice b0 n0 e0, .slice b1 n1 e1, .slice b2 n2 e2][j]? := fun j hj => by
        rw [show wr.cell? ⟨g, o + i * 9 + j, none⟩ = w.cell? ⟨g, o + i * 9 + j, none⟩ from by simp only [World.cell?, hf.block g hgw (fun e => e)]]; exact hcell j hj
      have q0 : wr.cell? ⟨g, o + i * 9, none⟩ = some (.int .i64 l[i].1) := hcw 0 (by omega)
      have q1 := hcw 1 (by omega)
      have q2 := hcw 2 (by omega)
      have q3 := hcw 3 (by omega)
      have q4 := hcw 4 (by omega)
      have q5 := hcw 5 (by omega)
      have q6 := hcw 6 (by omega)
      have q7 := hcw 7 (by omega)
      have q8 := hcw 8 (by omega)
      have hts := taken_snoc l i hlt' n
      obtain ⟨tg, htg⟩ : ∃ tg, tg = l[i].1 := ⟨_, rfl⟩
      rw [← htg] at q0 hts
      have CALL := hide (tagIs_any b n tg _ c1 c2 c3 c4 c5 c6 c7 c8 (.slice ag an ac) (.int .i64 kd') (.int .i64 n') (.string x') (.string y') (.slice b0 n0 e0) (.slice b1 n1 e1) (.slice b2 n2 e2) wr rfl (fr_heap HB.out hf (fun e => e)))
      have HTS := hide hts
      have HF := hide hf
      have HT := hide ht
      clear hcw hcell hrt hnm hf ht hts htg han
      have i1 : (i : Int) < (m : Int) := by omega
      have i0 : (0 : Int) ≤ (i : Int) := by omega
      go_wp2_with fail
      refine CALL.out.mono ?_
      by_cases e : tg = n
      · rw [decide_eq_true e]
        rintro e' w1 ⟨rfl, hf1⟩
        have HF1 := hide hf1
        clear hf1
        go_wp2_with fail
        go_ret
        refine ⟨⟨_, rfl, ?_⟩, HF.out.trans HF1.out⟩
        have h1 : Pu.taken (l.take (i + 1)) n = true := by rw [HTS.out, decide_eq_true e]; simp
        have h2 : Pu.taken (l.take m) n = true := by
          unfold Pu.taken at h1 ⊢
          rw [List.any_eq_true] at h1 ⊢
          obtain ⟨z, hz, hz2⟩ := h1
          exact ⟨z, (List.take_sublist_take_left (by omega)).subset hz, hz2⟩
        rw [h2]
        simp
      · rw [decide_eq_false e]
        rintro e' w1 ⟨rfl, hf1⟩
        have HF1 := hide hf1
        clear hf1
        go_wp2_with fail
        go_roundw
        case rel => exact ⟨i + 1, by omega, by go_num, HF.out.trans HF1.out, by rw [HTS.out, HT.out, decide_eq_false e]; rfl⟩
        case measure => simp [intOf]; omega
    · have him : i = m := by omega
      subst him
      have HF := hide hf
      have HT := hide ht
      clear hf ht
      go_wp2_with fail
      go_ret
      exact ⟨⟨_, rfl, by rw [HT.out]; rfl⟩, HF.out⟩

theorem taken_any (k B : Nat) (w : World) (a : Option Addr) (cp m : Nat) (acs : List Value) (l : List (Int × List ByteArray × Pu.TT k)) (hr : Row B w (.slice a l.length cp) l.length acs) (he : Each 9 (RC (RT k B w) B w) acs l) (hm : m ≤ l.length)
    (b : Nat) (n : Int) (c1 c2 c3 c4 c5 c6 c7 c8 : Value) (hb : w.heap[b]? = some (.cells #[.int .i64 n, c1, c2, c3, c4, c5, c6, c7, c8] 48 (0, 0))) :
    Calls Try.prog 61 #[.slice a m cp, .func (.func 62) #[] #[.pointer (some ⟨b, 0, none⟩)]] w fun e w' => e = .returned (.bool (Pu.taken (l.take m) n)) ∧ Fr No w w' := by
  have HC := hide (index_any k B w a cp m acs l hr he hm b n c1 c2 c3 c4 c5 c6 c7 c8 hb)
  clear hr he hb
  go_enter Try.func61, Try.ntmps61
  go_wp2_with fail
  refine HC.out.mono ?_
  rintro e w1 ⟨⟨r, rfl, hr⟩, hf⟩
  have HR := hide hr
  have HF := hide hf
  clear hr hf HC
  go_wp2_with fail
  go_ret
  refine ⟨?_, HF.out⟩
  rw [← HR.out]
  rfl
end Go.Proofs.Ytmjpfiecgkoaeaa
