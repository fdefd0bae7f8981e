/- 'ScopeLet', walked. -/
import Derived.Test.YtmjpfiecgkoaeaaL2
import Derived.Test.YtmjpfiecgkoaeaaLp
namespace Go.Proofs.Ytmjpfiecgkoaeaa
open Go.RowKit Go.Maps Go.WideMaps

theorem free_letN (k : Nat) (s : ByteArray) (t : Pu.TT (k + 1)) : Pu.free (k + 2) (letN (k + 1) s (intN k) t) = but s (Pu.free (k + 1) t) := by
  rw [← free_but]
  unfold Pu.free
  exact (needsN_let (Pu.needs (k + 1)) (fun _ => 0) (letN (k + 1) s (intN k) t) [] rfl rfl).trans rfl

theorem wt_letN (k : Nat) (s : ByteArray) (t : Pu.TT (k + 1)) : Pu.wt (k + 2) (letN (k + 1) s (intN k) t) = 2 + Pu.wt (k + 1) t := by
  show Pu.wN (Pu.wt (k + 1)) (letN (k + 1) s (intN k) t) = _
  have : Pu.wt (k + 1) (intN k) = 1 := rfl
  simp [Pu.wN, letN, this]
  omega

theorem but_succ (s : ByteArray) (l : List ByteArray) (i : Nat) (h : i < l.length) : but s (l.take (i + 1)) = but s (l.take i) ++ (if l[i] = s then [] else [l[i]]) := by
  unfold but
  rw [List.take_succ_eq_append_getElem h, List.filter_append]
  by_cases e : l[i] = s <;> simp [e]
theorem but_len (s : ByteArray) (l : List ByteArray) : (but s l).length ≤ l.length := List.length_filter_le _ _

/-- A row of names that is owned, as a list of names. -/
theorem names_of_row {w : World} {b : Nat} {v : Value} {l : List ByteArray} (h : w.ownsRow b 9 1 v l.length (l.map .string)) (hs : Short l) : Names w.heap.size w v l := by
  refine ⟨?_, hs⟩
  rcases h.2 with ⟨rfl, h0⟩ | ⟨g, cap, cur, rfl, hb, hgg, hcap, hcap', hsz, htk⟩
  · exact ⟨_, _, by rw [h0], by omega, Nat.zero_le _, fun hn => absurd hn (by omega)⟩
  · refine ⟨_, _, rfl, hcap, hcap', fun hn => ⟨g, 0, rfl, lt_of_heap hgg, lt_of_heap hgg, fun i hi => ?_⟩⟩
    have := h.cells (g := g) rfl i _ (List.getElem?_eq_getElem hi)
    rw [Addr.add_lit] at this
    rw [this]
    exact (List.getElem?_eq_getElem hi).symm

set_option maxHeartbeats 4000000 in
theorem scopeLet_any (k B : Nat) (w : World) (cs : List Value) (t : Pu.TT (k + 1)) (s : ByteArray) (ht : RT (k + 1) B w cs t) (hB : B ≤ w.heap.size) (hw : Pu.wt (k + 1) t ≤ 2097152) (hs : s.size ≤ maxLen) :
    Calls Try.prog 4 #[.agg cs.toArray, .string s] w fun e w' => e = .returned (.bool true) ∧ Fr No w w' := by
  obtain ⟨kd, n, x, y, a0, n0, c0, a1, n1, c1, a2, n2, c2, rfl⟩ := ht.form
  have HT := hide ht
  clear ht
  have HSS := hide hs
  clear hs
  show Calls Try.prog 4 #[.agg #[.int .i64 kd, .int .i64 n, .string x, .string y, .slice a0 n0 c0, .slice a1 n1 c1, .slice a2 n2 c2], .string s] w _
  go_enter Try.func4, Try.ntmps4
  go_wp2_with fail
  refine (alive_any _).mono ?_
  rintro e w1 ⟨rfl, hf1⟩
  have t1 := fr_heap (heap_alloc_new w (.cells #[.int .i64 kd, .int .i64 n, .string x, .string y, .slice a0 n0 c0, .slice a1 n1 c1, .slice a2 n2 c2] 27)) hf1 (fun e => e)
  have F1 := hide (((Fr.refl No w).alloc _).trans hf1)
  have c1 := cell_of_heap t1
  have T1 := hide t1
  have HB1 := hide (Nat.le_trans hB F1.out.size)
  clear hf1 t1
  go_wp2_with fail
  clear c1
  have HR1 := hide (HT.out.fr hB F1.out)
  have hfl : (Pu.free (k + 1) t).length ≤ 2097152 := by
    have := needs_length (k + 1) (fun _ => 0) t []
    unfold Pu.free
    simp at this
    omega
  refine (free_any (k + 1) B w1 _ t HR1.out HB1.out (by omega)).mono ?_
  rintro e w2 ⟨v2, rfl, hf2, hrow2, hsh2⟩
  have hn2 := names_of_row hrow2 hsh2
  obtain ⟨av, cv, hv2⟩ := row_form hrow2
  subst hv2
  obtain ⟨l, hl⟩ : ∃ l, l = Pu.free (k + 1) t := ⟨_, rfl⟩
  rw [← hl] at hn2 hfl
  have F2 := hide (F1.out.trans hf2)
  have T2 := hide (fr_heap T1.out hf2 (fun e => e))
  have HN2 := hide hn2
  have HL := hide hl
  have HSH := hide hsh2
  rw [← hl]
  have HF2' := hide hf2
  clear hf2 hrow2 hsh2 hn2 hl T1
  obtain ⟨i0, hi, hz0, hz1, hz2⟩ := info_parts Try.info9
  go_wp2_with fail
  go_loopw [5, 13] (fun v q wr => ∃ i : Nat, i ≤ l.length ∧ q = .int .i64 i ∧ Fr No w2 wr ∧ wr.ownsRow w2.heap.size 9 1 v (but s (l.take i)).length ((but s (l.take i)).map .string)) (fun _ q _ => l.length - (intOf q).toNat)
  case atStart => exact ⟨0, Nat.zero_le _, rfl, Fr.refl _ _, World.ownsRow_nil _ _ _ _⟩
  case round =>
    obtain ⟨i, hi', rfl, hf, hown⟩ := hrel
    obtain ⟨aw, cw, hvw⟩ := row_form hown
    subst hvw
    by_cases hlt : i < l.length
    · obtain ⟨g, o, cp, hv, hcp, _, hg, hcell, _⟩ := (HN2.out.fr hf).at hlt
      injection hv with hv1 _ hv2
      subst hv1 hv2
      unfold maxLen at hcp
      have hst := but_succ s l i hlt
      have hbl := but_len s (l.take i)
      rw [List.length_take] at hbl
      obtain ⟨z, hz⟩ : ∃ z, z = l[i] := ⟨_, rfl⟩
      rw [← hz] at hcell hst
      have HST := hide hst
      have HF := hide hf
      have hsz2 := hf.size
      have i1 : (i : Int) < (l.length : Int) := by omega
      have i00 : (0 : Int) ≤ (i : Int) := by omega
      clear hst hf hz
      by_cases e : z = s
      · subst e
        go_wp2_with fail
        go_roundw
        case rel => exact ⟨i + 1, by omega, by go_num, HF.out, by rw [HST.out]; simpa using hown⟩
        case measure => simp [intOf]; omega
      · have e' := str_ne e
        go_wp2_with (first
          | (at_builtin; refine wpList_append_own_at _ rfl _ _ 23 rfl w2.heap.size 9 i0 (.string ⟨#[]⟩) 1 16 Try.underlying23 hi hz0 hz1 hz2 rfl (by decide) _ _ _ rfl (hown.alloc _) ⟨wr.heap.size, 0, none⟩ 1 1 [.string z] rfl rfl (cell_one_new _ _ _) (by simp [Value.oneCell']) (by unfold maxLen; omega) (by omega) (by simp; omega) ?_; intro v' w3 hown' hgrow3 hnil hloc)
          | fail)
        go_roundw
        case rel =>
          refine ⟨i + 1, by omega, by go_num, (HF.out.alloc _).grown hgrow3 (fun k hk => .inr (hown.lt k hk).1), ?_⟩
          rw [HST.out, if_neg e]
          simpa using hown'
        case measure => simp [intOf]; omega
    · have hil : i = l.length := by omega
      subst hil
      rw [List.take_length] at hown
      have t3 := fr_heap T2.out hf (fun e => e)
      have c3 := cell_of_heap t3
      have HOWN := hide hown
      have F3 := hide (F2.out.trans hf)
      have HF3 := hide hf
      clear hown hf t3 hi hz0 hz1 hz2
      go_wp2_with fail
      refine (let_fn _ _ _ _ _ _ _ _ _ _ _ _ _ _ _ _ _ _ _ _ _ _ _ _ _ _ _ _).mono ?_
      rintro e w4 ⟨g, rfl, hf4, hg4, hh4⟩
      clear c3
      have F4 := hide (F3.out.trans hf4)
      have R4 : RT (k + 2) w4.heap.size w4 [.int .i64 6, .int .i64 0, .string s, .string ⟨#[]⟩, .slice none 0 0, .slice (some ⟨g, 0, none⟩) 2 2, .slice none 0 0] (letN (k + 1) s (intN k) t) :=
        rt_let (k + 1) w4.heap.size g w4 s HSS.out _ _ _ _ _ hh4 (lt_of_heap hh4) rfl (rt_int k _ _) (HT.out.kept (F4.out.old hB (fun _ _ e => e)) (Nat.le_trans hB F4.out.size) F4.out.size)
      have HR4 := hide R4
      have HF4 := hide hf4
      clear hf4 hg4 hh4 R4
      go_wp2_with fail
      refine (free_any (k + 2) w4.heap.size w4 _ _ HR4.out (Nat.le_refl _) (by rw [wt_letN]; omega)).mono ?_
      rintro e w5 ⟨v5, rfl, hf5, hrow5, hsh5⟩
      have hn5 := names_of_row hrow5 hsh5
      rw [free_letN, ← HL.out] at hn5
      obtain ⟨a5, c5, hv5⟩ := row_form hrow5
      subst hv5
      have hnw : Names w5.heap.size w5 _ (but s l) := (names_of_row HOWN.out (fun x hx => HSH.out x (by rw [← HL.out]; exact (List.mem_filter.1 hx).1))).kept ((HF4.out.trans hf5).old (Nat.le_refl _) (fun _ _ e => e)) (HF4.out.trans hf5).size (HF4.out.trans hf5).size
      have sn := sameNames_any _ _ _ _ _ _ w5 hn5 hnw
      have ed : decide (but s l = but s l) = true := decide_eq_true rfl
      rw [ed] at sn
      have SN := hide sn
      have F5 := hide (F4.out.trans hf5)
      clear hf5 hrow5 hsh5 hn5 hnw sn ed
      go_wp2_with fail
      refine SN.out.mono ?_
      rintro e w6 ⟨rfl, hf6⟩
      have F6 := hide (F5.out.trans hf6)
      clear hf6 SN
      go_wp2_with fail
      go_ret
      exact ⟨rfl, F6.out⟩
end Go.Proofs.Ytmjpfiecgkoaeaa
