/- 'OwnFirst', walked. -/
import Derived.Test.YtdcdegeeaakekacDoorAx1Ax2
import Derived.Test.YtdcdegeeaakekacDoorS1RsKh
namespace Go.Proofs.YtdcdegeeaakekacDoor
open Go.RowKit Go.Maps Go.WideMaps

theorem num_free (n : Int) : Pu.free 1 (lnum 0 n) = [] := rfl
theorem num_gone (n : Int) (l : List ByteArray) : gone 1 (lnum 0 n) l = l := by
  unfold gone
  rw [num_free, List.filter_eq_self]
  intro a _
  rfl
theorem num_wt (n : Int) : Pu.wt 1 (lnum 0 n) ≤ 1073741824 := by
  show 1 + 0 + 0 + 0 ≤ 1073741824
  decide
theorem num_step (n : Int) : StepC 1 (lnum 0 n) ⟨1, lnum 0 n⟩ :=
  step_leaf 1 (lnum 0 n) (by show (2 : Int) ≠ 3; decide) (by show (2 : Int) ≠ 4; decide) (by show (2 : Int) ≠ 5; decide) (by show (2 : Int) ≠ 6; decide) (by show (2 : Int) ≠ 7; decide)
theorem num_rt (B : Nat) (w : World) (n : Int) (h : (Lit.int .i64 n).wf = true) : RT 1 B w [.int .i64 2, .int .i64 n, .string ⟨#[]⟩, .string ⟨#[]⟩, .slice none 0 0, .slice none 0 0, .slice none 0 0] (lnum 0 n) :=
  ⟨.slice none 0 0, .slice none 0 0, .slice none 0 0, [], [], rfl, Nat.zero_le _, h, ⟨Row.nil _ _, fun x hx => absurd (show x ∈ ([] : List ByteArray) from hx) (by simp)⟩, Row.nil _ _, rfl, Row.nil _ _, rfl⟩
theorem num_inv {S : Nat → Prop} {w : World} {n : Int} {kd m : Int} {x y : ByteArray} {c4 c5 c6 : Value} (h : RS S w [.int .i64 kd, .int .i64 m, .string x, .string y, c4, c5, c6] ⟨1, lnum 0 n⟩) : kd = 2 ∧ m = n := by
  obtain ⟨_, _, _, _, _, h1, _⟩ := h
  injection h1 with e1 h1
  injection h1 with e2 h1
  injection e1 with _ e1
  injection e2 with _ e2
  exact ⟨e1, e2⟩

set_option maxRecDepth 100000 in
set_option maxHeartbeats 4000000 in
theorem ownFirst_any (B : Nat) (n : Int) (v : Value) (l : List ByteArray) (w : World) (hl : Names B w v l) (hB : B ≤ w.heap.size) (henv : Env w) (h3 : 3 ≤ w.heap.size) :
    Calls Tryd.prog 5 #[.int .i64 n, v] w fun e w' => e = .returned (.bool true) ∧ Fr No w w' := by
  obtain ⟨a0, c0, rfl, hc1, hc2⟩ := hl.1.form
  unfold maxLen at hc2
  have CA := hide (alive6_any w henv h3)
  have HL := hide hl
  have HB := hide hB
  clear hl hB henv
  go_enter Tryd.func5, Tryd.ntmps5
  go_wp2_with fail
  refine CA.out.mono ?_
  rintro e w1 ⟨rfl, hf1⟩
  have F1 := hide hf1
  clear hf1 CA
  by_cases b1 : n < -1000
  · go_wp2_with fail
    go_ret
    exact ⟨rfl, F1.out⟩
  by_cases b2 : 1000 < n
  · go_wp2_with fail
    go_ret
    exact ⟨rfl, F1.out⟩
  by_cases b3 : 6 < l.length
  · have b3' : (6 : Int) < (l.length : Int) := by omega
    go_wp2_with fail
    go_ret
    exact ⟨rfl, F1.out⟩
  have b3' : ¬ (6 : Int) < (l.length : Int) := by omega
  have hwf : (Lit.int .i64 n).wf = true := WalkArith.wf_i64 (by omega)
  go_wp2_with fail
  go_loopw [25] (fun q wr => ∃ i : Nat, i ≤ l.length ∧ q = .int .i64 i ∧ Fr No w wr) (fun q _ => l.length - (intOf q).toNat)
  case atStart => exact ⟨0, Nat.zero_le _, rfl, F1.out⟩
  case round =>
    obtain ⟨i, hi, rfl, hf⟩ := hrel
    have hlw : Names B wr (.slice a0 l.length c0) l := HL.out.kept (hf.old HB.out (fun _ _ e => e)) (Nat.le_refl _) hf.size
    have HF := hide hf
    by_cases hlt : i < l.length
    · obtain ⟨g, o, cp, hv, _, hg, hgw, hcell, hsz⟩ := hlw.at hlt
      injection hv with hv1 hle hv2
      clear hle
      subst hv1 hv2
      obtain ⟨x, hx⟩ : ∃ x, x = l[i] := ⟨_, rfl⟩
      rw [← hx] at hcell hsz
      have CN := hide (name_any x wr hsz)
      have CH : Hid (∀ W, Fr No w W → Calls Tryd.prog 10 #[.slice (some ⟨g, o, none⟩) i c0, .string x] W fun e w' => e = .returned (.bool (Pu.has (l.take i) x)) ∧ w' = W) := fun W hW => by
        have h := has_any B _ (l.take i) x W ((HL.out.kept (hW.old HB.out (fun _ _ e => e)) (Nat.le_refl _) hW.size).takeN i (by omega))
        exact h
      clear hx hlw hf hsz
      have i1 : (i : Int) < (l.length : Int) := by omega
      have i0 : (0 : Int) ≤ (i : Int) := by omega
      have i2 : (i : Int) ≤ (c0 : Int) := by omega
      go_wp2_with fail
      refine CN.out.mono ?_
      rintro e w4 ⟨rfl, q, rfl⟩
      have F4 := hide (HF.out.drewN q)
      obtain ⟨nb, hnb⟩ : ∃ nb, nb = isName x := ⟨_, rfl⟩
      rw [← hnb]
      clear CN hnb hcell
      cases nb with
      | false =>
        go_wp2_with fail
        go_ret
        exact ⟨rfl, F4.out⟩
      | true =>
        go_wp2_with fail
        refine (CH.out _ F4.out).mono ?_
        rintro e w5 ⟨rfl, hw5⟩
        rw [hw5]
        obtain ⟨hb, hhb⟩ : ∃ hb, hb = Pu.has (l.take i) x := ⟨_, rfl⟩
        rw [← hhb]
        clear hw5 hhb CH
        cases hb with
        | true =>
          go_wp2_with fail
          go_ret
          exact ⟨rfl, F4.out⟩
        | false =>
          go_wp2_with fail
          go_roundw
          case rel => exact ⟨i + 1, by omega, by go_num, F4.out⟩
          case measure => simp [intOf]; omega
    · have hil : i = l.length := by omega
      subst hil
      have CT : Hid (Calls Tryd.prog 22 #[.agg #[.int .i64 2, .int .i64 n, .string ⟨#[]⟩, .string ⟨#[]⟩, .slice none 0 0, .slice none 0 0, .slice none 0 0], .slice a0 l.length c0] wr fun e w' => ∃ kd' n' x' y' a0' n0' c0' a1' n1' c1' a2' n2' c2', e = .returned (.agg #[.int .i64 kd', .int .i64 n', .string x', .string y', .slice a0' n0' c0', .slice a1' n1' c1', .slice a2' n2' c2']) ∧ Fr No wr w' ∧ RS (New wr w') w' [.int .i64 kd', .int .i64 n', .string x', .string y', .slice a0' n0' c0', .slice a1' n1' c1', .slice a2' n2' c2'] (cnt 9 l ⟨1, lnum 0 n⟩)) :=
        (ownTerm_any 1 (lnum 0 n) _ (num_step n) 0 wr _ _ l (num_rt 0 wr n hwf) (Nat.zero_le _) (hlw.kept (fun _ _ => rfl) (by have := hf.size; have := HB.out; omega) (Nat.le_refl _)) (num_wt n) (by omega)).mono fun e w' ⟨cs', he, hf', hr⟩ => by
          rw [num_gone] at hr
          obtain ⟨_, _, _, _, _, _, _, _, _, _, _, _, _, rfl⟩ := hr.form
          exact ⟨_, _, _, _, _, _, _, _, _, _, _, _, _, he, hf', hr⟩
      clear hlw hf
      go_wp2_with fail
      refine CT.out.mono ?_
      rintro e w5 ⟨kd', n', x', y', a0', n0', c0', a1', n1', c1', a2', n2', c2', rfl, hf5, hr5⟩
      have F5 := hide (HF.out.trans hf5)
      have HR5 := hide hr5
      clear hf5 hr5 CT
      go_wp2_with fail
      obtain ⟨W6, hW6⟩ : ∃ W6, W6 = w5.alloc (.cells #[.int .i64 kd', .int .i64 n', .string x', .string y', .slice a0' n0' c0', .slice a1' n1' c1', .slice a2' n2' c2'] 31) := ⟨_, rfl⟩
      rw [← hW6]
      have f56 : Fr No w5 W6 := by rw [hW6]; exact (Fr.refl No w5).alloc _
      have t6 : W6.heap[w5.heap.size]? = some (.cells #[.int .i64 kd', .int .i64 n', .string x', .string y', .slice a0' n0' c0', .slice a1' n1' c1', .slice a2' n2' c2'] 31 (0, 0)) := by rw [hW6]; exact heap_alloc_new w5 _
      have r6 : RS (fun g => g < w5.heap.size) W6 [.int .i64 kd', .int .i64 n', .string x', .string y', .slice a0' n0' c0', .slice a1' n1' c1', .slice a2' n2' c2'] (cnt 9 l ⟨1, lnum 0 n⟩) := HR5.out.kept (stays_fr f56 (fun _ _ _ e => e) (fun g h => h.2))
      have hwW : Fr No w W6 := F5.out.trans f56
      have hw5 : w.heap.size ≤ w5.heap.size := F5.out.size
      have FW := hide hwW
      have T6 := hide t6
      have R6 := hide r6
      clear hW6 t6 r6 hwW f56
      go_loopw [47] (fun q wr => ∃ i kd n' x y b0 m0 e0 b1 m1 e1 b2 m2 e2, i ≤ l.length ∧ q = .int .i64 (i : Nat) ∧ Fr (· = w5.heap.size) W6 wr ∧ wr.heap[w5.heap.size]? = some (.cells #[.int .i64 kd, .int .i64 n', .string x, .string y, .slice b0 m0 e0, .slice b1 m1 e1, .slice b2 m2 e2] 31 (0, 0)) ∧ RS (fun g => g < w5.heap.size) wr [.int .i64 kd, .int .i64 n', .string x, .string y, .slice b0 m0 e0, .slice b1 m1 e1, .slice b2 m2 e2] (cnt 9 (l.drop i) ⟨1, lnum 0 n⟩)) (fun q _ => l.length - (intOf q).toNat)
      case atStart => exact ⟨0, _, _, _, _, _, _, _, _, _, _, _, _, _, Nat.zero_le _, rfl, Fr.refl _ _, T6.out, R6.out⟩
      case round =>
        obtain ⟨i, kd, n2, x, y, d0, m0, e0, d1, m1, e1, d2, m2, e2, hi, rfl, hf, ht, hr⟩ := hrel
        have k0 := cell_of_heap ht
        have z0 := frozen_of_heap ht
        have l0 := lt_of_heap ht
        by_cases hlt : i < l.length
        · have hlw : Names B wr (.slice a0 l.length c0) l := HL.out.kept ((FW.out.old HB.out (fun _ _ e => e)).trans (hf.old (by have := FW.out.size; have := HB.out; omega) (fun j hj e => by have e : j = w5.heap.size := e; have := HB.out; omega))) (Nat.le_refl _) (Nat.le_trans FW.out.size hf.size)
          obtain ⟨g, o, cp, hv, _, hg, hgw, hcell, hsz⟩ := hlw.at hlt
          injection hv with hv1 hle hv2
          clear hle
          subst hv1 hv2
          rw [List.drop_eq_getElem_cons hlt] at hr
          obtain ⟨z, hz⟩ : ∃ z, z = l[i] := ⟨_, rfl⟩
          rw [← hz] at hcell hr
          obtain ⟨p0, pc0, g1, o1, pc1, p2, pc2, kd2, n2', x2, y2, f0, r0, s0, f1, r1, s1, f2, r2, s2, he, hSg, hg1, hc1', hr2, hcell1⟩ := RS.wrap_inv (t := cnt 9 (l.drop (i + 1)) ⟨1, lnum 0 n⟩) (kd := 9) (x := z) hr
          simp only [List.cons.injEq, Value.int.injEq, Value.string.injEq, Value.slice.injEq, and_true, true_and] at he
          obtain ⟨rfl, rfl, rfl, rfl, ⟨rfl, rfl, rfl⟩, ⟨rfl, rfl, rfl⟩, ⟨rfl, rfl, rfl⟩⟩ := he
          have hg1n : g1 ≠ w5.heap.size := by have hSg' : g1 < w5.heap.size := hSg; omega
          have q0 : wr.cell? ⟨g1, o1, none⟩ = some (.int .i64 kd2) := hcell1 0 (by omega)
          have q1 := hcell1 1 (by omega)
          have q2 := hcell1 2 (by omega)
          have q3 := hcell1 3 (by omega)
          have q4 := hcell1 4 (by omega)
          have q5 := hcell1 5 (by omega)
          have q6 := hcell1 6 (by omega)
          unfold maxLen at hc1'
          have HT := hide ht
          have HR2 := hide hr2
          have HFF := hide hf
          have HI := hide hi
          clear ht hr2 hr hf hcell1 hz hlw hi hsz
          have i1 : (i : Int) < (l.length : Int) := by omega
          have i0 : (0 : Int) ≤ (i : Int) := by omega
          go_wp2_with fail
          go_roundw
          case rel =>
            obtain ⟨t1, t2⟩ := set7 HT.out (.int .i64 kd2) (.int .i64 n2') (.string x2) (.string y2) (.slice f0 r0 s0) (.slice f1 r1 s1) (.slice f2 r2 s2)
            exact ⟨i + 1, kd2, n2', x2, y2, f0, r0, s0, f1, r1, s1, f2, r2, s2, by omega, by go_num, HFF.out.trans t2, t1, HR2.out.kept (stays_fr t2 (fun g hg _ e => by have e : g = w5.heap.size := e; have hg' : g < w5.heap.size := hg; omega) (fun _ h => h))⟩
          case measure => simp [intOf]; omega
        · have hil : i = l.length := by omega
          subst hil
          rw [List.drop_length] at hr
          obtain ⟨rfl, rfl⟩ := num_inv hr
          have HFF := hide hf
          clear ht hr hf
          go_wp2_with fail
          go_ret
          exact ⟨rfl, FW.out.trans' HFF.out (fun j hj e => by have e : j = w5.heap.size := e; omega)⟩
end Go.Proofs.YtdcdegeeaakekacDoor
