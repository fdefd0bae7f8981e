/- 'walk', 'Size', 'larger'. -/
import Derived.Test.YtmjpfiecgkoaeaaW4
namespace Go.Proofs.Ytmjpfiecgkoaeaa
open Go.RowKit Go.Maps Go.WideMaps

/-- What a closure does that counts the terms: block N is its count. -/
def Met (f : FuncId) (cap : Array Value) (N lim : Nat) (st : Prop) (S : World → Prop) : Prop :=
  ∀ (w : World) (n : Nat), n ≤ lim → (n + 1 ≤ lim ∨ st) → w.heap[N]? = some (.cells #[.int .i64 n] 3 (0, 0)) → S w →
    Calls Try.prog f cap w fun e w' => e = .returned (.bool (decide (n + 1 ≤ lim))) ∧ w'.heap[N]? = some (.cells #[.int .i64 ((n + 1 : Nat) : Int)] 3 (0, 0)) ∧ Fr (· = N) w w' ∧ S w'

/-- The count behind a walk, if it was n. -/
def upto (lim n : Nat) : Nat := if n ≤ lim then n else lim + 1

def WalkC (k : Nat) : Prop := ∀ (f : FuncId) (cap : Array Value) (N lim B : Nat) (st : Prop) (S : World → Prop) (w : World) (n : Nat) (cs : List Value) (t : Pu.TT k), (n + Pu.size k t ≤ lim ∨ st) → (∀ args w, (callFunc f args).run Try.prog w = .ok (.enter f args) w) → Met f cap N lim st S → (∀ w w', S w → Fr No w w' → S w') → lim ≤ 1099511627776 → B ≤ N →
  RT k B w cs t → B ≤ w.heap.size → n ≤ lim → w.heap[N]? = some (.cells #[.int .i64 n] 3 (0, 0)) → S w →
  Calls Try.prog 33 #[.agg cs.toArray, .func (.func f) #[] cap] w fun e w' => e = .returned (.bool (decide (n + Pu.size k t ≤ lim))) ∧ w'.heap[N]? = some (.cells #[.int .i64 (upto lim (n + Pu.size k t) : Nat)] 3 (0, 0)) ∧ Fr (· = N) w w' ∧ S w'

theorem size_pos : ∀ (k : Nat) (t : Pu.TT k), 1 ≤ Pu.size k t
  | 0, t => nomatch t
  | k + 1, t => by show 1 ≤ Pu.sizeN _ _; unfold Pu.sizeN; omega

theorem upto_in {lim n : Nat} (h : n ≤ lim) : upto lim n = n := if_pos h
theorem upto_out {lim n : Nat} (h : ¬ n ≤ lim) : upto lim n = lim + 1 := if_neg h
theorem dec_in {lim n : Nat} (h : n ≤ lim) : decide (n ≤ lim) = true := decide_eq_true h
theorem dec_out {lim n : Nat} (h : ¬ n ≤ lim) : decide (n ≤ lim) = false := decide_eq_false h

set_option maxHeartbeats 2000000 in
theorem walk_node (k : Nat) (hN : WalkC k) : WalkC (k + 1) := by
  intro f cap N lim B st S w n cs t hst eg hmet hS hlim hBN ht hB hn hb hs
  obtain ⟨vv, av, cv, acs, ccs, rfl, hx, _, hvars, hr, he, hq, hf⟩ := ht
  obtain ⟨a0, d0, rfl, _⟩ := hvars.1.form
  obtain ⟨a1, d1, rfl, hd1, hd1'⟩ := hr.form
  obtain ⟨a2, d2, rfl, hd2, hd2'⟩ := hq.form
  have hsz : Pu.size (k + 1) t = 1 + (t.args.map (Pu.size k)).sum + (t.cases.map fun c => Pu.size k c.2.2).sum := rfl
  have hNs : N < w.heap.size := lt_of_heap hb
  obtain ⟨csv, hcsv⟩ : ∃ csv : Array Value, csv = #[.int .i64 t.kind, .int .i64 t.n, .string t.name, .string t.token, .slice a0 t.vars.length d0, .slice a1 t.args.length d1, .slice a2 t.cases.length d2] := ⟨_, rfl⟩
  have hM := hmet (w.alloc (.cells csv 27)) n hn (hst.imp (fun h => by rw [hsz] at h; omega) id) (by rw [Below.heap_alloc _ _ _ hNs]; exact hb) (hS _ _ hs ((Fr.refl No w).alloc _))
  have hbx : (w.alloc (.cells csv 27)).heap[w.heap.size]? = some (.cells csv 27 (0, 0)) := heap_alloc_new _ _
  rw [hcsv] at hM hbx
  have HM := hide hM
  have HCSV := hide hcsv
  have HBX := hide hbx
  have HSZ := hide hsz
  have HR := hide hr
  have HE := hide he
  have HQ := hide hq
  have HF := hide hf
  have HN := hide hN
  have HS := hide hS
  have HMET := hide hmet
  have EG := hide eg
  have HGA := hide hs
  unfold maxLen at hd1' hd2'
  clear hM hbx hsz hr he hq hf hN hS hmet hs hb hvars hx hcsv
  show Calls Try.prog 33 #[.agg #[.int .i64 t.kind, .int .i64 t.n, .string t.name, .string t.token, .slice a0 t.vars.length d0, .slice a1 t.args.length d1, .slice a2 t.cases.length d2], .func (.func f) #[] cap] w _
  go_enter Try.func33, Try.ntmps33
  go_wp2_with fail
  refine HM.out.mono ?_
  clear HM
  by_cases h1 : n + 1 ≤ lim
  · rw [dec_in h1]
    rintro e w1 ⟨rfl, hb1, hf1, hs1⟩
    have hbx1 := fr_heap HBX.out hf1 (by show ¬ w.heap.size = N; omega)
    have b0 := cell_of_heap hbx1
    have HBX1 := hide hbx1
    have HB1 := hide hb1
    have HF1 := hide (((Fr.refl (· = N) w).alloc _).trans hf1)
    have HS1 := hide hs1
    clear hbx1 hb1 hf1 hs1 HBX HGA eg
    go_wp2_with fail
    clear b0
    go_loopw [15] (fun q wr => ∃ i : Nat, i ≤ t.args.length ∧ q = .int .i64 i ∧ n + 1 + sumW (Pu.size k) t.args i ≤ lim ∧ wr.heap[N]? = some (.cells #[.int .i64 ((n + 1 + sumW (Pu.size k) t.args i : Nat) : Int)] 3 (0, 0)) ∧ Fr (· = N) w wr ∧ S wr ∧ wr.heap[w.heap.size]? = some (.cells csv 27 (0, 0))) (fun q _ => t.args.length - (intOf q).toNat)
    case atStart => exact ⟨0, Nat.zero_le _, rfl, by simp [sumW]; omega, by simpa [sumW] using HB1.out, HF1.out, HS1.out, by rw [HCSV.out]; exact HBX1.out⟩
    case round =>
      clear HB1 HF1 HS1 HBX1
      obtain ⟨i, hi, rfl, hc, hb, hfr, hs, hbx⟩ := hrel
      have hszw := hfr.size
      have hszb : w.heap.size < wr.heap.size := lt_of_heap hbx
      by_cases hlt : i < t.args.length
      · have ho : Old B w wr := hfr.old hB (fun i hi e => by have e : i = N := e; omega)
        obtain ⟨g, o, cap1, kd', n', x', y', b0, n0, e0, b1, n1, e1, b2, n2, e2, hav, hcap, hg, hgw, hrt, hcell⟩ := args_at HR.out HE.out i hlt
        injection hav with hav1 _ hav2
        subst hav1 hav2
        have hcw : ∀ j, j < 7 → wr.cell? ⟨g, o + i * 7 + j, none⟩ = [Value.int .i64 kd', .int .i64 n', .string x', .string y', .slice b0 n0 e0, .slice b1 n1 e1, .slice b2 n2 e2][j]? := fun j hj => by
          rw [ho.cell (a := ⟨g, o + i * 7 + j, none⟩) hg]; exact hcell j hj
        have q0 : wr.cell? ⟨g, o + i * 7, none⟩ = some (.int .i64 kd') := hcw 0 (by omega)
        have q1 := hcw 1 (by omega)
        have q2 := hcw 2 (by omega)
        have q3 := hcw 3 (by omega)
        have q4 := hcw 4 (by omega)
        have q5 := hcw 5 (by omega)
        have q6 := hcw 6 (by omega)
        have hgl : g < wr.heap.size := by omega
        have hss := sumW_succ (Pu.size k) t.args i hlt
        have hsl := sumW_le (Pu.size k) t.args (i + 1)
        have CALL : Hid (∀ W, Fr No wr W → Calls Try.prog 33 #[.agg #[.int .i64 kd', .int .i64 n', .string x', .string y', .slice b0 n0 e0, .slice b1 n1 e1, .slice b2 n2 e2], .func (.func f) #[] cap] W fun e w' => e = .returned (.bool (decide (n + 1 + sumW (Pu.size k) t.args (i + 1) ≤ lim))) ∧
            w'.heap[N]? = some (.cells #[.int .i64 (upto lim (n + 1 + sumW (Pu.size k) t.args (i + 1)) : Nat)] 3 (0, 0)) ∧ Fr (· = N) w w' ∧ S w' ∧ w'.heap[w.heap.size]? = some (.cells csv 27 (0, 0))) := by
          intro W hW
          have hoW : Old B w W := ho.trans (hW.old (by omega) (fun _ _ e => e))
          have := HN.out f cap N lim B st S W (n + 1 + sumW (Pu.size k) t.args i) _ t.args[i] (hst.imp (fun h => by rw [HSZ.out] at h; omega) id) EG.out HMET.out HS.out hlim hBN (hrt.old hoW (Nat.le_trans hszw hW.size)) (by have := hW.size; omega) hc (fr_heap hb hW (fun e => e)) (HS.out _ _ hs hW)
          rw [hss, ← Nat.add_assoc]
          refine this.mono ?_
          rintro e w' ⟨he, h1, h2, h3⟩
          exact ⟨he, h1, (hfr.no hW).trans h2, h3, fr_heap (fr_heap hbx hW (fun e => e)) h2 (by show ¬ w.heap.size = N; omega)⟩
        clear hcw hcell hrt hs hbx hb hfr hss ho
        have i1 : (i : Int) < (t.args.length : Int) := by omega
        have i0 : (0 : Int) ≤ (i : Int) := by omega
        go_wp2_with fail
        refine (CALL.out _ ?_).mono ?_
        · repeat (first | exact Fr.refl _ _ | apply Fr.alloc)
        by_cases h2 : n + 1 + sumW (Pu.size k) t.args (i + 1) ≤ lim
        · rw [dec_in h2, upto_in h2]
          rintro e w2 ⟨rfl, h3, h4, h5, h6⟩
          have H3 := hide h3
          have H4 := hide h4
          have H5 := hide h5
          have H6 := hide h6
          clear h3 h4 h5 h6
          go_wp2_with fail
          go_roundw
          case rel => exact ⟨i + 1, by omega, by go_num, h2, H3.out, H4.out, H5.out, H6.out⟩
          case measure => simp [intOf]; omega
        · rw [dec_out h2, upto_out h2]
          rintro e w2 ⟨rfl, h3, h4, h5, h6⟩
          have H3 := hide h3
          have H4 := hide h4
          have H5 := hide h5
          clear h3 h4 h5 h6
          go_wp2_with fail
          go_ret
          have hbig : ¬ n + Pu.size (k + 1) t ≤ lim := by rw [HSZ.out]; omega
          rw [dec_out hbig, upto_out hbig]
          exact ⟨rfl, H3.out, H4.out, H5.out⟩
      · have hil : i = t.args.length := by omega
        subst hil
        rw [sumW_all] at hb hc
        have b0 := cell_of_heap hbx
        rw [HCSV.out] at b0
        have H1 := hide hb
        have H2 := hide hfr
        have H3 := hide hbx
        have H4 := hide hs
        clear hb hfr hbx hs
        go_wp2_with fail
        clear b0
        obtain ⟨n1, hn1⟩ : ∃ n1, n1 = n + 1 + (t.args.map (Pu.size k)).sum := ⟨_, rfl⟩
        rw [← hn1] at H1 hc
        have HN1 := hide hn1
        clear hn1
        go_loopw [27] (fun q wr => ∃ i : Nat, i ≤ t.cases.length ∧ q = .int .i64 i ∧ n1 + sumW (fun c => Pu.size k c.2.2) t.cases i ≤ lim ∧ wr.heap[N]? = some (.cells #[.int .i64 ((n1 + sumW (fun c => Pu.size k c.2.2) t.cases i : Nat) : Int)] 3 (0, 0)) ∧ Fr (· = N) w wr ∧ S wr ∧ wr.heap[w.heap.size]? = some (.cells csv 27 (0, 0))) (fun q _ => t.cases.length - (intOf q).toNat)
        case atStart => exact ⟨0, Nat.zero_le _, rfl, by simp [sumW]; omega, by simpa [sumW] using H1.out, H2.out, H4.out, H3.out⟩
        case round =>
          clear H1 H2 H3 H4
          obtain ⟨i, hi, rfl, hc, hb, hfr, hs, hbx⟩ := hrel
          have hszw := hfr.size
          have hszb : w.heap.size < wr.heap.size := lt_of_heap hbx
          by_cases hlt : i < t.cases.length
          · have ho : Old B w wr := hfr.old hB (fun i hi e => by have e : i = N := e; omega)
            obtain ⟨g, o, cap1, ag, an, ac, kd', n', x', y', b0, n0, e0, b1, m1, e1, b2, n2, e2, hav, hcap, hg, hgw, hnm, han, hrt, hcell⟩ := cases_at HQ.out HF.out i hlt
            injection hav with hav1 _ hav2
            subst hav1 hav2
            have hcw : ∀ j, j < 9 → wr.cell? ⟨g, o + i * 9 + j, none⟩ = [Value.int .i64 t.cases[i].1, .slice ag an ac, .int .i64 kd', .int .i64 n', .string x', .string y', .slice b0 n0 e0, .slice b1 m1 e1, .slice b2 n2 e2][j]? := fun j hj => by
              rw [ho.cell (a := ⟨g, o + i * 9 + j, none⟩) hg]; exact hcell j hj
            have q0 : wr.cell? ⟨g, o + i * 9, none⟩ = some (.int .i64 t.cases[i].1) := hcw 0 (by omega)
            have q1 := hcw 1 (by omega)
            have q2 := hcw 2 (by omega)
            have q3 := hcw 3 (by omega)
            have q4 := hcw 4 (by omega)
            have q5 := hcw 5 (by omega)
            have q6 := hcw 6 (by omega)
            have q7 := hcw 7 (by omega)
            have q8 := hcw 8 (by omega)
            have hgl : g < wr.heap.size := by omega
            have hss := sumW_succ (fun c : Int × List ByteArray × Pu.TT k => Pu.size k c.2.2) t.cases i hlt
            have hsl := sumW_le (fun c : Int × List ByteArray × Pu.TT k => Pu.size k c.2.2) t.cases (i + 1)
            obtain ⟨cse, hcse⟩ : ∃ cse, cse = t.cases[i] := ⟨_, rfl⟩
            rw [← hcse] at hss hrt q0
            have CALL : Hid (∀ W, Fr No wr W → Calls Try.prog 33 #[.agg #[.int .i64 kd', .int .i64 n', .string x', .string y', .slice b0 n0 e0, .slice b1 m1 e1, .slice b2 n2 e2], .func (.func f) #[] cap] W fun e w' => e = .returned (.bool (decide (n1 + sumW (fun c => Pu.size k c.2.2) t.cases (i + 1) ≤ lim))) ∧
                w'.heap[N]? = some (.cells #[.int .i64 (upto lim (n1 + sumW (fun c => Pu.size k c.2.2) t.cases (i + 1)) : Nat)] 3 (0, 0)) ∧ Fr (· = N) w w' ∧ S w' ∧ w'.heap[w.heap.size]? = some (.cells csv 27 (0, 0))) := by
              intro W hW
              have hoW : Old B w W := ho.trans (hW.old (by omega) (fun _ _ e => e))
              have := HN.out f cap N lim B st S W (n1 + sumW (fun c => Pu.size k c.2.2) t.cases i) _ cse.2.2 (hst.imp (fun h => by rw [HSZ.out] at h; have := HN1.out; omega) id) EG.out HMET.out HS.out hlim hBN (hrt.old hoW (Nat.le_trans hszw hW.size)) (by have := hW.size; omega) hc (fr_heap hb hW (fun e => e)) (HS.out _ _ hs hW)
              rw [hss, ← Nat.add_assoc]
              refine this.mono ?_
              rintro e w' ⟨he, h1, h2, h3⟩
              exact ⟨he, h1, (hfr.no hW).trans h2, h3, fr_heap (fr_heap hbx hW (fun e => e)) h2 (by show ¬ w.heap.size = N; omega)⟩
            clear hcw hcell hrt hs hbx hb hfr hss ho hnm hcse han
            have i1 : (i : Int) < (t.cases.length : Int) := by omega
            have i0 : (0 : Int) ≤ (i : Int) := by omega
            go_wp2_with fail
            refine (CALL.out _ ?_).mono ?_
            · repeat (first | exact Fr.refl _ _ | apply Fr.alloc)
            by_cases h2 : n1 + sumW (fun c => Pu.size k c.2.2) t.cases (i + 1) ≤ lim
            · rw [dec_in h2, upto_in h2]
              rintro e w2 ⟨rfl, h3, h4, h5, h6⟩
              have H3 := hide h3
              have H4 := hide h4
              have H5 := hide h5
              have H6 := hide h6
              clear h3 h4 h5 h6
              go_wp2_with fail
              go_roundw
              case rel => exact ⟨i + 1, by omega, by go_num, h2, H3.out, H4.out, H5.out, H6.out⟩
              case measure => simp [intOf]; omega
            · rw [dec_out h2, upto_out h2]
              rintro e w2 ⟨rfl, h3, h4, h5, h6⟩
              have H3 := hide h3
              have H4 := hide h4
              have H5 := hide h5
              clear h3 h4 h5 h6
              go_wp2_with fail
              go_ret
              have hbig : ¬ n + Pu.size (k + 1) t ≤ lim := by rw [HSZ.out]; have := HN1.out; omega
              rw [dec_out hbig, upto_out hbig]
              exact ⟨rfl, H3.out, H4.out, H5.out⟩
          · have hil : i = t.cases.length := by omega
            subst hil
            rw [sumW_all] at hb hc
            have H1 := hide hb
            have H2 := hide hfr
            have H4 := hide hs
            clear hb hfr hbx hs
            go_wp2_with fail
            go_ret
            have hfin : n + Pu.size (k + 1) t = n1 + (t.cases.map fun c => Pu.size k c.2.2).sum := by rw [HSZ.out, HN1.out]; omega
            rw [hfin, dec_in hc, upto_in hc]
            exact ⟨rfl, H1.out, H2.out, H4.out⟩
  · rw [dec_out h1]
    rintro e w1 ⟨rfl, hb1, hf1, hs1⟩
    have HB1 := hide hb1
    have HF1 := hide (((Fr.refl (· = N) w).alloc _).trans hf1)
    have HS1 := hide hs1
    clear hb1 hf1 hs1 HBX HGA eg
    go_wp2_with fail
    go_ret
    have hbig : ¬ n + Pu.size (k + 1) t ≤ lim := by rw [HSZ.out]; omega
    have hn' : n = lim := by omega
    rw [dec_out hbig, upto_out hbig]
    rw [hn'] at HB1
    exact ⟨rfl, HB1.out, HF1.out, HS1.out⟩

theorem walk_all : ∀ k, WalkC k
  | 0 => fun _ _ _ _ _ _ _ _ _ _ _ _ _ _ _ _ _ h => h.elim
  | k + 1 => walk_node k (walk_all k)

theorem met_size (N : Nat) : Met 34 #[.pointer (some ⟨N, 0, none⟩)] N 1099511627776 False (fun _ => True) := by
  intro w n hn hst hb _
  have b0 : w.cell? ⟨N, 0, none⟩ = some (.int .i64 n) := by rw [cell_of_heap hb]; rfl
  have z0 := frozen_of_heap hb 0
  have HB := hide hb
  clear hb
  have hn1 : (n : Int) ≤ 1099511627776 := by omega
  have hn0 : (0 : Int) ≤ n := by omega
  rw [dec_in (hst.resolve_right (fun e => e))]
  go_enter Try.func34, Try.ntmps34
  go_wp2_with fail
  go_ret
  exact ⟨rfl, one_set HB.out, (Fr.refl (· = N) w).setCell (.inl rfl) _, trivial⟩

theorem met_larger (N L lim : Nat) (hl : lim ≤ 1099511627776) (hne : L ≠ N) : Met 55 #[.pointer (some ⟨N, 0, none⟩), .pointer (some ⟨L, 0, none⟩)] N lim True (fun w => w.heap[L]? = some (.cells #[.int .i64 lim] 3 (0, 0))) := by
  intro w n hn _ hb hs
  have b0 : w.cell? ⟨N, 0, none⟩ = some (.int .i64 n) := by rw [cell_of_heap hb]; rfl
  have b1 : w.cell? ⟨L, 0, none⟩ = some (.int .i64 lim) := by rw [cell_of_heap hs]; rfl
  have z0 := frozen_of_heap hb 0
  have hNs : N < w.heap.size := lt_of_heap hb
  have HB := hide hb
  have HS := hide hs
  clear hb hs
  have hn1 : (n : Int) ≤ 1099511627776 := by omega
  have hn0 : (0 : Int) ≤ n := by omega
  by_cases h : n + 1 ≤ lim
  · have h' : (n : Int) + 1 ≤ lim := by omega
    rw [dec_in h]
    go_enter Try.func55, Try.ntmps55
    go_wp2_with fail
    go_ret
    refine ⟨by simp, one_set HB.out, (Fr.refl (· = N) w).setCell (.inl rfl) _, fr_heap HS.out ((Fr.refl (· = N) w).setCell (.inl rfl) _) hne⟩
  · have h' : ¬ (n : Int) + 1 ≤ lim := by omega
    rw [dec_out h]
    go_enter Try.func55, Try.ntmps55
    go_wp2_with fail
    go_ret
    refine ⟨by simp, one_set HB.out, (Fr.refl (· = N) w).setCell (.inl rfl) _, fr_heap HS.out ((Fr.refl (· = N) w).setCell (.inl rfl) _) hne⟩

set_option maxHeartbeats 1000000 in
theorem size_any (k B : Nat) (w : World) (cs : List Value) (t : Pu.TT k) (ht : RT k B w cs t) (hB : B ≤ w.heap.size) (hw : Pu.size k t ≤ 1073741824) :
    Calls Try.prog 11 #[.agg cs.toArray] w fun e w' => e = .returned (.int .i64 (Pu.size k t)) ∧ Fr No w w' := by
  obtain ⟨kd, n, x, y, a0, n0, c0, a1, n1, c1, a2, n2, c2, rfl⟩ := ht.form
  have HT := hide ht
  clear ht
  have hmf : ∀ (fn : Fn) (first cap : Array Value) (w : World), (Instr.makeFunc fn first cap).run Try.prog w = .ok (.func fn first cap) w := fun _ _ _ _ => rfl
  show Calls Try.prog 11 #[.agg #[.int .i64 kd, .int .i64 n, .string x, .string y, .slice a0 n0 c0, .slice a1 n1 c1, .slice a2 n2 c2]] w _
  go_enter Try.func11, Try.ntmps11
  go_wp2_with fail
  clear hmf
  obtain ⟨W0, hW0⟩ : ∃ W0, W0 = w.alloc (.cells #[.int .i64 kd, .int .i64 n, .string x, .string y, .slice a0 n0 c0, .slice a1 n1 c1, .slice a2 n2 c2] 27) := ⟨_, rfl⟩
  have hs0 : W0.heap.size = w.heap.size + 1 := by rw [hW0, World.size_alloc]
  have f0 : Fr No w W0 := by rw [hW0]; exact (Fr.refl No w).alloc _
  have f1 : Fr No w (W0.alloc (.cells #[.int .i64 0] 3)) := f0.alloc _
  have hb : (W0.alloc (.cells #[.int .i64 0] 3)).heap[w.heap.size + 1]? = some (.cells #[.int .i64 ((0 : Nat) : Int)] 3 (0, 0)) := by rw [← hs0]; exact heap_alloc_new _ _
  have HC := hide (walk_all k 34 _ (w.heap.size + 1) 1099511627776 B False (fun _ => True) _ 0 _ t (.inl (by omega)) (fun a w => Try.call34 a w) (met_size (w.heap.size + 1)) (fun _ _ _ _ => trivial) (Nat.le_refl _) (by omega) (HT.out.old (f1.old hB (fun _ _ e => e)) f1.size) (by have := f1.size; omega) (by omega) hb trivial)
  rw [hW0] at HC
  refine HC.out.mono ?_
  clear HC hb hs0
  rw [Nat.zero_add, dec_in (by omega), upto_in (by omega)]
  rintro e w1 ⟨rfl, h1, h2, _⟩
  have b1 : w1.cell? ⟨w.heap.size + 1, 0, none⟩ = some (.int .i64 (Pu.size k t)) := by rw [cell_of_heap h1]; rfl
  have H2 := hide (((((Fr.refl No w).alloc _).alloc _).trans' h2 (fun i hi e => by have e : i = w.heap.size + 1 := e; omega) : Fr No w w1))
  clear h1 h2 hW0
  go_wp2_with fail
  go_ret
  exact ⟨rfl, H2.out⟩

set_option maxHeartbeats 1000000 in
theorem larger_any (k B : Nat) (w : World) (cs : List Value) (t : Pu.TT k) (ht : RT k B w cs t) (hB : B ≤ w.heap.size) (lim : Nat) (hl : lim ≤ 1099511627776) :
    Calls Try.prog 52 #[.agg cs.toArray, .int .i64 lim] w fun e w' => e = .returned (.bool (decide (lim < Pu.size k t))) ∧ Fr No w w' := by
  obtain ⟨kd, n, x, y, a0, n0, c0, a1, n1, c1, a2, n2, c2, rfl⟩ := ht.form
  have HT := hide ht
  clear ht
  have hmf : ∀ (fn : Fn) (first cap : Array Value) (w : World), (Instr.makeFunc fn first cap).run Try.prog w = .ok (.func fn first cap) w := fun _ _ _ _ => rfl
  show Calls Try.prog 52 #[.agg #[.int .i64 kd, .int .i64 n, .string x, .string y, .slice a0 n0 c0, .slice a1 n1 c1, .slice a2 n2 c2], .int .i64 lim] w _
  go_enter Try.func52, Try.ntmps52
  go_wp2_with fail
  clear hmf
  obtain ⟨W0, hW0⟩ : ∃ W0, W0 = (w.alloc (.cells #[.int .i64 kd, .int .i64 n, .string x, .string y, .slice a0 n0 c0, .slice a1 n1 c1, .slice a2 n2 c2] 27)) := ⟨_, rfl⟩
  have hs0 : W0.heap.size = w.heap.size + 1 := by rw [hW0, World.size_alloc]
  have f0 : Fr No w W0 := by rw [hW0]; exact (Fr.refl No w).alloc _
  have f1 : Fr No w ((W0.alloc (.cells #[.int .i64 lim] 3)).alloc (.cells #[.int .i64 0] 3)) := (f0.alloc _).alloc _
  have hL : ((W0.alloc (.cells #[.int .i64 lim] 3)).alloc (.cells #[.int .i64 0] 3)).heap[w.heap.size + 1]? = some (.cells #[.int .i64 lim] 3 (0, 0)) := by rw [← hs0, Below.heap_alloc _ _ _ (by simp)]; exact heap_alloc_new _ _
  have hb : ((W0.alloc (.cells #[.int .i64 lim] 3)).alloc (.cells #[.int .i64 0] 3)).heap[w.heap.size + 1 + 1]? = some (.cells #[.int .i64 ((0 : Nat) : Int)] 3 (0, 0)) := by
    have := heap_alloc_new (W0.alloc (.cells #[.int .i64 lim] 3)) (.cells #[.int .i64 0] 3)
    rw [World.size_alloc, hs0] at this; exact this
  have HC := hide (walk_all k 55 _ (w.heap.size + 1 + 1) lim B True _ _ 0 _ t (.inr trivial) (fun a w => Try.call55 a w) (met_larger (w.heap.size + 1 + 1) (w.heap.size + 1) lim hl (by omega)) (fun a b h hf => fr_heap h hf (fun e => e)) hl (by omega) (HT.out.old (f1.old hB (fun _ _ e => e)) f1.size) (by have := f1.size; omega) (by omega) hb hL)
  rw [hW0] at HC
  refine HC.out.mono ?_
  clear HC hb hs0 hL
  rw [Nat.zero_add]
  rintro e w1 ⟨rfl, h1, h2, _⟩
  have H2 := hide ((((((Fr.refl No w).alloc _).alloc _).alloc _).trans' h2 (fun i hi e => by have e : i = w.heap.size + 1 + 1 := e; omega) : Fr No w w1))
  clear h1 h2 hW0
  go_wp2_with fail
  go_ret
  refine ⟨?_, H2.out⟩
  by_cases h : Pu.size k t ≤ lim
  · rw [dec_in h, decide_eq_false (by omega)]; rfl
  · rw [dec_out h, decide_eq_true (by omega)]; rfl
end Go.Proofs.Ytmjpfiecgkoaeaa
