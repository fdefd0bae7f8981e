/- The document's answer: 'Size', 'twice', 'bad', walked. -/
import Derived.Test.YtdgmengfdfkgaabDoorNpK1
namespace Go.Proofs.YtdgmengfdfkgaabDoor
open Go.RowKit Go.Maps Go.WideMaps
/-- What 'Size' answers at terms of k levels. -/
def RSizeC (k : Nat) : Prop := ∀ (B : Nat) (w : World) (cs : List Value) (t : Pu.TT k), RT k B w cs t → B ≤ w.heap.size → Pu.size k t ≤ 1073741824 →
  Calls Tryd.prog 28 #[.agg cs.toArray] w fun e w' => e = .returned (.int .i64 (Pu.size k t)) ∧ Fr No w w'
set_option maxHeartbeats 2000000 in
theorem rsize_node (k : Nat) (hS : RSizeC k) : RSizeC (k + 1) := by
  intro B w cs t ht hB hsz
  obtain ⟨vv, av, cv, acs, ccs, rfl, _, _, hvars, hr, he, hq, hf⟩ := ht
  obtain ⟨a0, d0, rfl, _⟩ := hvars.1.form
  obtain ⟨a1, d1, rfl, hd1, hd1'⟩ := hr.form
  obtain ⟨a2, d2, rfl, hd2, hd2'⟩ := hq.form
  have hdef : Pu.size (k + 1) t = 1 + (t.args.map (Pu.size k)).sum + (t.cases.map fun c => Pu.size k c.2.2).sum := rfl
  rw [hdef] at hsz ⊢
  obtain ⟨SZ, hSZ⟩ : ∃ SZ, SZ = 1 + (t.args.map (Pu.size k)).sum + (t.cases.map fun c => Pu.size k c.2.2).sum := ⟨_, rfl⟩
  rw [← hSZ]
  have HSZ := hide hSZ
  clear hSZ
  have HR := hide hr
  have HE := hide he
  have HQ := hide hq
  have HF := hide hf
  have HS := hide hS
  unfold maxLen at hd1' hd2'
  clear hr he hq hf hS hvars hdef
  show Calls Tryd.prog 28 #[.agg #[.int .i64 t.kind, .int .i64 t.n, .string t.name, .string t.token, .slice a0 t.vars.length d0, .slice a1 t.args.length d1, .slice a2 t.cases.length d2]] w _
  obtain ⟨W1, hW1⟩ : ∃ W1, W1 = w.alloc (.cells #[.int .i64 t.kind, .int .i64 t.n, .string t.name, .string t.token, .slice a0 t.vars.length d0, .slice a1 t.args.length d1, .slice a2 t.cases.length d2] 38) := ⟨_, rfl⟩
  have hbx : W1.heap[w.heap.size]? = some (.cells #[.int .i64 t.kind, .int .i64 t.n, .string t.name, .string t.token, .slice a0 t.vars.length d0, .slice a1 t.args.length d1, .slice a2 t.cases.length d2] 38 (0, 0)) := by rw [hW1]; exact heap_alloc_new _ _
  have HBX := hide hbx
  have FA : Hid (Fr No w W1) := by rw [hW1]; exact (Fr.refl No w).alloc _
  clear hbx
  go_enter Tryd.func28, Tryd.ntmps28
  go_wp2_with fail
  rw [← hW1]
  clear hW1
  go_loopw [3, 11] (fun v q wr => ∃ i : Nat, i ≤ t.args.length ∧ q = .int .i64 i ∧ v = .int .i64 ((1 + sumW (Pu.size k) t.args i : Nat) : Int) ∧ Fr No W1 wr) (fun _ q _ => t.args.length - (intOf q).toNat)
  case atStart => exact ⟨0, Nat.zero_le _, rfl, by simp [sumW], Fr.refl _ _⟩
  case round =>
    obtain ⟨i, hi, rfl, rfl, hfr⟩ := hrel
    have hszw := hfr.size
    have hszA := FA.out.size
    by_cases hlt : i < t.args.length
    · have ho : Old B w wr := (FA.out.trans hfr).old hB (fun _ _ e => e)
      obtain ⟨g, o, cap1, kd', n', x', y', b0, n0, e0, b1, n1, e1, b2, n2, e2, hav, hcap, hg, hgw, hrt, hcell⟩ := args_at HR.out HE.out i hlt
      injection hav with hav1 _ hav2
      subst hav1 hav2
      have hcw : ∀ j, j < 7 → wr.cell? ⟨g, o + i * 7 + j, none⟩ = [Value.int .i64 kd', .int .i64 n', .string x', .string y', .slice b0 n0 e0, .slice b1 n1 e1, .slice b2 n2 e2][j]? := fun j hj => by
        rw [ho.cell (a := ⟨g, o + i * 7 + j, none⟩) hg]; exact hcell j hj
      have q0 : wr.cell? ⟨g, o + i * 7, none⟩ = some (.int .i64 kd') := hcw 0 (by omega)
      have q1 := hcw 1 (by omega)
      have q2 := hcw 2 (by omega)
      have q3 := hcw 3 (by omega)
      have q4 := hcw 4 (by omega)
      have q5 := hcw 5 (by omega)
      have q6 := hcw 6 (by omega)
      have hgl : g < wr.heap.size := by omega
      have hss := sumW_succ (Pu.size k) t.args i hlt
      have hsl := sumW_le (Pu.size k) t.args (i + 1)
      have CALL : Hid (∀ W, Fr No wr W → Calls Tryd.prog 28 #[.agg #[.int .i64 kd', .int .i64 n', .string x', .string y', .slice b0 n0 e0, .slice b1 n1 e1, .slice b2 n2 e2]] W fun e w' => e = .returned (.int .i64 (Pu.size k t.args[i])) ∧ Fr No W w') := fun W hW =>
        HS.out B W _ t.args[i] (hrt.old (ho.trans (hW.old (by omega) (fun _ _ e => e))) (by have := hW.size; omega)) (by have := hW.size; omega) (by omega)
      obtain ⟨sz, hsz2⟩ : ∃ sz, sz = Pu.size k t.args[i] := ⟨_, rfl⟩
      rw [← hsz2] at hss CALL
      obtain ⟨m, hm⟩ : ∃ m, m = 1 + sumW (Pu.size k) t.args i := ⟨_, rfl⟩
      have hm2 : m + sz = 1 + sumW (Pu.size k) t.args (i + 1) := by omega
      have hmb : m + sz ≤ 1073741824 := by omega
      have HM2 := hide hm2
      rw [← hm]
      have HFR := hide hfr
      clear hcw hcell hrt hfr hss ho hm2 hm hsl hsz2
      have i1 : (i : Int) < (t.args.length : Int) := by omega
      have i0 : (0 : Int) ≤ (i : Int) := by omega
      go_wp2_with fail
      refine (CALL.out _ ?_).mono ?_
      · repeat (first | exact Fr.refl _ _ | apply Fr.alloc)
      rintro e w2 ⟨rfl, h4⟩
      have H4 := hide h4
      clear h4
      go_wp2_with fail
      go_roundw
      case rel => exact ⟨i + 1, by omega, by go_num, by rw [← HM2.out]; go_num, (HFR.out.alloc _).trans H4.out⟩
      case measure => simp [intOf]; omega
    · have hil : i = t.args.length := by omega
      subst hil
      have b0 := cell_of_heap (fr_heap HBX.out hfr (fun e => e))
      obtain ⟨m, hm⟩ : ∃ m, m = 1 + sumW (Pu.size k) t.args t.args.length := ⟨_, rfl⟩
      have hma : m = 1 + (t.args.map (Pu.size k)).sum := by rw [hm, sumW_all]
      rw [← hm]
      have hsz' := HSZ.out
      rw [← hma] at hsz hsz'
      have HSZ' := hide hsz'
      have HW := hide (FA.out.trans hfr)
      have hwb : w.heap.size < wr.heap.size := lt_of_heap (fr_heap HBX.out hfr (fun e => e))
      clear hfr hm hma HBX FA HR HE HSZ hsz'
      go_wp2_with fail
      clear b0
      obtain ⟨W2, hW2⟩ : ∃ W2, W2 = wr := ⟨_, rfl⟩
      rw [← hW2] at HW hwb hszw ⊢
      clear hW2
      go_loopw [3, 23] (fun v q wr => ∃ i : Nat, i ≤ t.cases.length ∧ q = .int .i64 i ∧ v = .int .i64 ((m + sumW (fun c => Pu.size k c.2.2) t.cases i : Nat) : Int) ∧ Fr No W2 wr) (fun _ q _ => t.cases.length - (intOf q).toNat)
      case atStart => exact ⟨0, Nat.zero_le _, rfl, by simp [sumW], Fr.refl _ _⟩
      case round =>
        obtain ⟨i, hi, rfl, rfl, hfr⟩ := hrel
        have hszw2 := hfr.size
        by_cases hlt : i < t.cases.length
        · have ho : Old B w wr := (HW.out.trans hfr).old hB (fun _ _ e => e)
          obtain ⟨g, o, cap1, ag, an, ac, kd', n', x', y', b0, n0, e0, b1, n1, e1, b2, n2, e2, hav, hcap, hg, hgw, hnm, han, hrt, hcell⟩ := cases_at HQ.out HF.out i hlt
          injection hav with hav1 _ hav2
          subst hav1 hav2
          have hcw : ∀ j, j < 9 → wr.cell? ⟨g, o + i * 9 + j, none⟩ = [Value.int .i64 t.cases[i].1, .slice ag an ac, .int .i64 kd', .int .i64 n', .string x', .string y', .slice b0 n0 e0, .slice b1 n1 e1, .slice b2 n2 e2][j]? := fun j hj => by
            rw [ho.cell (a := ⟨g, o + i * 9 + j, none⟩) hg]; exact hcell j hj
          have q0 : wr.cell? ⟨g, o + i * 9, none⟩ = some (.int .i64 t.cases[i].1) := hcw 0 (by omega)
          have q1 := hcw 1 (by omega)
          have q2 := hcw 2 (by omega)
          have q3 := hcw 3 (by omega)
          have q4 := hcw 4 (by omega)
          have q5 := hcw 5 (by omega)
          have q6 := hcw 6 (by omega)
          have q7 := hcw 7 (by omega)
          have q8 := hcw 8 (by omega)
          have hgl : g < wr.heap.size := by omega
          have hss := sumW_succ (fun c => Pu.size k c.2.2) t.cases i hlt
          have hsl := sumW_le (fun c => Pu.size k c.2.2) t.cases (i + 1)
          have CALL : Hid (∀ W, Fr No wr W → Calls Tryd.prog 28 #[.agg #[.int .i64 kd', .int .i64 n', .string x', .string y', .slice b0 n0 e0, .slice b1 n1 e1, .slice b2 n2 e2]] W fun e w' => e = .returned (.int .i64 (Pu.size k t.cases[i].2.2)) ∧ Fr No W w') := fun W hW =>
            HS.out B W _ t.cases[i].2.2 (hrt.old (ho.trans (hW.old (by omega) (fun _ _ e => e))) (by have := hW.size; omega)) (by have := hW.size; omega) (by omega)
          obtain ⟨sz, hsz2⟩ : ∃ sz, sz = Pu.size k t.cases[i].2.2 := ⟨_, rfl⟩
          rw [← hsz2] at hss CALL
          obtain ⟨m', hm⟩ : ∃ m', m' = m + sumW (fun c => Pu.size k c.2.2) t.cases i := ⟨_, rfl⟩
          have hm2 : m' + sz = m + sumW (fun c => Pu.size k c.2.2) t.cases (i + 1) := by omega
          have hmb : m' + sz ≤ 1073741824 := by omega
          have HM2 := hide hm2
          rw [← hm]
          have HFR := hide hfr
          clear hcw hcell hrt hfr hss ho hm2 hm hsl hsz2 hnm han
          have i1 : (i : Int) < (t.cases.length : Int) := by omega
          have i0 : (0 : Int) ≤ (i : Int) := by omega
          go_wp2_with fail
          refine (CALL.out _ ?_).mono ?_
          · repeat (first | exact Fr.refl _ _ | apply Fr.alloc)
          rintro e w2 ⟨rfl, h4⟩
          have H4 := hide h4
          clear h4
          go_wp2_with fail
          go_roundw
          case rel => exact ⟨i + 1, by omega, by go_num, by rw [← HM2.out]; go_num, (HFR.out.alloc _).trans H4.out⟩
          case measure => simp [intOf]; omega
        · have hil : i = t.cases.length := by omega
          subst hil
          rw [sumW_all, ← HSZ'.out]
          have HFR := hide (HW.out.trans hfr)
          clear hfr
          go_wp2_with fail
          go_ret
          exact ⟨rfl, HFR.out⟩
theorem rsize_all : ∀ k, RSizeC k
  | 0 => fun _ _ _ _ h => h.elim
  | k + 1 => rsize_node k (rsize_all k)
/-- No two are the same, seen from the front. -/
def twiceTo (l : List ByteArray) (n : Nat) : Bool := (List.range n).any fun i => if h : i < l.length then Pu.has (l.take i) l[i] else false
def badTo (l : List ByteArray) (n : Nat) : Bool := (l.take n).any fun x => !isName x
theorem twiceTo_succ (l : List ByteArray) (n : Nat) (h : n < l.length) : twiceTo l (n + 1) = (twiceTo l n || Pu.has (l.take n) l[n]) := by
  unfold twiceTo
  rw [List.range_succ, List.any_append]
  simp [h]
theorem badTo_succ (l : List ByteArray) (n : Nat) (h : n < l.length) : badTo l (n + 1) = (badTo l n || !isName l[n]) := by
  unfold badTo
  rw [List.take_succ_eq_append_getElem h, List.any_append]
  simp
theorem twiceTo_mono (l : List ByteArray) {n m : Nat} (h : n ≤ m) (ht : twiceTo l n = true) : twiceTo l m = true := by
  unfold twiceTo at ht ⊢
  rw [List.any_eq_true] at ht ⊢
  obtain ⟨i, hi, h2⟩ := ht
  exact ⟨i, by simp at hi ⊢; omega, h2⟩
theorem badTo_mono (l : List ByteArray) {n : Nat} (ht : badTo l n = true) : badTo l l.length = true := by
  unfold badTo at ht ⊢
  rw [List.any_eq_true] at ht ⊢
  obtain ⟨i, hi, h2⟩ := ht
  exact ⟨i, by rw [List.take_length]; exact List.mem_of_mem_take hi, h2⟩
theorem Names.takeN {B : Nat} {w : World} {a : Option Addr} {c : Nat} {l : List ByteArray} (h : Names B w (.slice a l.length c) l) (i : Nat) (hi : i ≤ l.length) : Names B w (.slice a i c) (l.take i) := by
  obtain ⟨⟨a', cap, h1, h2, h3, h4⟩, h5⟩ := h
  injection h1 with h1 _ h6
  subst h1 h6
  have hl : (l.take i).length = i := by rw [List.length_take]; omega
  refine ⟨⟨a, c, by rw [hl], by omega, h3, fun hn => ?_⟩, fun x hx => h5 x (List.mem_of_mem_take hx)⟩
  obtain ⟨g, o, h7, h8, h9, h10⟩ := h4 (by omega)
  refine ⟨g, o, h7, h8, h9, fun j hj => ?_⟩
  simp at hj
  rw [h10 j (by simp; omega), List.map_take, List.getElem?_take]
  simp
  omega
set_option maxHeartbeats 1000000 in
theorem twice_any (B : Nat) (v : Value) (l : List ByteArray) (w : World) (hl : Names B w v l) :
    Calls Tryd.prog 26 #[v] w fun e w' => e = .returned (.bool (twiceTo l l.length)) ∧ w' = w := by
  obtain ⟨a0, c0, rfl, hc, hc'⟩ := hl.1.form
  unfold maxLen at hc'
  have HL := hide hl
  clear hl
  go_enter Tryd.func26, Tryd.ntmps26
  go_wp2_with fail
  go_loop [7] (fun q => ∃ i : Nat, i ≤ l.length ∧ q = .int .i64 i ∧ twiceTo l i = false) (fun q => l.length - (intOf q).toNat)
  case atStart => exact ⟨0, Nat.zero_le _, rfl, rfl⟩
  case round =>
    obtain ⟨i, hi, rfl, hh⟩ := hrel
    have HH := hide hh
    clear hh
    by_cases hlt : i < l.length
    · obtain ⟨g, o, cp, hv, _, _, hg, hcell, _⟩ := HL.out.at hlt
      injection hv with hv1 _ hv2
      subst hv1 hv2
      have hst := twiceTo_succ l i hlt
      have ch := has_any B _ (l.take i) l[i] w (HL.out.takeN i (by omega))
      obtain ⟨z, hz⟩ : ∃ z, z = l[i] := ⟨_, rfl⟩
      rw [← hz] at hcell hst ch
      obtain ⟨hb, hhb⟩ : ∃ hb, hb = Pu.has (l.take i) z := ⟨_, rfl⟩
      rw [← hhb] at hst ch
      have HST := hide hst
      have CH := hide ch
      clear hst hz ch hhb
      have i1 : (i : Int) < (l.length : Int) := by omega
      have i0 : (0 : Int) ≤ (i : Int) := by omega
      have i2 : (i : Int) ≤ (c0 : Int) := by omega
      go_wp2_with fail
      refine CH.out.mono ?_
      rintro e w4 ⟨rfl, hw4⟩
      rw [hw4]
      clear hw4 CH
      cases hb with
      | true =>
        go_wp2_with fail
        go_ret
        rw [twiceTo_mono l (n := i + 1) (by omega) (by rw [HST.out]; simp)]
        exact ⟨rfl, rfl⟩
      | false =>
        go_wp2_with fail
        go_round
        case rel => exact ⟨i + 1, by omega, by go_num, by rw [HST.out, HH.out]; rfl⟩
        case measure => simp [intOf]; omega
    · have hil : i = l.length := by omega
      subst hil
      go_wp2_with fail
      go_ret
      rw [HH.out]
      exact ⟨rfl, rfl⟩
set_option maxHeartbeats 1000000 in
theorem bad_any (B : Nat) (v : Value) (l : List ByteArray) (w : World) (hl : Names B w v l) :
    Calls Tryd.prog 27 #[v] w fun e w' => e = .returned (.bool (badTo l l.length)) ∧ Fr No w w' := by
  obtain ⟨a0, c0, rfl, hc, hc'⟩ := hl.1.form
  unfold maxLen at hc'
  have HL := hide hl
  clear hl
  go_enter Tryd.func27, Tryd.ntmps27
  go_wp2_with fail
  go_loopw [7] (fun q wr => ∃ i : Nat, i ≤ l.length ∧ q = .int .i64 i ∧ Fr No w wr ∧ badTo l i = false) (fun q _ => l.length - (intOf q).toNat)
  case atStart => exact ⟨0, Nat.zero_le _, rfl, Fr.refl _ _, rfl⟩
  case round =>
    obtain ⟨i, hi, rfl, hf, hh⟩ := hrel
    have HH := hide hh
    clear hh
    by_cases hlt : i < l.length
    · obtain ⟨g, o, cp, hv, _, _, hg, hcell, hszz⟩ := (HL.out.fr hf).at hlt
      injection hv with hv1 _ hv2
      subst hv1 hv2
      have hst := badTo_succ l i hlt
      have ch := name_any l[i] wr hszz
      obtain ⟨z, hz⟩ : ∃ z, z = l[i] := ⟨_, rfl⟩
      rw [← hz] at hcell hst ch
      obtain ⟨hb, hhb⟩ : ∃ hb, hb = isName z := ⟨_, rfl⟩
      rw [← hhb] at hst ch
      have HST := hide hst
      have CH := hide ch
      have HF := hide hf
      clear hst hz ch hhb hszz hf
      have i1 : (i : Int) < (l.length : Int) := by omega
      have i0 : (0 : Int) ≤ (i : Int) := by omega
      go_wp2_with fail
      refine CH.out.mono ?_
      rintro e w4 ⟨rfl, hw4⟩
      have HW4 := hide hw4
      clear hw4 CH
      cases hb with
      | false =>
        go_wp2_with fail
        go_ret
        rw [badTo_mono l (n := i + 1) (by rw [HST.out]; simp)]
        refine ⟨rfl, ?_⟩
        obtain ⟨n, hn⟩ := HW4.out
        rw [hn]; exact HF.out.drewN n
      | true =>
        go_wp2_with fail
        go_roundw
        case rel =>
          refine ⟨i + 1, by omega, by go_num, ?_, by rw [HST.out, HH.out]; rfl⟩
          obtain ⟨n, hn⟩ := HW4.out
          rw [hn]; exact HF.out.drewN n
        case measure => simp [intOf]; omega
    · have hil : i = l.length := by omega
      subst hil
      have HF := hide hf
      clear hf
      go_wp2_with fail
      go_ret
      rw [HH.out]
      exact ⟨rfl, HF.out⟩
end Go.Proofs.YtdgmengfdfkgaabDoor

/- The names that a term needs, as the document's answer puts them together; it is the same. No walk in it. -/
namespace Go.Proofs.YtdgmengfdfkgaabDoor
open Pu
namespace Pu
def putOne (bt acc : List ByteArray) (x : ByteArray) : List ByteArray := if has bt x = false ∧ has acc x = false then acc ++ [x] else acc
def putAll (bt acc l : List ByteArray) : List ByteArray := l.foldl (putOne bt) acc
end Pu
theorem has_iff {l : List ByteArray} {x : ByteArray} : has l x = true ↔ x ∈ l := by
  unfold has
  rw [List.any_eq_true]
  constructor
  · rintro ⟨y, h1, h2⟩; simp at h2; subst h2; exact h1
  · intro h; exact ⟨x, h, by simp⟩
theorem has_no {l : List ByteArray} {x : ByteArray} : has l x = false ↔ ¬ x ∈ l := by
  rw [← has_iff]; simp
theorem with_has (c : Cnt) (l : List ByteArray) (x : ByteArray) : with' c l x = 0 ↔ (c x = 0 ∧ has l x = false) := by
  unfold with'
  rw [has_no]
  constructor
  · intro h
    refine ⟨by omega, fun hm => ?_⟩
    have : 0 < l.countP (fun y => decide (y = x)) := List.countP_pos_iff.2 ⟨x, hm, by simp⟩
    omega
  · rintro ⟨h1, h2⟩
    have : l.countP (fun y => decide (y = x)) = 0 := List.countP_eq_zero.2 (fun y hy => by simp; intro e; exact h2 (e ▸ hy))
    omega
end Go.Proofs.YtdgmengfdfkgaabDoor
