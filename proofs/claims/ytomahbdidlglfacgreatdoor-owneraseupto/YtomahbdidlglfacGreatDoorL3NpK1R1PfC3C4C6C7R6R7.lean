/- 'ScopeLet', walked. -/
import Derived.Test.YtomahbdidlglfacGreatDoorN1PcW3W4C2S1L2
import Derived.Test.YtomahbdidlglfacGreatDoorW5
namespace Go.Proofs.YtomahbdidlglfacGreatDoor
open Go.RowKit Go.Maps Go.WideMaps
/-- A row of names that is owned, as a list of names. -/
theorem names_of_rowL {w : World} {b : Nat} {v : Value} {l : List ByteArray} (h : w.ownsRow b 9 1 v l.length (l.map .string)) (hs : Short l) : Names w.heap.size w v l := by
  refine ⟨?_, hs⟩
  rcases h.2 with ⟨rfl, h0⟩ | ⟨g, cap, cur, rfl, hb, hgg, hcap, hcap', hsz, htk⟩
  · exact ⟨_, _, by rw [h0], by omega, Nat.zero_le _, fun hn => absurd hn (by omega)⟩
  · refine ⟨_, _, rfl, hcap, hcap', fun hn => ⟨g, 0, rfl, lt_of_heap hgg, lt_of_heap hgg, fun i hi => ?_⟩⟩
    have := h.cells (g := g) rfl i _ (List.getElem?_eq_getElem hi)
    rw [Addr.add_lit] at this
    rw [this]
    exact (List.getElem?_eq_getElem hi).symm
end Go.Proofs.YtomahbdidlglfacGreatDoor

/- What a right term needs is there: as plain functions. No walk in it. -/
namespace Go.Proofs.YtomahbdidlglfacGreatDoor

theorem with_zero {c : Pu.Cnt} {l : List ByteArray} {x : ByteArray} {b : Pu.Cnt} (h : Pu.with' b l x = 0 ∧ 0 < Pu.with' c l x) : b x = 0 ∧ 0 < c x := by
  unfold Pu.with' at h
  omega
/-- Names that a right term adds are there. -/
def Adds (c b : Pu.Cnt) (acc l : List ByteArray) : Prop := ∀ x, x ∈ l → x ∈ acc ∨ (b x = 0 ∧ 0 < c x)
theorem Adds.refl (c b : Pu.Cnt) (acc : List ByteArray) : Adds c b acc acc := fun _ h => .inl h
theorem Adds.trans {c b : Pu.Cnt} {l1 l2 l3 : List ByteArray} (h : Adds c b l1 l2) (k : Adds c b l2 l3) : Adds c b l1 l3 := fun x hx => (k x hx).elim (h x) .inr
theorem Adds.out {c b : Pu.Cnt} {l l1 l2 : List ByteArray} (h : Adds (Pu.with' c l) (Pu.with' b l) l1 l2) : Adds c b l1 l2 := fun x hx => (h x hx).imp id with_zero
end Go.Proofs.YtomahbdidlglfacGreatDoor

/- 'Has' and 'ScopeNeeds', walked. -/
namespace Go.Proofs.YtomahbdidlglfacGreatDoor
open Go.RowKit Go.Maps Go.WideMaps
theorem has_take (l : List ByteArray) (i : Nat) (h : i < l.length) (x : ByteArray) : Pu.has (l.take (i + 1)) x = (Pu.has (l.take i) x || decide (l[i] = x)) := by
  rw [List.take_succ_eq_append_getElem h, has_snoc]
set_option maxHeartbeats 1000000 in
theorem has_any (B : Nat) (v : Value) (l : List ByteArray) (x : ByteArray) (w : World) (hl : Names B w v l) :
    Calls Tryz.prog 48 #[v, .string x] w fun e w' => e = .returned (.bool (Pu.has l x)) ∧ w' = w := by
  obtain ⟨a0, c0, rfl, hc, hc'⟩ := hl.1.form
  unfold maxLen at hc'
  have HL := hide hl
  clear hl
  go_enter Tryz.func48, Tryz.ntmps48
  go_wp2_with fail
  go_loop [9] (fun q => ∃ i : Nat, i ≤ l.length ∧ q = .int .i64 i ∧ Pu.has (l.take i) x = false) (fun q => l.length - (intOf q).toNat)
  case atStart => exact ⟨0, Nat.zero_le _, rfl, rfl⟩
  case round =>
    obtain ⟨i, hi, rfl, hh⟩ := hrel
    have HH := hide hh
    clear hh
    by_cases hlt : i < l.length
    · obtain ⟨g, o, cp, hv, _, _, hg, hcell, _⟩ := HL.out.at hlt
      injection hv with hv1 _ hv2
      subst hv1 hv2
      have hst := has_take l i hlt x
      obtain ⟨z, hz⟩ : ∃ z, z = l[i] := ⟨_, rfl⟩
      rw [← hz] at hcell hst
      have HST := hide hst
      have HZ := hide hz
      clear hst hz
      have i1 : (i : Int) < (l.length : Int) := by omega
      have i0 : (0 : Int) ≤ (i : Int) := by omega
      by_cases e : z = x
      · subst e
        go_wp2_with fail
        go_ret
        have ht : Pu.has (l.take (i + 1)) z = true := by rw [HST.out]; simp
        have h2 : Pu.has l z = true := by
          unfold Pu.has at ht ⊢
          rw [List.any_eq_true] at ht ⊢
          obtain ⟨y, hy, hy2⟩ := ht
          exact ⟨y, List.mem_of_mem_take hy, hy2⟩
        rw [h2]
        exact ⟨rfl, rfl⟩
      · have e' := str_ne' e
        go_wp2_with fail
        go_round
        case rel => exact ⟨i + 1, by omega, by go_num, by rw [HST.out, HH.out, decide_eq_false e]; rfl⟩
        case measure => simp [intOf]; omega
    · have hil : i = l.length := by omega
      subst hil
      go_wp2_with fail
      go_ret
      have := HH.out
      rw [List.take_length] at this
      rw [this]
      exact ⟨rfl, rfl⟩
end Go.Proofs.YtomahbdidlglfacGreatDoor

/- The document's answer: 'Size', 'twice', 'bad', walked. -/
namespace Go.Proofs.YtomahbdidlglfacGreatDoor
open Go.RowKit Go.Maps Go.WideMaps
/-- What 'Size' answers at terms of k levels. -/
def RSizeC (k : Nat) : Prop := ∀ (B : Nat) (w : World) (cs : List Value) (t : Pu.TT k), RT k B w cs t → B ≤ w.heap.size → Pu.size k t ≤ 1073741824 →
  Calls Tryz.prog 25 #[.agg cs.toArray] w fun e w' => e = .returned (.int .i64 (Pu.size k t)) ∧ Fr No w w'
set_option maxHeartbeats 2000000 in
theorem rsize_node (k : Nat) (hS : RSizeC k) : RSizeC (k + 1) := by
  intro B w cs t ht hB hsz
  obtain ⟨vv, av, cv, acs, ccs, rfl, _, _, hvars, hr, he, hq, hf⟩ := ht
  obtain ⟨a0, d0, rfl, _⟩ := hvars.1.form
  obtain ⟨a1, d1, rfl, hd1, hd1'⟩ := hr.form
  obtain ⟨a2, d2, rfl, hd2, hd2'⟩ := hq.form
  have hdef : Pu.size (k + 1) t = 1 + (t.args.map (Pu.size k)).sum + (t.cases.map fun c => Pu.size k c.2.2).sum := rfl
  rw [hdef] at hsz ⊢
  obtain ⟨SZ, hSZ⟩ : ∃ SZ, SZ = 1 + (t.args.map (Pu.size k)).sum + (t.cases.map fun c => Pu.size k c.2.2).sum := ⟨_, rfl⟩
  rw [← hSZ]
  have HSZ := hide hSZ
  clear hSZ
  have HR := hide hr
  have HE := hide he
  have HQ := hide hq
  have HF := hide hf
  have HS := hide hS
  unfold maxLen at hd1' hd2'
  clear hr he hq hf hS hvars hdef
  show Calls Tryz.prog 25 #[.agg #[.int .i64 t.kind, .int .i64 t.n, .string t.name, .string t.token, .slice a0 t.vars.length d0, .slice a1 t.args.length d1, .slice a2 t.cases.length d2]] w _
  obtain ⟨W1, hW1⟩ : ∃ W1, W1 = w.alloc (.cells #[.int .i64 t.kind, .int .i64 t.n, .string t.name, .string t.token, .slice a0 t.vars.length d0, .slice a1 t.args.length d1, .slice a2 t.cases.length d2] 32) := ⟨_, rfl⟩
  have hbx : W1.heap[w.heap.size]? = some (.cells #[.int .i64 t.kind, .int .i64 t.n, .string t.name, .string t.token, .slice a0 t.vars.length d0, .slice a1 t.args.length d1, .slice a2 t.cases.length d2] 32 (0, 0)) := by rw [hW1]; exact heap_alloc_new _ _
  have HBX := hide hbx
  have FA : Hid (Fr No w W1) := by rw [hW1]; exact (Fr.refl No w).alloc _
  clear hbx
  go_enter Tryz.func25, Tryz.ntmps25
  go_wp2_with fail
  rw [← hW1]
  clear hW1
  go_loopw [3, 11] (fun v q wr => ∃ i : Nat, i ≤ t.args.length ∧ q = .int .i64 i ∧ v = .int .i64 ((1 + sumW (Pu.size k) t.args i : Nat) : Int) ∧ Fr No W1 wr) (fun _ q _ => t.args.length - (intOf q).toNat)
  case atStart => exact ⟨0, Nat.zero_le _, rfl, by simp [sumW], Fr.refl _ _⟩
  case round =>
    obtain ⟨i, hi, rfl, rfl, hfr⟩ := hrel
    have hszw := hfr.size
    have hszA := FA.out.size
    by_cases hlt : i < t.args.length
    · have ho : Old B w wr := (FA.out.trans hfr).old hB (fun _ _ e => e)
      obtain ⟨g, o, cap1, kd', n', x', y', b0, n0, e0, b1, n1, e1, b2, n2, e2, hav, hcap, hg, hgw, hrt, hcell⟩ := args_at HR.out HE.out i hlt
      injection hav with hav1 _ hav2
      subst hav1 hav2
      have hcw : ∀ j, j < 7 → wr.cell? ⟨g, o + i * 7 + j, none⟩ = [Value.int .i64 kd', .int .i64 n', .string x', .string y', .slice b0 n0 e0, .slice b1 n1 e1, .slice b2 n2 e2][j]? := fun j hj => by
        rw [ho.cell (a := ⟨g, o + i * 7 + j, none⟩) hg]; exact hcell j hj
      have q0 : wr.cell? ⟨g, o + i * 7, none⟩ = some (.int .i64 kd') := hcw 0 (by omega)
      have q1 := hcw 1 (by omega)
      have q2 := hcw 2 (by omega)
      have q3 := hcw 3 (by omega)
      have q4 := hcw 4 (by omega)
      have q5 := hcw 5 (by omega)
      have q6 := hcw 6 (by omega)
      have hgl : g < wr.heap.size := by omega
      have hss := sumW_succ (Pu.size k) t.args i hlt
      have hsl := sumW_le (Pu.size k) t.args (i + 1)
      have CALL : Hid (∀ W, Fr No wr W → Calls Tryz.prog 25 #[.agg #[.int .i64 kd', .int .i64 n', .string x', .string y', .slice b0 n0 e0, .slice b1 n1 e1, .slice b2 n2 e2]] W fun e w' => e = .returned (.int .i64 (Pu.size k t.args[i])) ∧ Fr No W w') := fun W hW =>
        HS.out B W _ t.args[i] (hrt.old (ho.trans (hW.old (by omega) (fun _ _ e => e))) (by have := hW.size; omega)) (by have := hW.size; omega) (by omega)
      obtain ⟨sz, hsz2⟩ : ∃ sz, sz = Pu.size k t.args[i] := ⟨_, rfl⟩
      rw [← hsz2] at hss CALL
      obtain ⟨m, hm⟩ : ∃ m, m = 1 + sumW (Pu.size k) t.args i := ⟨_, rfl⟩
      have hm2 : m + sz = 1 + sumW (Pu.size k) t.args (i + 1) := by omega
      have hmb : m + sz ≤ 1073741824 := by omega
      have HM2 := hide hm2
      rw [← hm]
      have HFR := hide hfr
      clear hcw hcell hrt hfr hss ho hm2 hm hsl hsz2
      have i1 : (i : Int) < (t.args.length : Int) := by omega
      have i0 : (0 : Int) ≤ (i : Int) := by omega
      go_wp2_with fail
      refine (CALL.out _ ?_).mono ?_
      · repeat (first | exact Fr.refl _ _ | apply Fr.alloc)
      rintro e w2 ⟨rfl, h4⟩
      have H4 := hide h4
      clear h4
      go_wp2_with fail
      go_roundw
      case rel => exact ⟨i + 1, by omega, by go_num, by rw [← HM2.out]; go_num, (HFR.out.alloc _).trans H4.out⟩
      case measure => simp [intOf]; omega
    · have hil : i = t.args.length := by omega
      subst hil
      have b0 := cell_of_heap (fr_heap HBX.out hfr (fun e => e))
      obtain ⟨m, hm⟩ : ∃ m, m = 1 + sumW (Pu.size k) t.args t.args.length := ⟨_, rfl⟩
      have hma : m = 1 + (t.args.map (Pu.size k)).sum := by rw [hm, sumW_all]
      rw [← hm]
      have hsz' := HSZ.out
      rw [← hma] at hsz hsz'
      have HSZ' := hide hsz'
      have HW := hide (FA.out.trans hfr)
      have hwb : w.heap.size < wr.heap.size := lt_of_heap (fr_heap HBX.out hfr (fun e => e))
      clear hfr hm hma HBX FA HR HE HSZ hsz'
      go_wp2_with fail
      clear b0
      obtain ⟨W2, hW2⟩ : ∃ W2, W2 = wr := ⟨_, rfl⟩
      rw [← hW2] at HW hwb hszw ⊢
      clear hW2
      go_loopw [3, 23] (fun v q wr => ∃ i : Nat, i ≤ t.cases.length ∧ q = .int .i64 i ∧ v = .int .i64 ((m + sumW (fun c => Pu.size k c.2.2) t.cases i : Nat) : Int) ∧ Fr No W2 wr) (fun _ q _ => t.cases.length - (intOf q).toNat)
      case atStart => exact ⟨0, Nat.zero_le _, rfl, by simp [sumW], Fr.refl _ _⟩
      case round =>
        obtain ⟨i, hi, rfl, rfl, hfr⟩ := hrel
        have hszw2 := hfr.size
        by_cases hlt : i < t.cases.length
        · have ho : Old B w wr := (HW.out.trans hfr).old hB (fun _ _ e => e)
          obtain ⟨g, o, cap1, ag, an, ac, kd', n', x', y', b0, n0, e0, b1, n1, e1, b2, n2, e2, hav, hcap, hg, hgw, hnm, han, hrt, hcell⟩ := cases_at HQ.out HF.out i hlt
          injection hav with hav1 _ hav2
          subst hav1 hav2
          have hcw : ∀ j, j < 9 → wr.cell? ⟨g, o + i * 9 + j, none⟩ = [Value.int .i64 t.cases[i].1, .slice ag an ac, .int .i64 kd', .int .i64 n', .string x', .string y', .slice b0 n0 e0, .slice b1 n1 e1, .slice b2 n2 e2][j]? := fun j hj => by
            rw [ho.cell (a := ⟨g, o + i * 9 + j, none⟩) hg]; exact hcell j hj
          have q0 : wr.cell? ⟨g, o + i * 9, none⟩ = some (.int .i64 t.cases[i].1) := hcw 0 (by omega)
          have q1 := hcw 1 (by omega)
          have q2 := hcw 2 (by omega)
          have q3 := hcw 3 (by omega)
          have q4 := hcw 4 (by omega)
          have q5 := hcw 5 (by omega)
          have q6 := hcw 6 (by omega)
          have q7 := hcw 7 (by omega)
          have q8 := hcw 8 (by omega)
          have hgl : g < wr.heap.size := by omega
          have hss := sumW_succ (fun c => Pu.size k c.2.2) t.cases i hlt
          have hsl := sumW_le (fun c => Pu.size k c.2.2) t.cases (i + 1)
          have CALL : Hid (∀ W, Fr No wr W → Calls Tryz.prog 25 #[.agg #[.int .i64 kd', .int .i64 n', .string x', .string y', .slice b0 n0 e0, .slice b1 n1 e1, .slice b2 n2 e2]] W fun e w' => e = .returned (.int .i64 (Pu.size k t.cases[i].2.2)) ∧ Fr No W w') := fun W hW =>
            HS.out B W _ t.cases[i].2.2 (hrt.old (ho.trans (hW.old (by omega) (fun _ _ e => e))) (by have := hW.size; omega)) (by have := hW.size; omega) (by omega)
          obtain ⟨sz, hsz2⟩ : ∃ sz, sz = Pu.size k t.cases[i].2.2 := ⟨_, rfl⟩
          rw [← hsz2] at hss CALL
          obtain ⟨m', hm⟩ : ∃ m', m' = m + sumW (fun c => Pu.size k c.2.2) t.cases i := ⟨_, rfl⟩
          have hm2 : m' + sz = m + sumW (fun c => Pu.size k c.2.2) t.cases (i + 1) := by omega
          have hmb : m' + sz ≤ 1073741824 := by omega
          have HM2 := hide hm2
          rw [← hm]
          have HFR := hide hfr
          clear hcw hcell hrt hfr hss ho hm2 hm hsl hsz2 hnm han
          have i1 : (i : Int) < (t.cases.length : Int) := by omega
          have i0 : (0 : Int) ≤ (i : Int) := by omega
          go_wp2_with fail
          refine (CALL.out _ ?_).mono ?_
          · repeat (first | exact Fr.refl _ _ | apply Fr.alloc)
          rintro e w2 ⟨rfl, h4⟩
          have H4 := hide h4
          clear h4
          go_wp2_with fail
          go_roundw
          case rel => exact ⟨i + 1, by omega, by go_num, by rw [← HM2.out]; go_num, (HFR.out.alloc _).trans H4.out⟩
          case measure => simp [intOf]; omega
        · have hil : i = t.cases.length := by omega
          subst hil
          rw [sumW_all, ← HSZ'.out]
          have HFR := hide (HW.out.trans hfr)
          clear hfr
          go_wp2_with fail
          go_ret
          exact ⟨rfl, HFR.out⟩
theorem rsize_all : ∀ k, RSizeC k
  | 0 => fun _ _ _ _ h => h.elim
  | k + 1 => rsize_node k (rsize_all k)
/-- No two are the same, seen from the front. -/
def twiceTo (l : List ByteArray) (n : Nat) : Bool := (List.range n).any fun i => if h : i < l.length then Pu.has (l.take i) l[i] else false
def badTo (l : List ByteArray) (n : Nat) : Bool := (l.take n).any fun x => !isName x
theorem twiceTo_succ (l : List ByteArray) (n : Nat) (h : n < l.length) : twiceTo l (n + 1) = (twiceTo l n || Pu.has (l.take n) l[n]) := by
  unfold twiceTo
  rw [List.range_succ, List.any_append]
  simp [h]
theorem badTo_succ (l : List ByteArray) (n : Nat) (h : n < l.length) : badTo l (n + 1) = (badTo l n || !isName l[n]) := by
  unfold badTo
  rw [List.take_succ_eq_append_getElem h, List.any_append]
  simp
theorem twiceTo_mono (l : List ByteArray) {n m : Nat} (h : n ≤ m) (ht : twiceTo l n = true) : twiceTo l m = true := by
  unfold twiceTo at ht ⊢
  rw [List.any_eq_true] at ht ⊢
  obtain ⟨i, hi, h2⟩ := ht
  exact ⟨i, by simp at hi ⊢; omega, h2⟩
theorem badTo_mono (l : List ByteArray) {n : Nat} (ht : badTo l n = true) : badTo l l.length = true := by
  unfold badTo at ht ⊢
  rw [List.any_eq_true] at ht ⊢
  obtain ⟨i, hi, h2⟩ := ht
  exact ⟨i, by rw [List.take_length]; exact List.mem_of_mem_take hi, h2⟩
theorem Names.takeN {B : Nat} {w : World} {a : Option Addr} {c : Nat} {l : List ByteArray} (h : Names B w (.slice a l.length c) l) (i : Nat) (hi : i ≤ l.length) : Names B w (.slice a i c) (l.take i) := by
  obtain ⟨⟨a', cap, h1, h2, h3, h4⟩, h5⟩ := h
  injection h1 with h1 _ h6
  subst h1 h6
  have hl : (l.take i).length = i := by rw [List.length_take]; omega
  refine ⟨⟨a, c, by rw [hl], by omega, h3, fun hn => ?_⟩, fun x hx => h5 x (List.mem_of_mem_take hx)⟩
  obtain ⟨g, o, h7, h8, h9, h10⟩ := h4 (by omega)
  refine ⟨g, o, h7, h8, h9, fun j hj => ?_⟩
  simp at hj
  rw [h10 j (by simp; omega), List.map_take, List.getElem?_take]
  simp
  omega
set_option maxHeartbeats 1000000 in
theorem twice_any (B : Nat) (v : Value) (l : List ByteArray) (w : World) (hl : Names B w v l) :
    Calls Tryz.prog 23 #[v] w fun e w' => e = .returned (.bool (twiceTo l l.length)) ∧ w' = w := by
  obtain ⟨a0, c0, rfl, hc, hc'⟩ := hl.1.form
  unfold maxLen at hc'
  have HL := hide hl
  clear hl
  go_enter Tryz.func23, Tryz.ntmps23
  go_wp2_with fail
  go_loop [7] (fun q => ∃ i : Nat, i ≤ l.length ∧ q = .int .i64 i ∧ twiceTo l i = false) (fun q => l.length - (intOf q).toNat)
  case atStart => exact ⟨0, Nat.zero_le _, rfl, rfl⟩
  case round =>
    obtain ⟨i, hi, rfl, hh⟩ := hrel
    have HH := hide hh
    clear hh
    by_cases hlt : i < l.length
    · obtain ⟨g, o, cp, hv, _, _, hg, hcell, _⟩ := HL.out.at hlt
      injection hv with hv1 _ hv2
      subst hv1 hv2
      have hst := twiceTo_succ l i hlt
      have ch := has_any B _ (l.take i) l[i] w (HL.out.takeN i (by omega))
      obtain ⟨z, hz⟩ : ∃ z, z = l[i] := ⟨_, rfl⟩
      rw [← hz] at hcell hst ch
      obtain ⟨hb, hhb⟩ : ∃ hb, hb = Pu.has (l.take i) z := ⟨_, rfl⟩
      rw [← hhb] at hst ch
      have HST := hide hst
      have CH := hide ch
      clear hst hz ch hhb
      have i1 : (i : Int) < (l.length : Int) := by omega
      have i0 : (0 : Int) ≤ (i : Int) := by omega
      have i2 : (i : Int) ≤ (c0 : Int) := by omega
      go_wp2_with fail
      refine CH.out.mono ?_
      rintro e w4 ⟨rfl, hw4⟩
      rw [hw4]
      clear hw4 CH
      cases hb with
      | true =>
        go_wp2_with fail
        go_ret
        rw [twiceTo_mono l (n := i + 1) (by omega) (by rw [HST.out]; simp)]
        exact ⟨rfl, rfl⟩
      | false =>
        go_wp2_with fail
        go_round
        case rel => exact ⟨i + 1, by omega, by go_num, by rw [HST.out, HH.out]; rfl⟩
        case measure => simp [intOf]; omega
    · have hil : i = l.length := by omega
      subst hil
      go_wp2_with fail
      go_ret
      rw [HH.out]
      exact ⟨rfl, rfl⟩
set_option maxHeartbeats 1000000 in
theorem bad_any (B : Nat) (v : Value) (l : List ByteArray) (w : World) (hl : Names B w v l) :
    Calls Tryz.prog 24 #[v] w fun e w' => e = .returned (.bool (badTo l l.length)) ∧ Fr No w w' := by
  obtain ⟨a0, c0, rfl, hc, hc'⟩ := hl.1.form
  unfold maxLen at hc'
  have HL := hide hl
  clear hl
  go_enter Tryz.func24, Tryz.ntmps24
  go_wp2_with fail
  go_loopw [7] (fun q wr => ∃ i : Nat, i ≤ l.length ∧ q = .int .i64 i ∧ Fr No w wr ∧ badTo l i = false) (fun q _ => l.length - (intOf q).toNat)
  case atStart => exact ⟨0, Nat.zero_le _, rfl, Fr.refl _ _, rfl⟩
  case round =>
    obtain ⟨i, hi, rfl, hf, hh⟩ := hrel
    have HH := hide hh
    clear hh
    by_cases hlt : i < l.length
    · obtain ⟨g, o, cp, hv, _, _, hg, hcell, hszz⟩ := (HL.out.fr hf).at hlt
      injection hv with hv1 _ hv2
      subst hv1 hv2
      have hst := badTo_succ l i hlt
      have ch := name_any l[i] wr hszz
      obtain ⟨z, hz⟩ : ∃ z, z = l[i] := ⟨_, rfl⟩
      rw [← hz] at hcell hst ch
      obtain ⟨hb, hhb⟩ : ∃ hb, hb = isName z := ⟨_, rfl⟩
      rw [← hhb] at hst ch
      have HST := hide hst
      have CH := hide ch
      have HF := hide hf
      clear hst hz ch hhb hszz hf
      have i1 : (i : Int) < (l.length : Int) := by omega
      have i0 : (0 : Int) ≤ (i : Int) := by omega
      go_wp2_with fail
      refine CH.out.mono ?_
      rintro e w4 ⟨rfl, hw4⟩
      have HW4 := hide hw4
      clear hw4 CH
      cases hb with
      | false =>
        go_wp2_with fail
        go_ret
        rw [badTo_mono l (n := i + 1) (by rw [HST.out]; simp)]
        refine ⟨rfl, ?_⟩
        obtain ⟨n, hn⟩ := HW4.out
        rw [hn]; exact HF.out.drewN n
      | true =>
        go_wp2_with fail
        go_roundw
        case rel =>
          refine ⟨i + 1, by omega, by go_num, ?_, by rw [HST.out, HH.out]; rfl⟩
          obtain ⟨n, hn⟩ := HW4.out
          rw [hn]; exact HF.out.drewN n
        case measure => simp [intOf]; omega
    · have hil : i = l.length := by omega
      subst hil
      have HF := hide hf
      clear hf
      go_wp2_with fail
      go_ret
      rw [HH.out]
      exact ⟨rfl, HF.out⟩
end Go.Proofs.YtomahbdidlglfacGreatDoor

/- The names that a term needs, as the document's answer puts them together; it is the same. No walk in it. -/
namespace Go.Proofs.YtomahbdidlglfacGreatDoor
open Pu
namespace Pu
end Pu
theorem has_iff {l : List ByteArray} {x : ByteArray} : has l x = true ↔ x ∈ l := by
  unfold has
  rw [List.any_eq_true]
  constructor
  · rintro ⟨y, h1, h2⟩; simp at h2; subst h2; exact h1
  · intro h; exact ⟨x, h, by simp⟩
theorem has_no {l : List ByteArray} {x : ByteArray} : has l x = false ↔ ¬ x ∈ l := by
  rw [← has_iff]; simp
theorem with_has (c : Cnt) (l : List ByteArray) (x : ByteArray) : with' c l x = 0 ↔ (c x = 0 ∧ has l x = false) := by
  unfold with'
  rw [has_no]
  constructor
  · intro h
    refine ⟨by omega, fun hm => ?_⟩
    have : 0 < l.countP (fun y => decide (y = x)) := List.countP_pos_iff.2 ⟨x, hm, by simp⟩
    omega
  · rintro ⟨h1, h2⟩
    have : l.countP (fun y => decide (y = x)) = 0 := List.countP_eq_zero.2 (fun y hy => by simp; intro e; exact h2 (e ▸ hy))
    omega
end Go.Proofs.YtomahbdidlglfacGreatDoor

/- The check: what a term is by itself. -/
namespace Go.Proofs.YtomahbdidlglfacGreatDoor
open Go.RowKit Go.Maps Go.WideMaps
theorem look_ok {w : World} {b K : Nat} {m : ByteArray → Option Int} (h : MapC w b K m) {x : ByteArray} (hx : x.size ≤ maxLen) :
    (Instr.lookup 51 (.map (some b)) (.string x) true).run Tryz.prog w = .ok (.tuple #[.int .i64 ((m x).getD 0), .bool (m x).isSome]) w := by
  obtain ⟨kk, D, hkk, hown, hD⟩ := h
  have hw0 : (Lit.int .i64 0).wf = true := by decide
  obtain ⟨v, ps, hrun, hv⟩ := hown.look_ok law Tryz.underlying51 (zeroE _) (plainElem_int Tryz.underlying3 hw0) (keyS hx)
  obtain ⟨c, rfl, hc, _⟩ := plainElem_int_inv Tryz.underlying3 hv
  simp only [Prod.mk.injEq] at hc
  rw [(hD x hx).1] at hc
  rw [hrun, (hD x hx).2]
  have := hc.1
  simp at this
  rw [this]
/-- The checker in memory. -/
structure CkS (B P Pm A K : Nat) (w : World) (fns : ByteArray → Option Int) (c : Pu.Cnt) : Prop where
  p : Gd w P
  m : MapC w Pm K fns
  a : CntAt w A K c
  ne : A ≠ Pm
  hA : B ≤ A
theorem CkS.no {B P Pm A K : Nat} {w w' : World} {fns : ByteArray → Option Int} {c : Pu.Cnt} (h : CkS B P Pm A K w fns c) (hf : Fr No w w') : CkS B P Pm A K w' fns c :=
  ⟨fr_heap h.p hf (fun e => e), h.m.fr hf (fun e => e), h.a.fr hf (fun e => e), h.ne, h.hA⟩
theorem CkS.mono {B P Pm A K K' : Nat} {w : World} {fns : ByteArray → Option Int} {c : Pu.Cnt} (h : CkS B P Pm A K w fns c) (hK : K ≤ K') : CkS B P Pm A K' w fns c :=
  ⟨h.p, h.m.mono hK, h.a.mono hK, h.ne, h.hA⟩
end Go.Proofs.YtomahbdidlglfacGreatDoor

/- The check: is a tag taken? -/
namespace Go.Proofs.YtomahbdidlglfacGreatDoor
open Go.RowKit Go.Maps Go.WideMaps
theorem taken_snoc {α : Type} (l : List (Int × List ByteArray × α)) (i : Nat) (h : i < l.length) (n : Int) : Pu.taken (l.take (i + 1)) n = (Pu.taken (l.take i) n || decide (l[i].1 = n)) := by
  unfold Pu.taken
  rw [List.take_succ_eq_append_getElem h, List.any_append]
  simp
end Go.Proofs.YtomahbdidlglfacGreatDoor

/- The check: the cases of a match. -/
namespace Go.Proofs.YtomahbdidlglfacGreatDoor
open Go.RowKit Go.Maps Go.WideMaps
theorem chkCases_step {α : Type} (F : Pu.Cnt → α → Nat → Int) (c : Pu.Cnt) (d : Nat) (l : List (Int × List ByteArray × α)) (i : Nat) (h : i < l.length) : Pu.chkCases F c d (l.take i) (l.drop i) =
    if Pu.caseOwn (l.take i) l[i] = 0 then (if F (Pu.with' c l[i].2.1) l[i].2.2 d = 0 then Pu.chkCases F c d (l.take (i + 1)) (l.drop (i + 1)) else F (Pu.with' c l[i].2.1) l[i].2.2 d) else Pu.caseOwn (l.take i) l[i] := by
  rw [List.drop_eq_getElem_cons h, List.take_succ_eq_append_getElem h]
  rfl
end Go.Proofs.YtomahbdidlglfacGreatDoor

/- The check: a term. -/
namespace Go.Proofs.YtomahbdidlglfacGreatDoor
open Go.RowKit Go.Maps Go.WideMaps
theorem chkArgs_step {α : Type} (F : Pu.Cnt → α → Nat → Int) (c : Pu.Cnt) (l6 : Bool) (x : ByteArray) (d : Nat) (l : List α) (i : Nat) (h : i < l.length) : Pu.chkArgs F c l6 x d i (l.drop i) =
    if F (Pu.with' c (Pu.argNames l6 x i)) l[i] d = 0 then Pu.chkArgs F c l6 x d (i + 1) (l.drop (i + 1)) else F (Pu.with' c (Pu.argNames l6 x i)) l[i] d := by
  rw [List.drop_eq_getElem_cons h]
  rfl
/-- One more for a let's name, behind its second argument. -/
def two (i : Nat) : Nat := if 2 ≤ i then 2 else 0
/-- A name in a list of its own, new. -/
theorem one_name {w' : World} {x : ByteArray} {R : Nat} (hx : x.size ≤ maxLen) (h : w'.heap[R]? = some (.cells #[.string x] 9 (0, 0))) : Names (R + 1) w' (.slice (some ⟨R, 0, none⟩) 1 1) [x] :=
  ⟨⟨_, _, rfl, Nat.le_refl _, by unfold maxLen; decide, fun _ => ⟨_, _, rfl, Nat.lt_succ_self _, lt_of_heap h, fun i hi => by
    have : i = 0 := by simp at hi; omega
    subst this
    rw [cell_of_heap h]; rfl⟩⟩, fun y hy => by simp at hy; subst hy; exact hx⟩
end Go.Proofs.YtomahbdidlglfacGreatDoor

/- For the document's 'Wrong': names that are there, as a list; one list behind another. -/
namespace Go.Proofs.YtomahbdidlglfacGreatDoor
open Go.RowKit Go.Maps Go.WideMaps
/-- All names are unlike: none is there twice, none is bad. -/
theorem unlike_eq (l : List ByteArray) : Pu.unlike l = (!twiceTo l l.length && !badTo l l.length) := by
  have step : ∀ j, j ≤ l.length → Pu.unlike l = (!twiceTo l j && !badTo l j && Pu.unlikeFrom (l.take j) (l.drop j)) := by
    intro j
    induction j with
    | zero => intro _; simp [Pu.unlike, twiceTo, badTo]
    | succ j ih =>
      intro hj
      rw [ih (by omega), unlike_step l j (by omega), twiceTo_succ l j (by omega), badTo_succ l j (by omega)]
      cases twiceTo l j <;> cases badTo l j <;> cases Pu.has (l.take j) l[j] <;> cases isName l[j] <;> simp
  rw [step l.length (Nat.le_refl _), List.take_length, List.drop_length]
  simp [Pu.unlikeFrom]
/-- The names that are bound, as counts and as a list. -/
def Agree (c : Pu.Cnt) (nm : List ByteArray) : Prop := ∀ x, decide (0 < c x) = Pu.has nm x
theorem Agree.with {c : Pu.Cnt} {nm : List ByteArray} (h : Agree c nm) (l : List ByteArray) : Agree (Pu.with' c l) (nm ++ l) := by
  intro x
  have h1 : Pu.has (nm ++ l) x = (Pu.has nm x || Pu.has l x) := by simp [Pu.has, List.any_append]
  rw [h1, ← h x]
  have h2 := with_has c l x
  by_cases hc : c x = 0
  · by_cases hl : Pu.has l x = false
    · rw [h2.2 ⟨hc, hl⟩, hc, hl]; rfl
    · have : ¬ Pu.with' c l x = 0 := fun e => hl (h2.1 e).2
      rw [decide_eq_true (by omega)]
      simp at hl
      simp [hl]
  · have : ¬ Pu.with' c l x = 0 := fun e => hc (h2.1 e).1
    rw [decide_eq_true (by omega), decide_eq_true (by omega)]
    rfl
theorem agree_params (l : List ByteArray) : Agree (Pu.with' (fun _ => 0) l) l := by
  have h0 : Agree (fun _ => 0) [] := fun x => rfl
  have := h0.with l
  simpa using this
end Go.Proofs.YtomahbdidlglfacGreatDoor

/- The document's 'Wrong': what is wrong with a term, as a plain function; what is wrong at once. -/
namespace Go.Proofs.YtomahbdidlglfacGreatDoor
open Go.RowKit Go.Maps Go.WideMaps
/-- What 'Wrong' answers at terms of k levels. -/
def RWrongC (k : Nat) : Prop := ∀ (B Bn m K : Nat) (w : World) (cs : List Value) (t : Pu.TT k) (nv : Value) (nm : List ByteArray) (fns : ByteArray → Option Int) (c : Pu.Cnt) (d : Nat), RT k B w cs t → Names Bn w nv nm → MapC w m K fns → Agree c nm → B ≤ w.heap.size → d ≤ 25 → nm.length + Pu.wt k t ≤ 1073741824 →
  Calls Tryz.prog 26 #[.map (some m), .agg cs.toArray, nv, .int .i64 d] w fun e w' => e = .returned (.int .i64 (Pu.term fns k c t d)) ∧ Fr No w w'
/-- The same, of one kind of terms. -/
def RWrongK (k : Nat) (kd : Int) : Prop := ∀ (B Bn m K : Nat) (w : World) (cs : List Value) (t : Pu.TT (k + 1)) (nv : Value) (nm : List ByteArray) (fns : ByteArray → Option Int) (c : Pu.Cnt) (d : Nat), RT (k + 1) B w cs t → Pu.Node.kind t = kd → Names Bn w nv nm → MapC w m K fns → Agree c nm → B ≤ w.heap.size → ¬ 24 < d → nm.length + Pu.wt (k + 1) t ≤ 1073741824 →
  Calls Tryz.prog 26 #[.map (some m), .agg cs.toArray, nv, .int .i64 d] w fun e w' => e = .returned (.int .i64 (Pu.term fns (k + 1) c t d)) ∧ Fr No w w'
section
variable {k d : Nat} {fns : ByteArray → Option Int} {c : Pu.Cnt} {t : Pu.Node (Pu.TT k)}
theorem term_5 (hd : ¬ 24 < d) (hk : ¬ (t.kind < 1 ∨ 7 < t.kind)) (hf : Pu.fits t = false) : Pu.term fns (k + 1) c t d = 5 := by
  have : Pu.own fns c t d = 5 := by unfold Pu.own; rw [if_neg hd, if_neg hk, if_pos hf]
  show Pu.termN _ _ _ _ _ = _
  unfold Pu.termN
  rw [this]; rfl
theorem term_e {e : Int} (hd : ¬ 24 < d) (hk : ¬ (t.kind < 1 ∨ 7 < t.kind)) (hf : Pu.fits t = true) (ha : Pu.alone fns c t = e) (he : e ≠ 0) : Pu.term fns (k + 1) c t d = e := by
  have : Pu.own fns c t d = e := by unfold Pu.own; rw [if_neg hd, if_neg hk, if_neg (by rw [hf]; decide), ha]
  show Pu.termN _ _ _ _ _ = _
  unfold Pu.termN
  rw [this, if_neg he]
theorem term_0 (hd : ¬ 24 < d) (hk : ¬ (t.kind < 1 ∨ 7 < t.kind)) (hf : Pu.fits t = true) (ha : Pu.alone fns c t = 0) : Pu.term fns (k + 1) c t d =
    (if Pu.chkArgs (Pu.term fns k) c (decide (t.kind = 6)) t.name (d + 1) 0 t.args = 0 then (if t.kind = 7 then Pu.cases' (Pu.term fns k) c (d + 1) t.cases else 0)
    else Pu.chkArgs (Pu.term fns k) c (decide (t.kind = 6)) t.name (d + 1) 0 t.args) := by
  have : Pu.own fns c t d = 0 := by unfold Pu.own; rw [if_neg hd, if_neg hk, if_neg (by rw [hf]; decide), ha]
  show Pu.termN _ _ _ _ _ = _
  unfold Pu.termN
  rw [this, if_pos rfl]
theorem term_9 (hd : 24 < d) : Pu.term fns (k + 1) c t d = 9 := by
  have : Pu.own fns c t d = 9 := by unfold Pu.own; rw [if_pos hd]
  show Pu.termN _ _ _ _ _ = _
  unfold Pu.termN
  rw [this]; rfl
theorem term_1 (hd : ¬ 24 < d) (hk : t.kind < 1 ∨ 7 < t.kind) : Pu.term fns (k + 1) c t d = 1 := by
  have : Pu.own fns c t d = 1 := by unfold Pu.own; rw [if_neg hd, if_pos hk]
  show Pu.termN _ _ _ _ _ = _
  unfold Pu.termN
  rw [this]; rfl
end
set_option maxHeartbeats 4000000 in
set_option maxRecDepth 100000 in
theorem wrong_all (k : Nat) (h1 : RWrongK k 1) (h2 : RWrongK k 2) (h3 : RWrongK k 3) (h4 : RWrongK k 4) (h5 : RWrongK k 5) (h6 : RWrongK k 6) (h7 : RWrongK k 7) : RWrongC (k + 1) := by
  intro B Bn m K w cs t nv nm fns c d ht hnm hm ha hB hd hw
  by_cases hin : ¬ 24 < d ∧ 1 ≤ Pu.Node.kind t ∧ Pu.Node.kind t ≤ 7
  · obtain ⟨hd', hk1, hk7⟩ := hin
    have hk : Pu.Node.kind t = 1 ∨ Pu.Node.kind t = 2 ∨ Pu.Node.kind t = 3 ∨ Pu.Node.kind t = 4 ∨ Pu.Node.kind t = 5 ∨ Pu.Node.kind t = 6 ∨ Pu.Node.kind t = 7 := by omega
    rcases hk with h | h | h | h | h | h | h
    · exact h1 B Bn m K w cs t nv nm fns c d ht h hnm hm ha hB hd' hw
    · exact h2 B Bn m K w cs t nv nm fns c d ht h hnm hm ha hB hd' hw
    · exact h3 B Bn m K w cs t nv nm fns c d ht h hnm hm ha hB hd' hw
    · exact h4 B Bn m K w cs t nv nm fns c d ht h hnm hm ha hB hd' hw
    · exact h5 B Bn m K w cs t nv nm fns c d ht h hnm hm ha hB hd' hw
    · exact h6 B Bn m K w cs t nv nm fns c d ht h hnm hm ha hB hd' hw
    · exact h7 B Bn m K w cs t nv nm fns c d ht h hnm hm ha hB hd' hw
  obtain ⟨vv, av, cv, acs, ccs, rfl, hx, hnn, hvars, hr, he, hq, hf⟩ := ht
  obtain ⟨a0, d0, rfl, _⟩ := hvars.1.form
  obtain ⟨a1, d1, rfl, _⟩ := hr.form
  obtain ⟨a2, d2, rfl, _⟩ := hq.form
  obtain ⟨an0, cn0, rfl, _⟩ := hnm.1.form
  clear hx hnn hvars hr he hq hf hnm hm ha h1 h2 h3 h4 h5 h6 h7 hw
  show Calls Tryz.prog 26 #[.map (some m), .agg #[.int .i64 t.kind, .int .i64 t.n, .string t.name, .string t.token, .slice a0 t.vars.length d0, .slice a1 t.args.length d1, .slice a2 t.cases.length d2], .slice an0 nm.length cn0, .int .i64 d] w _
  by_cases h24 : 24 < d
  · have h24' : 24 < (d : Int) := by omega
    have hE : Pu.term fns (k + 1) c t d = 9 := term_9 h24
    rw [hE]
    clear hin h24 hE
    go_enter Tryz.func26, Tryz.ntmps26
    go_wp2_with fail
    go_ret
    exact ⟨rfl, (Fr.refl No w).alloc _⟩
  have h24' : ¬ 24 < (d : Int) := by omega
  by_cases hk1 : Pu.Node.kind t < 1
  · have hE : Pu.term fns (k + 1) c t d = 1 := term_1 h24 (.inl hk1)
    rw [hE]
    clear hE
    obtain ⟨kd, hkd⟩ : ∃ kd, kd = Pu.Node.kind t := ⟨_, rfl⟩
    rw [← hkd] at hk1 ⊢
    clear hin h24 hkd
    go_enter Tryz.func26, Tryz.ntmps26
    go_wp2_with fail
    go_ret
    exact ⟨rfl, (Fr.refl No w).alloc _⟩
  · have hk7 : 7 < Pu.Node.kind t := by omega
    have hE : Pu.term fns (k + 1) c t d = 1 := term_1 h24 (.inr hk7)
    rw [hE]
    clear hE
    obtain ⟨kd, hkd⟩ : ∃ kd, kd = Pu.Node.kind t := ⟨_, rfl⟩
    rw [← hkd] at hk1 hk7 ⊢
    clear hin h24 hkd
    go_enter Tryz.func26, Tryz.ntmps26
    go_wp2_with fail
    go_ret
    exact ⟨rfl, (Fr.refl No w).alloc _⟩
end Go.Proofs.YtomahbdidlglfacGreatDoor
