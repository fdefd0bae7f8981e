/- The document's 'Show', walked: terms without Vars and cases. -/
import Derived.Test.YtdcdegeeaakekacDoorP2Laid
import Derived.Test.YtdcdegeeaakekacDoorS1RsKh
import Derived.Lib.ItoaLen
import Derived.DataShut
namespace Go.Proofs.YtdcdegeeaakekacDoor
open Go.RowKit Go.Maps Go.WideMaps

/-- t is shown as s. -/
def ShC (k : Nat) (t : Pu.TT k) (s : ByteArray) : Prop := ∀ (B : Nat) (w : World) (cs : List Value), RT k B w cs t → B ≤ w.heap.size → Env w → 3 ≤ w.heap.size →
  Calls Tryd.prog 45 #[.agg cs.toArray] w fun e w' => e = .returned (.string s) ∧ Fr No w w'

/-- What the first arguments are shown as. -/
def asTo (ss : List ByteArray) (i : Nat) : ByteArray := (ss.take i).foldl (fun a s => a ++ ⟨#[32]⟩ ++ s) ⟨#[]⟩
theorem asTo_succ (ss : List ByteArray) (i : Nat) (h : i < ss.length) : asTo ss (i + 1) = asTo ss i ++ ⟨#[32]⟩ ++ ss[i] := by
  unfold asTo
  rw [List.take_succ_eq_append_getElem h, List.foldl_append]
  rfl
def asAll (ss : List ByteArray) : ByteArray := asTo ss ss.length

/-- What a term is shown as. -/
def shown (kd n : Int) (nm az : ByteArray) : ByteArray :=
  if kd = 1 then nm
  else if kd = 2 then ⟨(Lib.itoa n).toArray⟩
  else if kd = 3 then ⟨#[40]⟩ ++ (⟨#[35]⟩ ++ ⟨(Lib.itoa n).toArray⟩) ++ az ++ ⟨#[41]⟩
  else if kd = 4 then ⟨#[40]⟩ ++ nm ++ az ++ ⟨#[41]⟩
  else if kd = 6 then ⟨#[40, 108, 101, 116, 32]⟩ ++ nm ++ az ++ ⟨#[41]⟩
  else if kd = 8 then ⟨#[40, 100, 117, 112, 32]⟩ ++ nm ++ az ++ ⟨#[41]⟩
  else ⟨#[40, 100, 114, 111, 112, 32]⟩ ++ nm ++ az ++ ⟨#[41]⟩

theorem wf_bounds {n : Int} (h : (Lit.int .i64 n).wf = true) : -9223372036854775808 ≤ n ∧ n ≤ 9223372036854775807 := by
  exact (Lit.wf_int_iff .i64 n).1 h
theorem itoa_size {n : Int} (h0 : -9223372036854775808 ≤ n) (h1 : n ≤ 9223372036854775807) : (⟨(Lib.itoa n).toArray⟩ : ByteArray).size ≤ 21 := by
  show (Lib.itoa n).toArray.size ≤ 21
  rw [List.size_toArray]
  exact Lib.itoa_length_le n h0 h1

set_option maxRecDepth 100000 in
set_option maxHeartbeats 4000000 in
theorem show_node (k : Nat) (nd : Pu.Node (Pu.TT k)) (ss : List ByteArray) (hv : nd.vars.length = 0) (hns : nd.name.size ≤ 1000000) (hk : nd.kind = 1 ∨ nd.kind = 2 ∨ nd.kind = 3 ∨ nd.kind = 4 ∨ nd.kind = 6 ∨ nd.kind = 8 ∨ nd.kind = 9) (hl : ss.length = nd.args.length) (hs : ∀ i (h : i < nd.args.length), ShC k nd.args[i] (ss[i]'(by omega)))
    (hsm : ∀ i, i ≤ ss.length → (asTo ss i).size ≤ 1000000) (hss : ∀ x ∈ ss, x.size ≤ 1000000) : ShC (k + 1) nd (shown nd.kind nd.n nd.name (asAll ss)) := by
  intro B w cs ht hB henv h3
  obtain ⟨vv, av, cv, acs, ccs, rfl, hnm, hwf, hvars, hr, he, hq, hf⟩ := ht
  obtain ⟨a0, d0, rfl, _⟩ := hvars.1.form
  obtain ⟨a1, d1, rfl, hd1, hd1'⟩ := hr.form
  obtain ⟨a2, d2, rfl, _, _⟩ := hq.form
  obtain ⟨kd, hkd⟩ : ∃ kd, kd = nd.kind := ⟨_, rfl⟩
  rw [← hkd] at hk ⊢
  have HR := hide hr
  have HE := hide he
  have HS := hide hs
  have HSM := hide hsm
  have HSS := hide hss
  have HENV := hide henv
  have HNM := hide hnm
  have HK := hide hk
  have HWF := hide hwf
  unfold maxLen at hd1'
  clear hr he hq hf hs hsm hss henv hvars hnm hk hwf hkd
  rw [hv]
  obtain ⟨W1, hW1⟩ : ∃ W1, W1 = w.alloc (.cells #[.int .i64 kd, .int .i64 nd.n, .string nd.name, .string nd.token, .slice a0 0 d0, .slice a1 nd.args.length d1, .slice a2 nd.cases.length d2] 31) := ⟨_, rfl⟩
  have hbx : W1.heap[w.heap.size]? = some (.cells #[.int .i64 kd, .int .i64 nd.n, .string nd.name, .string nd.token, .slice a0 0 d0, .slice a1 nd.args.length d1, .slice a2 nd.cases.length d2] 31 (0, 0)) := by rw [hW1]; exact heap_alloc_new _ _
  have HBX := hide hbx
  have FA : Hid (Fr No w W1) := by rw [hW1]; exact (Fr.refl No w).alloc _
  have hb0 := cell_of_heap hbx
  clear hbx
  show Calls Tryd.prog 45 #[.agg #[.int .i64 kd, .int .i64 nd.n, .string nd.name, .string nd.token, .slice a0 0 d0, .slice a1 nd.args.length d1, .slice a2 nd.cases.length d2]] w _
  rw [hW1] at hb0
  go_enter Tryd.func45, Tryd.ntmps45
  go_wp2_with fail
  rw [← hW1]
  clear hW1 hb0
  go_loopw [3, 18] (fun v q wr => ∃ i : Nat, i ≤ nd.args.length ∧ q = .int .i64 i ∧ v = .string (asTo ss i) ∧ Fr No W1 wr) (fun _ q _ => nd.args.length - (intOf q).toNat)
  case atStart => exact ⟨0, Nat.zero_le _, rfl, rfl, Fr.refl _ _⟩
  case round =>
    obtain ⟨i, hi, rfl, rfl, hfr⟩ := hrel
    have hszw := hfr.size
    have hszA := FA.out.size
    have hal := HSM.out i (by omega)
    by_cases hlt : i < nd.args.length
    · have ho : Old B w wr := (FA.out.trans hfr).old hB (fun _ _ e => e)
      obtain ⟨g, o, cap1, kd', n', x', y', b0, n0, e0, b1, n1, e1, b2, n2, e2, hav, hcap, hg, hgw, hrt, hcell⟩ := args_at HR.out HE.out i hlt
      injection hav with hav1 _ hav2
      subst hav1 hav2
      have hcw : ∀ j, j < 7 → wr.cell? ⟨g, o + i * 7 + j, none⟩ = [Value.int .i64 kd', .int .i64 n', .string x', .string y', .slice b0 n0 e0, .slice b1 n1 e1, .slice b2 n2 e2][j]? := fun j hj => by
        rw [ho.cell (a := ⟨g, o + i * 7 + j, none⟩) hg]; exact hcell j hj
      have q0 : wr.cell? ⟨g, o + i * 7, none⟩ = some (.int .i64 kd') := hcw 0 (by omega)
      have q1 := hcw 1 (by omega)
      have q2 := hcw 2 (by omega)
      have q3 := hcw 3 (by omega)
      have q4 := hcw 4 (by omega)
      have q5 := hcw 5 (by omega)
      have q6 := hcw 6 (by omega)
      have hgl : g < wr.heap.size := by omega
      have hsu := asTo_succ ss i (by omega)
      have hsx := HSS.out (ss[i]'(by omega)) (List.getElem_mem _)
      have CALL : Hid (∀ W, Fr No wr W → Calls Tryd.prog 45 #[.agg #[.int .i64 kd', .int .i64 n', .string x', .string y', .slice b0 n0 e0, .slice b1 n1 e1, .slice b2 n2 e2]] W fun e w' => e = .returned (.string (ss[i]'(by omega))) ∧ Fr No W w') := fun W hW =>
        HS.out i hlt B W _ (hrt.old (ho.trans (hW.old (by omega) (fun _ _ e => e))) (by have := hW.size; omega)) (by have := hW.size; omega) (HENV.out.fr ((FA.out.trans hfr).trans hW) h3 (fun _ _ e => e)) (by have := hW.size; omega)
      obtain ⟨s, hs⟩ : ∃ s, s = ss[i]'(by omega) := ⟨_, rfl⟩
      rw [← hs] at hsu hsx CALL
      obtain ⟨az, has⟩ : ∃ az, az = asTo ss i := ⟨_, rfl⟩
      rw [← has] at hsu hal ⊢
      have HSU := hide hsu
      have HFR := hide hfr
      clear hcw hcell hrt hfr ho hs hsu has
      have i1 : (i : Int) < (nd.args.length : Int) := by omega
      have i0 : (0 : Int) ≤ (i : Int) := by omega
      go_wp2_with fail
      refine (CALL.out _ ?_).mono ?_
      · repeat (first | exact Fr.refl _ _ | apply Fr.alloc)
      rintro e w2 ⟨rfl, h4⟩
      have H4 := hide h4
      clear h4
      go_wp2_with fail
      go_roundw
      case rel => exact ⟨i + 1, by omega, by go_num, by rw [HSU.out], (HFR.out.alloc _).trans H4.out⟩
      case measure => simp [intOf]; omega
    · have hil : i = nd.args.length := by omega
      subst hil
      have hb1 := cell_of_heap (fr_heap HBX.out hfr (fun e => e))
      have hlb := lt_of_heap (fr_heap HBX.out hfr (fun e => e))
      have HF := hide (FA.out.trans hfr)
      have HBX2 := hide (fr_heap HBX.out hfr (fun e => e))
      have HAL : Hid (asTo ss nd.args.length = asAll ss) := by unfold asAll; rw [hl]; exact rfl
      rw [HAL.out] at hal ⊢
      obtain ⟨az, has⟩ : ∃ az, az = asAll ss := ⟨_, rfl⟩
      rw [← has] at hal ⊢
      have HAZ := hide has
      clear hfr HAL has
      go_wp2_with fail
      obtain ⟨W2, hW2⟩ : ∃ W2, W2 = wr := ⟨_, rfl⟩
      rw [← hW2] at HF hb1 hlb hszw HBX2 ⊢
      clear hW2 hb1 hlb hszw
      go_loopw [31] (fun q wr' => q = .int .i64 0 ∧ Fr No W2 wr') (fun _ _ => 0)
      case atStart => exact ⟨rfl, Fr.refl _ _⟩
      case round =>
        obtain ⟨rfl, hf2⟩ := hrel
        have hb2 := cell_of_heap (fr_heap HBX2.out hf2 (fun e => e))
        have hlb2 := lt_of_heap (fr_heap HBX2.out hf2 (fun e => e))
        have HF2 := hide (HF.out.trans hf2)
        have HBX3 := hide (fr_heap HBX2.out hf2 (fun e => e))
        have hw64 : -9223372036854775808 ≤ nd.n ∧ nd.n ≤ 9223372036854775807 := wf_bounds HWF.out
        have CI : Hid (∀ W, Fr No w W → Calls Tryd.prog 76 #[.int .i64 nd.n] W fun e w' => e = .returned (.string ⟨(Lib.itoa nd.n).toArray⟩) ∧ Fr No W w') := fun W hW => itoa_any nd.n W hw64.1 hw64.2 (HENV.out.fr hW h3 (fun _ _ e => e))
        have hil : (⟨(Lib.itoa nd.n).toArray⟩ : ByteArray).size ≤ 21 := itoa_size hw64.1 hw64.2
        obtain ⟨it, hit⟩ : ∃ it : ByteArray, it = ⟨(Lib.itoa nd.n).toArray⟩ := ⟨_, rfl⟩
        rw [← hit] at CI hil
        have hnm2 := HNM.out
        have HIT := hide hit
        clear hf2 hw64 hit
        go_wp2_with fail
        refine (CI.out _ HF2.out).mono ?_
        rintro e w3 ⟨rfl, hf3⟩
        have HF3 := hide (HF2.out.trans hf3)
        have hb3 := cell_of_heap (fr_heap HBX3.out hf3 (fun e => e))
        have hlb3 := lt_of_heap (fr_heap HBX3.out hf3 (fun e => e))
        clear hf3 hb2
        have hk := HK.out
        unfold maxLen at hnm2
        rcases hk with h | h | h | h | h | h | h
        · subst h
          go_wp2_with fail
          go_ret
          exact ⟨rfl, HF3.out⟩
        · subst h
          go_wp2_with fail
          refine (CI.out _ HF3.out).mono ?_
          rintro e w4 ⟨rfl, hf4⟩
          have HF4 := hide (HF3.out.trans hf4)
          clear hf4
          go_wp2_with fail
          go_ret
          exact ⟨by rw [HIT.out]; rfl, HF4.out⟩
        · subst h
          go_wp2_with fail
          go_ret
          exact ⟨by rw [HIT.out, HAZ.out]; rfl, HF3.out⟩
        · subst h
          go_wp2_with fail
          go_ret
          exact ⟨by rw [HAZ.out]; rfl, HF3.out⟩
        · subst h
          go_wp2_with fail
          go_ret
          exact ⟨by rw [HAZ.out]; rfl, HF3.out⟩
        · subst h
          go_wp2_with fail
          go_ret
          exact ⟨by rw [HAZ.out]; rfl, HF3.out⟩
        · subst h
          go_wp2_with fail
          go_ret
          exact ⟨by rw [HAZ.out]; rfl, HF3.out⟩
end Go.Proofs.YtdcdegeeaakekacDoor
