/- The check: the cases of a match. -/
import Derived.Test.YtmjpfiecgkoaeaaC5
namespace Go.Proofs.Ytmjpfiecgkoaeaa
open Go.RowKit Go.Maps Go.WideMaps

theorem names_A {B A : Nat} {v : Value} {l : List ByteArray} (hA : B ≤ A) : ∀ w w', Names B w v l → Fr (· = A) w w' → Names B w' v l := by
  intro w w' h hfr
  have hsz := hfr.size
  refine ⟨?_, h.2⟩
  obtain ⟨a, cap, h1, h2, h3, h4⟩ := h.1
  refine ⟨a, cap, h1, h2, h3, fun hn => ?_⟩
  obtain ⟨g, o, h5, h6, h7, h8⟩ := h4 hn
  exact ⟨g, o, h5, h6, by omega, fun i hi => by rw [(hfr.old (B := g + 1) (by omega) (fun i hi e => by have e : i = A := e; omega)).cell (a := ⟨g, o + i, none⟩) (by simp)]; exact h8 i hi⟩

theorem chkCases_step {α : Type} (F : Pu.Cnt → α → Nat → Int) (c : Pu.Cnt) (d : Nat) (l : List (Int × List ByteArray × α)) (i : Nat) (h : i < l.length) : Pu.chkCases F c d (l.take i) (l.drop i) =
    if Pu.caseOwn (l.take i) l[i] = 0 then (if F (Pu.with' c l[i].2.1) l[i].2.2 d = 0 then Pu.chkCases F c d (l.take (i + 1)) (l.drop (i + 1)) else F (Pu.with' c l[i].2.1) l[i].2.2 d) else Pu.caseOwn (l.take i) l[i] := by
  rw [List.drop_eq_getElem_cons h, List.take_succ_eq_append_getElem h]
  rfl

set_option maxHeartbeats 4000000 in
theorem cases_any (k : Nat) (hT : TermC k) (B P Pm A K : Nat) (w : World) (fns : ByteArray → Option Int) (c : Pu.Cnt) (d : Nat) (v : Value) (acs : List Value) (l : List (Int × List ByteArray × Pu.TT k)) (hr : Row B w v l.length acs) (he : Each 9 (RC (RT k B w) B w) acs l)
    (hs : CkS B P Pm A K w fns c) (hB : B ≤ w.heap.size) (hd : d ≤ 25)
    (hc : ∀ x, c x + (l.map fun c => 1 + c.2.1.length + Pu.wt k c.2.2).sum ≤ 1099511627776) (hK : K + 2 * (l.map fun c => 1 + c.2.1.length + Pu.wt k c.2.2).sum ≤ 1099511627776) :
    Calls Try.prog 58 #[Ck P Pm A, v, .int .i64 d] w fun e w' => e = .returned (.int .i64 (Pu.cases' (Pu.term fns k) c d l)) ∧ CkS B P Pm A (K + 2 * (l.map fun c => 1 + c.2.1.length + Pu.wt k c.2.2).sum) w' fns c ∧ Fr (· = A) w w' := by
  obtain ⟨a0, cp0, rfl, hcp1, hcp2⟩ := hr.form
  unfold maxLen at hcp2
  have HR := hide hr
  have HE := hide he
  have HS := hide hs
  have HC := hide hc
  have HT := hide hT
  have hAl := hs.a.lt
  have hBA := hs.hA
  have hmf : ∀ (fn : Fn) (first cap : Array Value) (w : World), (Instr.makeFunc fn first cap).run Try.prog w = .ok (.func fn first cap) w := fun _ _ _ _ => rfl
  clear hr he hs hc hT
  show Calls Try.prog 58 #[.agg #[.func (.func 49) #[] #[.pointer (some ⟨P, 0, none⟩)], .map (some Pm), .map (some A)], .slice a0 l.length cp0, .int .i64 d] w _
  by_cases h1 : l.length < 1
  · have h1' : (l.length : Int) < 1 := by omega
    have hv : Pu.cases' (Pu.term fns k) c d l = 5 := by unfold Pu.cases'; rw [if_pos (.inl h1)]
    rw [hv]
    go_enter Try.func58, Try.ntmps58
    go_wp2_with fail
    go_ret
    exact ⟨rfl, (HS.out.no ((Fr.refl No w).alloc _)).mono (by omega), (Fr.refl _ w).alloc _⟩
  by_cases h5 : 5 < l.length
  · have h1' : ¬ (l.length : Int) < 1 := by omega
    have h5' : 5 < (l.length : Int) := by omega
    have hv : Pu.cases' (Pu.term fns k) c d l = 5 := by unfold Pu.cases'; rw [if_pos (.inr h5)]
    rw [hv]
    go_enter Try.func58, Try.ntmps58
    go_wp2_with fail
    go_ret
    exact ⟨rfl, (HS.out.no ((Fr.refl No w).alloc _)).mono (by omega), (Fr.refl _ w).alloc _⟩
  have h1' : ¬ (l.length : Int) < 1 := by omega
  have h5' : ¬ 5 < (l.length : Int) := by omega
  have hv : Pu.cases' (Pu.term fns k) c d l = Pu.chkCases (Pu.term fns k) c d [] l := by unfold Pu.cases'; rw [if_neg (by omega)]
  have HV := hide hv
  clear hv
  go_enter Try.func58, Try.ntmps58
  go_wp2_with fail
  go_loopw [21] (fun q wr => ∃ i : Nat, i ≤ l.length ∧ q = .int .i64 i ∧ Fr (· = A) w wr ∧ CkS B P Pm A (K + 2 * sumW (fun c => 1 + c.2.1.length + Pu.wt k c.2.2) l i) wr fns c ∧ wr.heap[w.heap.size]? = some (.cells (CkA P Pm A) 67 (0, 0)) ∧
    Pu.chkCases (Pu.term fns k) c d [] l = Pu.chkCases (Pu.term fns k) c d (l.take i) (l.drop i)) (fun q _ => l.length - (intOf q).toNat)
  case atStart => exact ⟨0, Nat.zero_le _, rfl, (Fr.refl _ w).alloc _, HS.out.no ((Fr.refl No w).alloc _), heap_alloc_new _ _, rfl⟩
  case round =>
    obtain ⟨i, hi, rfl, hf, hcs, hbx, hch⟩ := hrel
    have hbs : w.heap.size < wr.heap.size := lt_of_heap hbx
    by_cases hlt : i < l.length
    · have ho : Old B w wr := hf.old hB (fun i hi e => by have e : i = A := e; omega)
      have hszw := hf.size
      obtain ⟨g, o, cap, ag, an, ac, kd', n', x', y', b0, n0, e0, b1, n1, e1, b2, n2, e2, hav, hcap, hg, hgw, hnm, han, hrt, hcell⟩ := cases_at HR.out HE.out i hlt
      injection hav with hav1 _ hav2
      subst hav1 hav2
      have hcw : ∀ j, j < 9 → wr.cell? ⟨g, o + i * 9 + j, none⟩ = [Value.int .i64 l[i].1, .slice ag an ac, .int .i64 kd', .int .i64 n', .string x', .string y', .slice b0 n0 e0, .slice b1 n1 e1, .slice b2 n2 e2][j]? := fun j hj => by
        rw [ho.cell (a := ⟨g, o + i * 9 + j, none⟩) hg]; exact hcell j hj
      have q0 : wr.cell? ⟨g, o + i * 9, none⟩ = some (.int .i64 l[i].1) := hcw 0 (by omega)
      have q1 := hcw 1 (by omega)
      have q2 := hcw 2 (by omega)
      have q3 := hcw 3 (by omega)
      have q4 := hcw 4 (by omega)
      have q5 := hcw 5 (by omega)
      have q6 := hcw 6 (by omega)
      have q7 := hcw 7 (by omega)
      have q8 := hcw 8 (by omega)
      have hgl : g < wr.heap.size := by omega
      have hss := sumW_succ (fun c : Int × List ByteArray × Pu.TT k => 1 + c.2.1.length + Pu.wt k c.2.2) l i hlt
      have hsl := sumW_le (fun c : Int × List ByteArray × Pu.TT k => 1 + c.2.1.length + Pu.wt k c.2.2) l (i + 1)
      have hst := chkCases_step (Pu.term fns k) c d l i hlt
      obtain ⟨cse, hcse⟩ : ∃ cse, cse = l[i] := ⟨_, rfl⟩
      rw [← hcse] at hss hst hnm hrt han q0
      subst han
      -- the worlds behind the case's variable
      obtain ⟨W1, hW1⟩ : ∃ W1, W1 = wr.alloc (.cells #[.int .i64 cse.1, .slice ag cse.2.1.length ac, .int .i64 kd', .int .i64 n', .string x', .string y', .slice b0 n0 e0, .slice b1 n1 e1, .slice b2 n2 e2] 48) := ⟨_, rfl⟩
      have fW1 : Fr No wr W1 := by rw [hW1]; exact (Fr.refl No wr).alloc _
      have hcb : W1.heap[wr.heap.size]? = some (.cells #[.int .i64 cse.1, .slice ag cse.2.1.length ac, .int .i64 kd', .int .i64 n', .string x', .string y', .slice b0 n0 e0, .slice b1 n1 e1, .slice b2 n2 e2] 48 (0, 0)) := by rw [hW1]; exact heap_alloc_new _ _
      have oW1 : Old B w W1 := ho.trans (fW1.old (by omega) (fun _ _ e => e))
      have sW1 : w.heap.size ≤ W1.heap.size := Nat.le_trans hszw fW1.size
      have CT := hide (taken_any k B W1 (some ⟨g, o, none⟩) cp0 i acs l (HR.out.old oW1 sW1) (cases_old HE.out oW1 sW1) (by omega) wr.heap.size cse.1 _ _ _ _ _ _ _ _ hcb)
      have CU : Hid (∀ W, Fr No wr W → Calls Try.prog 51 #[Ck P Pm A, .slice ag cse.2.1.length ac] W fun e w' => e = .returned (.bool (Pu.unlike cse.2.1)) ∧ Fr No W w') := fun W hW =>
        unlike_any P Pm A B _ _ W (hnm.kept (ho.trans (hW.old (by omega) (fun _ _ e => e))) (Nat.le_refl _) (Nat.le_trans hszw hW.size)) (fr_heap hcs.p hW (fun e => e))
      have CN : Hid (∀ W, Fr No wr W → Calls Try.prog 40 #[Ck P Pm A, .slice ag cse.2.1.length ac, .agg #[.int .i64 kd', .int .i64 n', .string x', .string y', .slice b0 n0 e0, .slice b1 n1 e1, .slice b2 n2 e2], .int .i64 d] W fun e w' => e = .returned (.int .i64 (Pu.term fns k (Pu.with' c cse.2.1) cse.2.2 d)) ∧
          CkS B P Pm A (K + 2 * sumW (fun c => 1 + c.2.1.length + Pu.wt k c.2.2) l (i + 1)) w' fns c ∧ Fr (· = A) w w' ∧ w'.heap[w.heap.size]? = some (.cells (CkA P Pm A) 67 (0, 0))) := by
        intro W hW
        have oW : Old B w W := ho.trans (hW.old (by omega) (fun _ _ e => e))
        have sW : w.heap.size ≤ W.heap.size := Nat.le_trans hszw hW.size
        refine (under_any k HT.out B B P Pm A (K + 2 * sumW (fun c => 1 + c.2.1.length + Pu.wt k c.2.2) l i) W fns c d _ cse.2.2 _ cse.2.1 (hnm.kept oW (Nat.le_refl _) sW) (names_A hBA) (hrt.old oW sW) (hcs.no hW) (by omega) hd (by omega) (fun x => by have := HC.out x; omega) (by omega)).mono ?_
        rintro e w' ⟨he, h1, h2⟩
        exact ⟨he, h1.mono (by omega), (hf.no hW).trans h2, fr_heap (fr_heap hbx hW (fun e => e)) h2 (by show ¬ w.heap.size = A; omega)⟩
      have HST := hide hst
      have HCH := hide hch
      have HF := hide hf
      have HCS := hide hcs
      have HBX := hide hbx
      have HCB := hide hcb
      have FW1 := hide fW1
      have hvl : cse.2.1.length ≤ ac := by obtain ⟨_, _, h1, h2, _⟩ := hnm.1.form; injection h1 with _ _ h1; omega
      have hac : ac ≤ 9223372036854775807 := by obtain ⟨_, _, h1, _, h2⟩ := hnm.1.form; injection h1 with _ _ h1; unfold maxLen at h2; omega
      have i1 : (i : Int) < (l.length : Int) := by omega
      have i0 : (0 : Int) ≤ (i : Int) := by omega
      rw [hW1] at CT
      clear hcw hcell hrt hnm hss hsl hst hch hf hcs hbx hcb oW1 sW1 ho hcse fW1
      go_wp2_with fail
      refine CT.out.mono ?_
      clear CT
      rintro e w1 ⟨rfl, hf1⟩
      rw [hW1] at FW1 HCB
      have F1 : Fr No wr w1 := FW1.out.trans hf1
      have cb1 := fr_heap HCB.out hf1 (fun e => e)
      have bk1 := fr_heap HBX.out F1 (fun e => e)
      have bc := cell_of_heap cb1
      have bk := cell_of_heap bk1
      have HF1 := hide F1
      have CB1 := hide cb1
      have BK1 := hide bk1
      clear hf1 F1 cb1 bk1 hmf
      obtain ⟨tb, htb⟩ : ∃ tb, Pu.taken (l.take i) cse.1 = tb := ⟨_, rfl⟩
      rw [htb]
      have HTB := hide htb
      clear htb
      go_wp2_with fail
      refine (isTag_any _ _).mono ?_
      obtain ⟨ib, hib⟩ : ∃ ib, Pu.isTag cse.1 = ib := ⟨_, rfl⟩
      rw [hib]
      have HIB := hide hib
      clear hib
      rintro e w2 ⟨rfl, rfl⟩
      cases ib with
      | false =>
        go_wp2_with fail
        go_ret
        have hv : Pu.cases' (Pu.term fns k) c d l = 3 := by
          rw [HV.out, HCH.out, HST.out]
          have : Pu.caseOwn (l.take i) cse = 3 := by unfold Pu.caseOwn; rw [HIB.out, if_pos rfl]
          rw [this]; rfl
        rw [hv]
        exact ⟨rfl, (HCS.out.no HF1.out).mono (by have := sumW_le (fun c : Int × List ByteArray × Pu.TT k => 1 + c.2.1.length + Pu.wt k c.2.2) l i; omega), HF.out.no HF1.out⟩
      | true =>
        cases tb with
        | true =>
          go_wp2_with fail
          go_ret
          have hv : Pu.cases' (Pu.term fns k) c d l = 7 := by
            rw [HV.out, HCH.out, HST.out]
            have : Pu.caseOwn (l.take i) cse = 7 := by unfold Pu.caseOwn; rw [HIB.out, HTB.out, if_neg (by decide), if_pos (.inl rfl)]
            rw [this]; rfl
          rw [hv]
          exact ⟨rfl, (HCS.out.no HF1.out).mono (by have := sumW_le (fun c : Int × List ByteArray × Pu.TT k => 1 + c.2.1.length + Pu.wt k c.2.2) l i; omega), HF.out.no HF1.out⟩
        | false =>
          go_wp2_with fail
          refine (CU.out _ HF1.out).mono ?_
          obtain ⟨ub, hub⟩ : ∃ ub, Pu.unlike cse.2.1 = ub := ⟨_, rfl⟩
          rw [hub]
          have HUB := hide hub
          clear hub
          rintro e w3 ⟨rfl, hf3⟩
          clear bc bk
          have bc := cell_of_heap (fr_heap CB1.out hf3 (fun e => e))
          have bk := cell_of_heap (fr_heap BK1.out hf3 (fun e => e))
          have HF3 := hide (HF1.out.trans hf3)
          clear hf3
          cases ub with
          | false =>
            go_wp2_with fail
            go_ret
            have hv : Pu.cases' (Pu.term fns k) c d l = 7 := by
              rw [HV.out, HCH.out, HST.out]
              have : Pu.caseOwn (l.take i) cse = 7 := by unfold Pu.caseOwn; rw [HIB.out, HUB.out, if_neg (by decide), if_pos (.inr rfl)]
              rw [this]; rfl
            rw [hv]
            exact ⟨rfl, (HCS.out.no HF3.out).mono (by have := sumW_le (fun c : Int × List ByteArray × Pu.TT k => 1 + c.2.1.length + Pu.wt k c.2.2) l i; omega), HF.out.no HF3.out⟩
          | true =>
            by_cases h6 : 6 < cse.2.1.length
            · have h6' : 6 < (cse.2.1.length : Int) := by omega
              go_wp2_with fail
              go_ret
              have hv : Pu.cases' (Pu.term fns k) c d l = 5 := by
                rw [HV.out, HCH.out, HST.out]
                have : Pu.caseOwn (l.take i) cse = 5 := by unfold Pu.caseOwn; rw [HIB.out, HUB.out, HTB.out, if_neg (by decide), if_neg (by decide), if_pos h6]
                rw [this]; rfl
              rw [hv]
              exact ⟨rfl, (HCS.out.no HF3.out).mono (by have := sumW_le (fun c : Int × List ByteArray × Pu.TT k => 1 + c.2.1.length + Pu.wt k c.2.2) l i; omega), HF.out.no HF3.out⟩
            · have h6' : ¬ 6 < (cse.2.1.length : Int) := by omega
              have hown : Pu.caseOwn (l.take i) cse = 0 := by unfold Pu.caseOwn; rw [HIB.out, HUB.out, HTB.out, if_neg (by decide), if_neg (by decide), if_neg h6]
              have HO := hide hown
              clear hown
              go_wp2_with fail
              refine (CN.out _ HF3.out).mono ?_
              obtain ⟨er, her⟩ : ∃ er, Pu.term fns k (Pu.with' c cse.2.1) cse.2.2 d = er := ⟨_, rfl⟩
              rw [her]
              have HER := hide her
              clear her
              rintro e w4 ⟨rfl, hs4, hf4, hb4⟩
              have HS4 := hide hs4
              have HF4 := hide hf4
              have HB4 := hide hb4
              clear hs4 hf4 hb4 bc bk
              by_cases h0 : er = 0
              · subst h0
                go_wp2_with fail
                go_roundw
                case rel => exact ⟨i + 1, by omega, by go_num, HF4.out, HS4.out, HB4.out, by rw [HCH.out, HST.out, HO.out, if_pos rfl, HER.out, if_pos rfl]⟩
                case measure => simp [intOf]; omega
              · go_wp2_with fail
                go_ret
                have hv : Pu.cases' (Pu.term fns k) c d l = er := by rw [HV.out, HCH.out, HST.out, HO.out, if_pos rfl, HER.out, if_neg h0]
                rw [hv]
                exact ⟨rfl, HS4.out.mono (by have := sumW_le (fun c : Int × List ByteArray × Pu.TT k => 1 + c.2.1.length + Pu.wt k c.2.2) l (i + 1); omega), HF4.out⟩
    · have hil : i = l.length := by omega
      subst hil
      rw [sumW_all] at hcs
      have HF := hide hf
      have HCS := hide hcs
      have HCH := hide hch
      clear hf hcs hbx hch
      go_wp2_with fail
      go_ret
      have hv : Pu.cases' (Pu.term fns k) c d l = 0 := by rw [HV.out, HCH.out, List.drop_length]; rfl
      rw [hv]
      exact ⟨rfl, HCS.out, HF.out⟩
end Go.Proofs.Ytmjpfiecgkoaeaa
