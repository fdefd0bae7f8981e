/- 'match', walked. -/
import Derived.Test.YtdgmengfdfkgaabDoorE9
namespace Go.Proofs.YtdgmengfdfkgaabDoor
open Go.RowKit Go.Maps Go.WideMaps

section
variable {α : Type} {E : Pu.Env → α → Nat → Pu.Out} {env : Pu.Env} {cases : List (Int × List ByteArray × α)} {y : Pu.V} {c : Nat}
theorem evMatch_num (h : y.con = false) : Pu.evMatch E env cases [y] c = ⟨Pu.V.zero, 10, c⟩ := by simp [Pu.evMatch, h]
theorem evMatch_none (h : y.con = true) (hf : cases.find? (fun q => decide (q.1 = y.n)) = none) : Pu.evMatch E env cases [y] c = ⟨Pu.V.zero, 11, c⟩ := by simp only [Pu.evMatch, h, hf, if_true]
theorem evMatch_other (h : y.con = true) {q : Int × List ByteArray × α} (hf : cases.find? (fun q => decide (q.1 = y.n)) = some q) (hl : ¬ q.2.1.length = y.kids.length) : Pu.evMatch E env cases [y] c = ⟨Pu.V.zero, 11, c⟩ := by simp only [Pu.evMatch, h, hf, if_true, if_neg hl]
theorem evMatch_some (h : y.con = true) {q : Int × List ByteArray × α} (hf : cases.find? (fun q => decide (q.1 = y.n)) = some q) (hl : q.2.1.length = y.kids.length) : Pu.evMatch E env cases [y] c = E (env.bind q.2.1 y.kids) q.2.2 c := by simp only [Pu.evMatch, h, hf, if_true, if_pos hl]
end

set_option maxHeartbeats 2000000 in
theorem match_any (K k B rb F d : Nat) (fv : Value) (l : List (Pu.Fn K)) (call : ByteArray → List Pu.V → Nat → Pu.Out) (hT : TermC K k B rb F d fv l call) (hBr : B ≤ rb)
    (S : Nat → Prop) (m : Nat) (w : World) (vv cv : Value) (vs : List Pu.V) (ccs : List Value) (cases : List (Int × List ByteArray × Pu.TT k)) (kv : Value) (env : Pu.Env) (c : Nat) (hS : Good S rb B w) (hv : Vals S w vv vs) (hr : Row B w cv cases.length ccs) (he : Each 9 (RC (RT k B w) B w) ccs cases) (hk : KN S m w kv env) (hst : St rb fv F d c w) (hl : Fns K B w fv l) (hw : ∀ a ∈ cases, Pu.wt k a.2.2 ≤ 1048576) :
    Calls Tryd.prog 72 #[.pointer (some ⟨rb, 0, none⟩), vv, cv, kv] w fun e w' => Ans S w' e (Pu.evMatch (Pu.ev call k) env cases vs c).v (Pu.evMatch (Pu.ev call k) env cases vs c).e ∧ Fr (· = rb) w w' ∧ St rb fv F d (Pu.evMatch (Pu.ev call k) env cases vs c).c w' := by
  have hrb := lt_of_heap hst.1
  have z0 := heap_alloc_new w (.cells #[.bool false, .int .i64 0, .slice none 0 0] 29)
  have Z0 := hide z0
  clear z0
  obtain ⟨ca, cc, rfl, hcc1, hcc2⟩ := hr.form
  unfold maxLen at hcc2
  by_cases h1 : vs.length = 1
  rotate_left
  · have e : Pu.evMatch (Pu.ev call k) env cases vs c = ⟨Pu.V.zero, 5, c⟩ := by
      unfold Pu.evMatch
      split
      · exact absurd rfl h1
      · rfl
    rw [e]
    clear e
    obtain ⟨aa, ac, rfl, _⟩ := hv.form
    have h1' : ((vs.length : Int) != 1) = true := by simp; omega
    have HST := hide hst
    clear hv h1 hr he hk hS hst hl hT hw
    go_enter Tryd.func72, Tryd.ntmps72
    go_wp2_with fail
    refine bodyPost_ret (ret2 rfl _ _ w.heap.size (.bool false) (.int .i64 0) (.slice none 0 0) (.int .i64 5) (0, 0) rfl rfl Z0.out) rfl ⟨Ans.told rfl rfl, (Fr.refl _ w).alloc _, HST.out.fr ((Fr.refl No w).alloc _) (fun e => e)⟩
  obtain ⟨y, rfl⟩ : ∃ y, vs = [y] := by
    match vs, h1 with
    | [y], _ => exact ⟨y, rfl⟩
  obtain ⟨gy, oy, capy, ka, km, kc, rfl, hcy1, hcy2, hSy, hgy, hkm, hay, q0, q1, q2⟩ := hv.at 0 (by simp)
  simp only [List.getElem_cons_zero, Nat.zero_mul, Nat.add_zero, List.length_cons, List.length_nil, Nat.zero_add] at hcy1 hkm hay q0 q1 q2 ⊢
  unfold maxLen at hcy2
  have hkids := hay.kids
  obtain ⟨W1, hW1⟩ : ∃ W1, W1 = (w.alloc (.cells #[.bool false, .int .i64 0, .slice none 0 0] 29)).alloc (.cells #[.bool y.con, .int .i64 y.n, .slice ka km kc] 29) := ⟨_, rfl⟩
  have f1 : Fr No w W1 := by rw [hW1]; exact ((Fr.refl No w).alloc _).alloc _
  have y0 : W1.heap[w.heap.size]? = some (.cells #[.bool false, .int .i64 0, .slice none 0 0] 29 (0, 0)) := by rw [hW1]; exact fr_heap (heap_alloc_new w _) ((Fr.refl No _).alloc _) (fun e => e)
  have y1 : W1.heap[w.heap.size + 1]? = some (.cells #[.bool y.con, .int .i64 y.n, .slice ka km kc] 29 (0, 0)) := by
    have h := heap_alloc_new (w.alloc (.cells #[.bool false, .int .i64 0, .slice none 0 0] 29)) (.cells #[.bool y.con, .int .i64 y.n, .slice ka km kc] 29)
    rw [World.size_alloc] at h
    rw [hW1]; exact h
  have HW1 := hide hW1
  have F1 := hide f1
  have Y0 := hide y0
  have Y1 := hide y1
  clear hW1 f1 y0 y1 hv h1
  by_cases hyc : y.con = true
  rotate_left
  · have hyc : y.con = false := by simpa using hyc
    rw [evMatch_num hyc]
    rw [hyc] at q0 HW1
    have HST := hide hst
    clear hr he hk hS hst hl hT hw hay hkids hyc hkm
    go_enter Tryd.func72, Tryd.ntmps72
    go_wp2_with fail
    rw [← HW1.out]
    refine bodyPost_ret (ret2 rfl _ _ w.heap.size (.bool false) (.int .i64 0) (.slice none 0 0) (.int .i64 10) (0, 0) rfl rfl Y0.out) rfl ⟨Ans.told rfl rfl, F1.out.mono (fun _ _ e => e.elim), HST.out.fr F1.out (fun e => e)⟩
  rw [hyc] at q0 HW1 Y1
  have HYC := hide hyc
  clear hyc
  have o1 : Old B w W1 := F1.out.old (by omega) (fun _ _ e => e)
  have CI : Hid (Calls Tryd.prog 85 #[.slice ca cases.length cc, .func (.func 86) #[] #[.pointer (some ⟨w.heap.size + 1, 0, none⟩)]] W1 fun e w' => e = .returned (.int .i64 (placeInt (caseAt cases y.n))) ∧ Fr No W1 w') :=
    indexCases_any k B _ ccs cases (w.heap.size + 1) y.n (.bool true) (.slice ka km kc) W1 (hr.old o1 F1.out.size) (cases_old he o1 F1.out.size) Y1.out
  have hmf : ∀ (fn : Fn) (first cap : Array Value) (w : World), (Instr.makeFunc fn first cap).run Tryd.prog w = .ok (.func fn first cap) w := fun _ _ _ _ => rfl
  have HST := hide hst
  have HS := hide hS
  have HR := hide hr
  have HE := hide he
  have HK := hide hk
  have HL := hide hl
  have HT := hide hT
  have HW := hide hw
  have HKIDS := hide hkids
  have HKM := hide hkm
  clear o1 hr he hk hS hst hl hT hw hay hkids hkm
  cases hca : caseAt cases y.n with
  | none =>
    rw [hca] at CI
    rw [evMatch_none HYC.out (case_none hca)]
    simp only [placeInt] at CI ⊢
    clear hca
    go_enter Tryd.func72, Tryd.ntmps72
    go_wp2_with fail
    rw [← HW1.out]
    refine CI.out.mono ?_
    rintro e w2 ⟨rfl, hf2⟩
    have g0 := fr_heap Y0.out hf2 (fun e => e)
    have G0 := hide g0
    have F2 := hide (F1.out.trans hf2)
    have r0 := cell_of_heap g0
    have rz := frozen_of_heap g0
    have hl0 := lt_of_heap g0
    clear CI hf2 g0 q0 q1 q2
    go_wp2_with fail
    go_quiet (fail)
    go_wp2_with fail
    have g2 := fr_heap G0.out ((Fr.refl No w2).drewN nq) (fun e => e)
    obtain ⟨s1, s2⟩ := set3 g2 (.bool false) (.int .i64 0) (.slice none 0 0)
    have f2 : Fr No w (w2.drewN nq) := F2.out.drewN nq
    refine bodyPost_ret (ret2 rfl _ _ w.heap.size (.bool false) (.int .i64 0) (.slice none 0 0) (.int .i64 11) (0, 0) rfl rfl s1) rfl ⟨Ans.told rfl rfl, ?_, ?_⟩
    · exact (f2.mono (fun _ _ e => e.elim)).trans' s2 (fun j hj e => by have e : j = w.heap.size := e; omega)
    · exact (HST.out.fr f2 (fun e => e)).fr s2 (fun e => by have e : rb = w.heap.size := e; omega)
  | some i =>
    obtain ⟨hi, hfind⟩ := case_at hca
    obtain ⟨g, o, cap, ag, an, ac, kd, n, x1, y1, b0, m0, e0, b1, m1, e1, b2, m2, e2, hav, hcap, hgB, hgw, hnm, han, hrt, hcell⟩ := cases_at HR.out HE.out i hi
    injection hav with hav1 _ hav2
    subst hav1 hav2
    rw [hca] at CI
    simp only [placeInt] at CI
    have hwi := HW.out _ (List.getElem_mem hi)
    have i1 : (i : Int) < (cases.length : Int) := by omega
    have i0 : (0 : Int) ≤ (i : Int) := by omega
    have hac : an ≤ ac ∧ ac ≤ 2 ^ 63 - 1 := by obtain ⟨_, _, h1, h2, h3⟩ := hnm.1.form; injection h1 with _ h1 h4; unfold maxLen at h3; omega
    obtain ⟨hac1, hac2⟩ := hac
    have SA0 : Hid (∀ W, Fr (· = rb) w W → (∀ j, j < 9 → W.cell? ⟨g, o + i * 9 + j, none⟩ = [Value.int .i64 cases[i].1, .slice ag an ac, .int .i64 kd, .int .i64 n, .string x1, .string y1, .slice b0 m0 e0, .slice b1 m1 e1, .slice b2 m2 e2][j]?)) := fun W hW j hj => by
      rw [(old_rb hW hBr hrb).cell (a := ⟨g, o + i * 9 + j, none⟩) hgB]; exact hcell j hj
    have HNM := hide hnm
    have HRT := hide hrt
    have HAN := hide han
    clear hcell hrt hnm hca
    by_cases hlen : cases[i].2.1.length = y.kids.length
    rotate_left
    · have hlen' : ((an : Int) != (km : Int)) = true := by have h1 := HKM.out; simp; omega
      rw [evMatch_other HYC.out hfind hlen]
      clear hlen hfind han
      go_enter Tryd.func72, Tryd.ntmps72
      go_wp2_with fail
      rw [← HW1.out]
      refine CI.out.mono ?_
      rintro e w2 ⟨rfl, hf2⟩
      have g0 := fr_heap Y0.out hf2 (fun e => e)
      have g1 := fr_heap Y1.out hf2 (fun e => e)
      have G0 := hide g0
      have F2 := hide (F1.out.trans hf2)
      have r0 := cell_of_heap g0
      have rz := frozen_of_heap g0
      have hl0 := lt_of_heap g0
      have r1 := cell_of_heap g1 2
      have hl1 := lt_of_heap g1
      have p1 := SA0.out w2 (F2.out.mono (fun _ _ e => e.elim)) 1 (by omega)
      have hgl : g < w2.heap.size := Nat.lt_of_lt_of_le hgw F2.out.size
      clear CI hf2 g0 g1 q0 q1 q2
      go_wp2_with fail
      go_quiet (fail)
      go_wp2_with fail
      have g2 := fr_heap G0.out ((Fr.refl No w2).drewN nq) (fun e => e)
      obtain ⟨s1, s2⟩ := set3 g2 (.bool false) (.int .i64 0) (.slice none 0 0)
      have f2 : Fr No w (w2.drewN nq) := F2.out.drewN nq
      refine bodyPost_ret (ret2 rfl _ _ w.heap.size (.bool false) (.int .i64 0) (.slice none 0 0) (.int .i64 11) (0, 0) rfl rfl s1) rfl ⟨Ans.told rfl rfl, ?_, ?_⟩
      · exact (f2.mono (fun _ _ e => e.elim)).trans' s2 (fun j hj e => by have e : j = w.heap.size := e; omega)
      · exact (HST.out.fr f2 (fun e => e)).fr s2 (fun e => by have e : rb = w.heap.size := e; omega)
    · rw [evMatch_some HYC.out hfind hlen]
      have hank : an = km := by have h1 := HKM.out; omega
      subst hank
      obtain ⟨q, hq⟩ : ∃ q, q = cases[i] := ⟨_, rfl⟩
      rw [← hq] at hlen HNM HAN HRT SA0 hwi ⊢
      obtain ⟨ob, hob⟩ : ∃ ob, ob = Pu.ev call k (env.bind q.2.1 y.kids) q.2.2 c := ⟨_, rfl⟩
      rw [← hob]
      have HOB := hide hob
      have HLEN := hide hlen
      clear hlen hfind han hq hob
      go_enter Tryd.func72, Tryd.ntmps72
      go_wp2_with fail
      rw [← HW1.out]
      refine CI.out.mono ?_
      rintro e w2 ⟨rfl, hf2⟩
      have g0 := fr_heap Y0.out hf2 (fun e => e)
      have g1 := fr_heap Y1.out hf2 (fun e => e)
      have f2 := F1.out.trans hf2
      have r1 := cell_of_heap g1 2
      have hl0 := lt_of_heap g0
      have hl1 := lt_of_heap g1
      have p1 := SA0.out w2 (f2.mono (fun _ _ e => e.elim)) 1 (by omega)
      have hgl : g < w2.heap.size := Nat.lt_of_lt_of_le hgw f2.size
      have G0 := hide g0
      have G1 := hide g1
      have F2 := hide f2
      clear CI hf2 g0 g1 q0 q1 q2 f2
      go_wp2_with fail
      go_quiet (fail)
      go_wp2_with fail
      clear r1 p1
      obtain ⟨w3, hw3⟩ : ∃ w3, w3 = w2.drewN nq := ⟨_, rfl⟩
      rw [← hw3]
      have f3 : Fr No w w3 := by rw [hw3]; exact F2.out.drewN nq
      have g0 : w3.heap[w.heap.size]? = some (.cells #[.bool false, .int .i64 0, .slice none 0 0] 29 (0, 0)) := by rw [hw3]; exact G0.out
      have g1 : w3.heap[w.heap.size + 1]? = some (.cells #[.bool true, .int .i64 y.n, .slice ka an kc] 29 (0, 0)) := by rw [hw3]; exact G1.out
      have hgl3 : g < w3.heap.size := Nat.lt_of_lt_of_le hgw f3.size
      clear hw3 G0 G1 F2 hgl
      have f3' : Fr (· = rb) w w3 := f3.mono (fun _ _ e => e.elim)
      have SA : Hid (∀ W, Fr (· = rb) w3 W → (W.cell? ⟨w.heap.size + 1, 2, none⟩ = some (.slice ka an kc) ∧ W.cell? ⟨g, o + i * 9 + 1, none⟩ = some (.slice ag an ac) ∧ W.cell? ⟨g, o + i * 9 + 2, none⟩ = some (.int .i64 kd) ∧ W.cell? ⟨g, o + i * 9 + 3, none⟩ = some (.int .i64 n) ∧ W.cell? ⟨g, o + i * 9 + 4, none⟩ = some (.string x1) ∧ W.cell? ⟨g, o + i * 9 + 5, none⟩ = some (.string y1) ∧ W.cell? ⟨g, o + i * 9 + 6, none⟩ = some (.slice b0 m0 e0) ∧ W.cell? ⟨g, o + i * 9 + 7, none⟩ = some (.slice b1 m1 e1) ∧ W.cell? ⟨g, o + i * 9 + 8, none⟩ = some (.slice b2 m2 e2))) := fun W hW => by
        have hg := SA0.out W (f3'.trans hW)
        exact ⟨cell_of_heap (fr_heap g1 hW (fun e => by have e : w.heap.size + 1 = rb := e; omega)) 2, hg 1 (by omega), hg 2 (by omega), hg 3 (by omega), hg 4 (by omega), hg 5 (by omega), hg 6 (by omega), hg 7 (by omega), hg 8 (by omega)⟩
      have K3 : Hid (∀ (W : World) (u0 u1 u2 : Value), (W.cell? ⟨w.heap.size + 1, 2, none⟩ = some (.slice ka an kc) ∧ W.cell? ⟨g, o + i * 9 + 1, none⟩ = some (.slice ag an ac) ∧ W.cell? ⟨g, o + i * 9 + 2, none⟩ = some (.int .i64 kd) ∧ W.cell? ⟨g, o + i * 9 + 3, none⟩ = some (.int .i64 n) ∧ W.cell? ⟨g, o + i * 9 + 4, none⟩ = some (.string x1) ∧ W.cell? ⟨g, o + i * 9 + 5, none⟩ = some (.string y1) ∧ W.cell? ⟨g, o + i * 9 + 6, none⟩ = some (.slice b0 m0 e0) ∧ W.cell? ⟨g, o + i * 9 + 7, none⟩ = some (.slice b1 m1 e1) ∧ W.cell? ⟨g, o + i * 9 + 8, none⟩ = some (.slice b2 m2 e2)) → ((((W.setCell ⟨w.heap.size, 0, none⟩ u0).setCell ⟨w.heap.size, 1, none⟩ u1).setCell ⟨w.heap.size, 2, none⟩ u2).cell? ⟨w.heap.size + 1, 2, none⟩ = some (.slice ka an kc) ∧ (((W.setCell ⟨w.heap.size, 0, none⟩ u0).setCell ⟨w.heap.size, 1, none⟩ u1).setCell ⟨w.heap.size, 2, none⟩ u2).cell? ⟨g, o + i * 9 + 1, none⟩ = some (.slice ag an ac) ∧ (((W.setCell ⟨w.heap.size, 0, none⟩ u0).setCell ⟨w.heap.size, 1, none⟩ u1).setCell ⟨w.heap.size, 2, none⟩ u2).cell? ⟨g, o + i * 9 + 2, none⟩ = some (.int .i64 kd) ∧ (((W.setCell ⟨w.heap.size, 0, none⟩ u0).setCell ⟨w.heap.size, 1, none⟩ u1).setCell ⟨w.heap.size, 2, none⟩ u2).cell? ⟨g, o + i * 9 + 3, none⟩ = some (.int .i64 n) ∧ (((W.setCell ⟨w.heap.size, 0, none⟩ u0).setCell ⟨w.heap.size, 1, none⟩ u1).setCell ⟨w.heap.size, 2, none⟩ u2).cell? ⟨g, o + i * 9 + 4, none⟩ = some (.string x1) ∧ (((W.setCell ⟨w.heap.size, 0, none⟩ u0).setCell ⟨w.heap.size, 1, none⟩ u1).setCell ⟨w.heap.size, 2, none⟩ u2).cell? ⟨g, o + i * 9 + 5, none⟩ = some (.string y1) ∧ (((W.setCell ⟨w.heap.size, 0, none⟩ u0).setCell ⟨w.heap.size, 1, none⟩ u1).setCell ⟨w.heap.size, 2, none⟩ u2).cell? ⟨g, o + i * 9 + 6, none⟩ = some (.slice b0 m0 e0) ∧ (((W.setCell ⟨w.heap.size, 0, none⟩ u0).setCell ⟨w.heap.size, 1, none⟩ u1).setCell ⟨w.heap.size, 2, none⟩ u2).cell? ⟨g, o + i * 9 + 7, none⟩ = some (.slice b1 m1 e1) ∧ (((W.setCell ⟨w.heap.size, 0, none⟩ u0).setCell ⟨w.heap.size, 1, none⟩ u1).setCell ⟨w.heap.size, 2, none⟩ u2).cell? ⟨g, o + i * 9 + 8, none⟩ = some (.slice b2 m2 e2))) := fun W u0 u1 u2 ⟨h0, h1, h2, h3, h4, h5, h6, h7, h8⟩ =>
        ⟨(keep3 u0 u1 u2 (by omega)).trans h0, (keep3 u0 u1 u2 (by omega)).trans h1, (keep3 u0 u1 u2 (by omega)).trans h2, (keep3 u0 u1 u2 (by omega)).trans h3, (keep3 u0 u1 u2 (by omega)).trans h4, (keep3 u0 u1 u2 (by omega)).trans h5, (keep3 u0 u1 u2 (by omega)).trans h6, (keep3 u0 u1 u2 (by omega)).trans h7, (keep3 u0 u1 u2 (by omega)).trans h8⟩
      have gw3 : Good (But S w.heap.size) rb B w3 := HS.out.but f3.size (lt_of_heap g0) (by omega)
      have sb3 : Stays S (But S w.heap.size) w w3 := HS.out.staysBut f3' (Nat.le_refl _)
      have st3 : St rb fv F d c w3 := HST.out.fr f3 (fun e => e)
      have AW : Hid (∀ W, Fr No w3 W → Calls Tryd.prog 54 #[kv, .slice ag an ac, .slice ka an kc] W fun e w' => ∃ nb vb kb, e = .returned (.func (.func 73) #[] #[.pointer (some ⟨nb, 0, none⟩), .pointer (some ⟨vb, 0, none⟩), .pointer (some ⟨kb, 0, none⟩)]) ∧ Fr No w3 w' ∧ KN (But S w.heap.size) (m + 1) w' (.func (.func 73) #[] #[.pointer (some ⟨nb, 0, none⟩), .pointer (some ⟨vb, 0, none⟩), .pointer (some ⟨kb, 0, none⟩)]) (env.bind q.2.1 y.kids) ∧ (w'.cell? ⟨w.heap.size + 1, 2, none⟩ = some (.slice ka an kc) ∧ w'.cell? ⟨g, o + i * 9 + 1, none⟩ = some (.slice ag an ac) ∧ w'.cell? ⟨g, o + i * 9 + 2, none⟩ = some (.int .i64 kd) ∧ w'.cell? ⟨g, o + i * 9 + 3, none⟩ = some (.int .i64 n) ∧ w'.cell? ⟨g, o + i * 9 + 4, none⟩ = some (.string x1) ∧ w'.cell? ⟨g, o + i * 9 + 5, none⟩ = some (.string y1) ∧ w'.cell? ⟨g, o + i * 9 + 6, none⟩ = some (.slice b0 m0 e0) ∧ w'.cell? ⟨g, o + i * 9 + 7, none⟩ = some (.slice b1 m1 e1) ∧ w'.cell? ⟨g, o + i * 9 + 8, none⟩ = some (.slice b2 m2 e2))) := fun W hW => by
        refine (with_any (But S w.heap.size) m _ kv _ _ q.2.1 y.kids env (gw3.fr hW).up ((HK.out.kept sb3).kept (stays_no hW)) (((HNM.out.low HS.out).kept sb3).kept (stays_no hW)) ((HKIDS.out.kept sb3).kept (stays_no hW)) HLEN.out).mono ?_
        rintro e w' ⟨nb, vb, kb, he, h1, h2⟩
        exact ⟨nb, vb, kb, he, hW.trans h1, h2, SA.out w' ((hW.trans h1).mono (fun _ _ e => e.elim))⟩
      have AT : Hid (∀ W nb vb kb, Fr No w3 W → KN (But S w.heap.size) (m + 1) W (.func (.func 73) #[] #[.pointer (some ⟨nb, 0, none⟩), .pointer (some ⟨vb, 0, none⟩), .pointer (some ⟨kb, 0, none⟩)]) (env.bind q.2.1 y.kids) → Calls Tryd.prog 52 #[.pointer (some ⟨rb, 0, none⟩), .agg #[.int .i64 kd, .int .i64 n, .string x1, .string y1, .slice b0 m0 e0, .slice b1 m1 e1, .slice b2 m2 e2], (.func (.func 73) #[] #[.pointer (some ⟨nb, 0, none⟩), .pointer (some ⟨vb, 0, none⟩), .pointer (some ⟨kb, 0, none⟩)])] W fun e w' => ∃ p0 p1 p2, e = .returned (.tuple #[.agg #[.bool ob.v.con, .int .i64 ob.v.n, .slice p0 p1 p2], .int .i64 ob.e]) ∧ AV (But S w.heap.size) w' [.bool ob.v.con, .int .i64 ob.v.n, .slice p0 p1 p2] ob.v ∧ Fr (· = rb) w3 w' ∧ St rb fv F d ob.c w' ∧ (w'.cell? ⟨w.heap.size + 1, 2, none⟩ = some (.slice ka an kc) ∧ w'.cell? ⟨g, o + i * 9 + 1, none⟩ = some (.slice ag an ac) ∧ w'.cell? ⟨g, o + i * 9 + 2, none⟩ = some (.int .i64 kd) ∧ w'.cell? ⟨g, o + i * 9 + 3, none⟩ = some (.int .i64 n) ∧ w'.cell? ⟨g, o + i * 9 + 4, none⟩ = some (.string x1) ∧ w'.cell? ⟨g, o + i * 9 + 5, none⟩ = some (.string y1) ∧ w'.cell? ⟨g, o + i * 9 + 6, none⟩ = some (.slice b0 m0 e0) ∧ w'.cell? ⟨g, o + i * 9 + 7, none⟩ = some (.slice b1 m1 e1) ∧ w'.cell? ⟨g, o + i * 9 + 8, none⟩ = some (.slice b2 m2 e2)) ∧ w'.cell? ⟨w.heap.size, 0, none⟩ = some (.bool false) ∧ w'.cell? ⟨w.heap.size, 1, none⟩ = some (.int .i64 0) ∧ w'.cell? ⟨w.heap.size, 2, none⟩ = some (.slice none 0 0) ∧ (∀ o, w'.frozen? ⟨w.heap.size, o, none⟩ = false)) := fun W nb vb kb hW hKN => by
        rw [HOB.out]
        have hfW : Fr (· = rb) w W := f3'.no hW
        refine (HT.out (But S w.heap.size) (m + 1) W _ q.2.2 _ _ c (gw3.fr hW) (HRT.out.old (old_rb hfW hBr hrb) hfW.size) hKN (st3.fr hW (fun e => e)) (HL.out.old (old_rb hfW hBr hrb) hfW.size) hwi).mono ?_
        rintro e w' ⟨⟨cs, he, hav⟩, h1, h2⟩
        obtain ⟨p0, p1, p2, rfl⟩ := hav.tuple
        have f1 : Fr (· = rb) w3 w' := (hW.mono (fun _ _ e => e.elim)).trans h1
        have g1' := fr_heap g0 f1 (fun e => by have e : w.heap.size = rb := e; omega)
        exact ⟨p0, p1, p2, he, hav, f1, h2, SA.out w' f1, cell_of_heap g1' 0, cell_of_heap g1' 1, cell_of_heap g1' 2, frozen_of_heap g1'⟩
      have D0 : Fr No w3 w3.drew := (Fr.refl No w3).drew
      have HZ := hide (SA.out w3.drew (D0.mono (fun _ _ e => e.elim)))
      have hl3 := lt_of_heap g0
      have G0 := hide g0
      have F3 := hide f3'
      clear g0 g1 f3 f3' gw3 sb3 st3 HK HT HL HRT HNM HKIDS HS HST SA0 hl0 hl1
      go_region_held3 (fun w' : World => w'.cell? ⟨w.heap.size + 1, 2, none⟩ = some (.slice ka an kc) ∧ w'.cell? ⟨g, o + i * 9 + 1, none⟩ = some (.slice ag an ac) ∧ w'.cell? ⟨g, o + i * 9 + 2, none⟩ = some (.int .i64 kd) ∧ w'.cell? ⟨g, o + i * 9 + 3, none⟩ = some (.int .i64 n) ∧ w'.cell? ⟨g, o + i * 9 + 4, none⟩ = some (.string x1) ∧ w'.cell? ⟨g, o + i * 9 + 5, none⟩ = some (.string y1) ∧ w'.cell? ⟨g, o + i * 9 + 6, none⟩ = some (.slice b0 m0 e0) ∧ w'.cell? ⟨g, o + i * 9 + 7, none⟩ = some (.slice b1 m1 e1) ∧ w'.cell? ⟨g, o + i * 9 + 8, none⟩ = some (.slice b2 m2 e2)) (first | with_reducible assumption | with_reducible exact HZ.out | with_reducible exact K3.out _ _ _ _ (by with_reducible assumption))
        (first
          | (go_at_call 54; refine (AW.out _ ?_).mono ?_; (first | with_reducible assumption | exact D0); rintro e w4 ⟨nb, vb, kb, rfl, hf4, hk4, hz4⟩; have HF4 := hide hf4; have HK4 := hide hk4; clear hf4 hk4)
          | (go_at_call 52; refine (AT.out _ _ _ _ HF4.out HK4.out).mono ?_; rintro e w5 ⟨p0, p1, p2, rfl, hav5, hf5, hst5, hz5, r0, r1, r2, rz⟩; have HAV5 := hide hav5; have HF5 := hide hf5; have HST5 := hide hst5; clear hav5 hf5 hst5))
      have g5 := fr_heap G0.out HF5.out (fun e => by have e : w.heap.size = rb := e; omega)
      obtain ⟨s1, s2⟩ := set3 g5 (.bool ob.v.con) (.int .i64 ob.v.n) (.slice p0 p1 p2)
      clear r0 r1 r2 rz hz4 hz5 AW AT SA K3 HZ g5
      go_wp2_with fail
      refine bodyPost_ret (ret2 rfl _ _ w.heap.size (.bool ob.v.con) (.int .i64 ob.v.n) (.slice p0 p1 p2) (.int .i64 ob.e) (0, 0) rfl rfl s1) rfl ⟨⟨[.bool ob.v.con, .int .i64 ob.v.n, .slice p0 p1 p2], rfl, HAV5.out.shut s2⟩, ?_, ?_⟩
      · exact (F3.out.trans HF5.out).trans' s2 (fun j hj e => by have e : j = w.heap.size := e; omega)
      · exact HST5.out.fr s2 (fun e => by have e : rb = w.heap.size := e; omega)
end Go.Proofs.YtdgmengfdfkgaabDoor
