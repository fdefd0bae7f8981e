/- own: 'step' at a let of two terms. -/
import Derived.Test.YtomahbdidlglfacGreatDoorLe1
import Derived.Test.YtomahbdidlglfacGreatDoorOt7
import Derived.Deep.CutRange
import Derived.Test.YtomahbdidlglfacGreatDoorOt6Ot8Ot9Le0
namespace Go.Proofs.YtomahbdidlglfacGreatDoor
open Go.RowKit Go.Maps Go.WideMaps

set_option maxRecDepth 100000 in
set_option maxHeartbeats 2000000 in
theorem step_letD (Q : Nat) (hQ : Q ≤ 1073741824) (k : Nat) (nd : Pu.Node (Pu.TT k)) (hk : nd.kind = 6) (h2 : nd.args.length = 2) (hA : ∀ a, a ∈ nd.args → TermD Q k a) : StepD Q (k + 1) nd := by
  intro S w cs ov l hT hS hl hq
  obtain ⟨kd, n, x, y, a0, n0, c0, a1, n1, c1, a2, n2, c2, rfl⟩ := hT.form
  obtain ⟨oa, oc, rfl⟩ := hl.form
  have hkd := RTS.kn hT.rts
  have hkd6 : kd = 6 := hkd.trans hk
  subst hkd6
  obtain ⟨W0, hW0⟩ : ∃ W0, W0 = ((w.alloc (.cells #[.int .i64 6, .int .i64 n, .string x, .string y, .slice a0 n0 c0, .slice a1 n1 c1, .slice a2 n2 c2] 32)).alloc (.cells tz 32)) := ⟨_, rfl⟩
  have f0 : Fr No w W0 := by rw [hW0]; exact ((Fr.refl No w).alloc _).alloc _
  have b1 : W0.heap[w.heap.size + 1]? = some (.cells tz 32 (0, 0)) := by
    have h := heap_alloc_new (w.alloc (.cells #[.int .i64 6, .int .i64 n, .string x, .string y, .slice a0 n0 c0, .slice a1 n1 c1, .slice a2 n2 c2] 32)) (.cells tz 32)
    rw [World.size_alloc] at h
    rw [hW0]; exact h
  have CL : Hid (Calls Tryz.prog 110 #[.agg #[.int .i64 6, .int .i64 n, .string x, .string y, .slice a0 n0 c0, .slice a1 n1 c1, .slice a2 n2 c2], .slice oa l.length oc] W0 fun e w' => ∃ kd' n' x' y' a0' n0' c0' a1' n1' c1' a2' n2' c2', e = .returned (.agg #[.int .i64 kd', .int .i64 n', .string x', .string y', .slice a0' n0' c0', .slice a1' n1' c1', .slice a2' n2' c2']) ∧ Fr S W0 w' ∧ CW (4 * Q) (k + 1) Q w' (fun g => S g ∨ New W0 w' g) [.int .i64 kd', .int .i64 n', .string x', .string y', .slice a0' n0' c0', .slice a1' n1' c1', .slice a2' n2' c2'] nd) :=
    (let_two Q hQ k nd h2 hA S W0 _ _ l (hT.kept (stays_of_fr f0)) (fun g hg => Nat.lt_of_lt_of_le (hS g hg) f0.size) (hl.no f0) hq).mono fun e w' ⟨cs', he, hf, hr⟩ => by
      obtain ⟨_, _, _, _, _, _, _, _, _, _, _, _, _, rfl⟩ := hr.form
      exact ⟨_, _, _, _, _, _, _, _, _, _, _, _, _, he, hf, hr⟩
  have HW0 := hide hW0
  have F0 := hide f0
  have B1 := hide b1
  have HSS := hide hS
  clear hT hS hl hq hA h2 hk hkd hW0 f0 b1
  show Calls Tryz.prog 75 #[.agg #[.int .i64 6, .int .i64 n, .string x, .string y, .slice a0 n0 c0, .slice a1 n1 c1, .slice a2 n2 c2], .slice oa l.length oc] w _
  go_enter Tryz.func75, Tryz.ntmps75
  go_wp2_with fail
  rw [← HW0.out]
  refine CL.out.mono ?_
  rintro e w1 ⟨kd', n', x', y', a0', n0', c0', a1', n1', c1', a2', n2', c2', rfl, hf1, hr1⟩
  have hns : ¬ S (w.heap.size + 1) := fun h => by have := HSS.out _ h; omega
  have g1 := fr_heap B1.out hf1 hns
  have k1 := cell_of_heap g1
  have z1 := frozen_of_heap g1
  have l1 := lt_of_heap g1
  have lb := lt_of_heap B1.out
  have G1 := hide g1
  have F1 := hide hf1
  have R1 := hide hr1
  clear g1 hf1 hr1 CL
  obtain ⟨s1, s2⟩ := set7 G1.out (.int .i64 kd') (.int .i64 n') (.string x') (.string y') (.slice a0' n0' c0') (.slice a1' n1' c1') (.slice a2' n2' c2')
  go_wp2_with fail
  refine bodyPost_ret (retT rfl _ _ (w.heap.size + 1) _ _ _ _ _ _ _ (0, 0) rfl s1) rfl ⟨_, rfl, ?_, ?_⟩
  · exact ((F0.out.mono (fun _ _ e => e.elim)).trans F1.out).trans' s2 (fun i hi e => by have e : i = w.heap.size + 1 := e; omega)
  · have hs := F0.out.size
    refine (R1.out.kept (stays_fr s2 (fun g hg _ e => by
      have e : g = w.heap.size + 1 := e
      rcases hg with h | h
      · have := HSS.out g h; omega
      · have := h.1; omega) (fun _ h => h))).sub (fun g h => h.imp (fun h => h) (fun h => ⟨by have := h.1; omega, Nat.lt_of_lt_of_le h.2 s2.size⟩))
end Go.Proofs.YtomahbdidlglfacGreatDoor

/- own: 'caseBody', walked. -/
namespace Go.Proofs.YtomahbdidlglfacGreatDoor
open Go.RowKit Go.Maps Go.WideMaps

theorem names_of_row (b : Nat) {w : World} {v : Value} {l : List ByteArray} (h : w.ownsRow b 9 1 v l.length (l.map .string)) (hs : Short l) (V : Nat → Prop) (hV : ∀ g, b ≤ g → ¬ V g) : NamesX V w v l ∧ ∃ a c, v = .slice a l.length c := by
  obtain ⟨a, c, e⟩ := row_form h
  exact ⟨own_namesX h rfl hs hV, a, c, e⟩

theorem heap_alloc_drew (w : World) (cs : Array Value) (t : TypeId) : (w.drew.alloc (.cells cs t)).heap[w.heap.size]? = some (.cells cs t (0, 0)) := heap_alloc_new w.drew _
theorem box_past {base n : Nat} {W w' : World} {v : Value} {xs : List Value} (hr : W.ownsRow base 9 1 v n xs) (hg : W.grownBy w' v.ownBlock) : ∀ q : Nat, W.heap[q]? = some (Obj.cells tz 32 (0, 0)) → w'.heap[q]? = some (Obj.cells tz 32 (0, 0)) := fun q h => by
  rw [hg.block q (lt_of_heap h) (fun e => ?_)]
  · exact h
  · rcases hr.2 with ⟨rfl, _⟩ | ⟨g, cap, cur, rfl, _, hh, _⟩
    · simp [Value.ownBlock] at e
    · simp only [Value.ownBlock, Option.some.injEq] at e
      subst e
      rw [hh] at h
      simp at h

set_option maxRecDepth 100000 in
set_option maxHeartbeats 8000000 in
theorem case_any (Q : Nat) (hQ : Q ≤ 1073741824) (k : Nat) (b : Pu.TT k) (hb : TermD Q k b) (V : Nat → Prop) (w : World) (cs : List Value) (tg : Int) (vv mv ov : Value) (vs ms l : List ByteArray) (hR : RTD k w V cs b) (hV : ∀ g, V g → g < w.heap.size) (hvs : NamesX V w vv vs) (hms : NamesX V w mv ms) (hl : NamesX V w ov l) (hq : l.length + vs.length + Pu.wt k b ≤ Q) (hqm : ms.length ≤ Q) :
    Calls Tryz.prog 111 #[.agg (.int .i64 tg :: vv :: cs).toArray, mv, ov] w fun e w' => ∃ cs', e = .returned (.agg cs'.toArray) ∧ Fr V w w' ∧ CW (4 * Q) k (4 * Q) w' (fun g => V g ∨ New w w' g) cs' b := by
  obtain ⟨oa, oc, rfl⟩ := hl.form
  obtain ⟨ma, mc, rfl⟩ := hms.form
  obtain ⟨va, vc, rfl⟩ := hvs.form
  obtain ⟨kA, nA, xA, yA, aA0, mA0, eA0, aA1, mA1, eA1, aA2, mA2, eA2, rfl⟩ := hR.form
  obtain ⟨W0, hW0⟩ : ∃ W0, W0 = ((w.alloc (.cells #[.int .i64 tg, .slice va vs.length vc, .int .i64 kA, .int .i64 nA, .string xA, .string yA, .slice aA0 mA0 eA0, .slice aA1 mA1 eA1, .slice aA2 mA2 eA2] 58)).alloc (.cells tz 32)) := ⟨_, rfl⟩
  have f0 : Fr No w W0 := by rw [hW0]; exact ((Fr.refl No w).alloc _).alloc _
  have b0 : W0.heap[w.heap.size]? = some (.cells #[.int .i64 tg, .slice va vs.length vc, .int .i64 kA, .int .i64 nA, .string xA, .string yA, .slice aA0 mA0 eA0, .slice aA1 mA1 eA1, .slice aA2 mA2 eA2] 58 (0, 0)) := by rw [hW0]; exact fr_heap (heap_alloc_new w _) ((Fr.refl No _).alloc _) (fun e => e)
  have b1 : W0.heap[w.heap.size + 1]? = some (.cells tz 32 (0, 0)) := by
    have h := heap_alloc_new (w.alloc (.cells #[.int .i64 tg, .slice va vs.length vc, .int .i64 kA, .int .i64 nA, .string xA, .string yA, .slice aA0 mA0 eA0, .slice aA1 mA1 eA1, .slice aA2 mA2 eA2] 58)) (.cells tz 32)
    rw [World.size_alloc] at h
    rw [hW0]; exact h
  have hVW : ∀ W, Fr No w W → ∀ g, V g → g < W.heap.size := fun W hW g hg => Nat.lt_of_lt_of_le (hV g hg) hW.size
  have CN : Hid (∀ W, Fr No w W → Calls Tryz.prog 71 #[.agg #[.int .i64 kA, .int .i64 nA, .string xA, .string yA, .slice aA0 mA0 eA0, .slice aA1 mA1 eA1, .slice aA2 mA2 eA2]] W fun e w' => ∃ f c, e = .returned (.func (.func f) #[] c) ∧ Fr No W w' ∧ IsD V w' (.func (.func f) #[] c) (Pu.has (Pu.free k b))) := fun W hW =>
    (neededD_any V k w.heap.size W _ b ((hR.kept (stays_of_fr hW)).rts.rt hV) hW.size (by omega) (hVW W hW)).mono fun e w' ⟨u, he, hf, hi⟩ => by
      obtain ⟨f, c, rfl⟩ := hi.form
      exact ⟨f, c, he, hf, hi⟩
  have CAM : Hid (∀ W v m, Fr No w W → NamesX V W v m → m.length ≤ ms.length → Calls Tryz.prog 104 #[v] W fun e w' => ∃ f c, e = .returned (.func (.func f) #[] c) ∧ Fr No W w' ∧ IsD V w' (.func (.func f) #[] c) (Pu.has m)) := fun W v m hW hn hm =>
    amongD_any V W.heap.size v m W hn.names (Nat.le_refl _) (by omega) (hVW W hW)
  have CNOT : Hid (∀ W u p, Fr No w W → IsD V W u p → Calls Tryz.prog 73 #[u] W fun e w' => ∃ f c, e = .returned (.func (.func f) #[] c) ∧ Fr No W w' ∧ IsD V w' (.func (.func f) #[] c) (fun x => !p x)) := fun W u p hW hu =>
    (notD_any V u p W hu (hVW W hW)).mono fun e w' ⟨u, he, hf, hi⟩ => by
      obtain ⟨f, c, rfl⟩ := hi.form
      exact ⟨f, c, he, hf, hi⟩
  have COF : Hid (∀ W u p (m : List ByteArray) ma' mc', Fr No w W → IsD V W u p → NamesX V w (.slice ma' m.length mc') m → m.length ≤ Q → Calls Tryz.prog 74 #[u, .slice ma' m.length mc'] W fun e w' => ∃ a c, e = .returned (.slice a (m.filter p).length c) ∧ Fr No W w' ∧ w'.ownsRow W.heap.size 9 1 (.slice a (m.filter p).length c) (m.filter p).length ((m.filter p).map .string) ∧ NamesX V w' (.slice a (m.filter p).length c) (m.filter p)) := fun W u p m ma' mc' hW hu hn hm =>
    (ofD_any V u _ p m W hu (hn.no hW) (by omega) (hVW W hW)).mono fun e w' ⟨r, he, hf, ho, hn⟩ => by
      obtain ⟨a, c, rfl⟩ := row_form ho
      exact ⟨a, c, he, hf, ho, hn⟩
  have CT : Hid (∀ W v m, Fr No w W → NamesX V W v m → m.length ≤ l.length + vs.length → Calls Tryz.prog 38 #[.agg #[.int .i64 kA, .int .i64 nA, .string xA, .string yA, .slice aA0 mA0 eA0, .slice aA1 mA1 eA1, .slice aA2 mA2 eA2], v] W fun e w' => ∃ kC nC xC yC aC0 mC0 eC0 aC1 mC1 eC1 aC2 mC2 eC2, e = .returned (.agg #[.int .i64 kC, .int .i64 nC, .string xC, .string yC, .slice aC0 mC0 eC0, .slice aC1 mC1 eC1, .slice aC2 mC2 eC2]) ∧ Fr V W w' ∧ CW (4 * Q) k (2 * Q) w' (fun x => V x ∨ New W w' x) [.int .i64 kC, .int .i64 nC, .string xC, .string yC, .slice aC0 mC0 eC0, .slice aC1 mC1 eC1, .slice aC2 mC2 eC2] b) := fun W v m hW hn hm =>
    (hb V W _ v m (hR.kept (stays_of_fr hW)) (hVW W hW) hn (by omega)).mono fun e w' ⟨cs', he, hf, hr⟩ => by
      obtain ⟨kC, nC, xC, yC, aC0, mC0, eC0, aC1, mC1, eC1, aC2, mC2, eC2, rfl⟩ := hr.form
      exact ⟨kC, nC, xC, yC, aC0, mC0, eC0, aC1, mC1, eC1, aC2, mC2, eC2, he, hf, hr⟩
  have CCO : Hid (∀ W v m (n : Nat) (kd : Int) cs' (A : Nat → Prop), ck kd → CW (4 * Q) k n W A cs' b → (∀ x, A x → x < W.heap.size) → NamesX V W v m → m.length ≤ Q →
      Calls Tryz.prog 72 #[.int .i64 kd, v, .agg cs'.toArray] W fun e w' => ∃ kE nE xE yE aE0 mE0 eE0 aE1 mE1 eE1 aE2 mE2 eE2, e = .returned (.agg #[.int .i64 kE, .int .i64 nE, .string xE, .string yE, .slice aE0 mE0 eE0, .slice aE1 mE1 eE1, .slice aE2 mE2 eE2]) ∧ Fr No W w' ∧ CW (4 * Q) k (n + m.length) w' (fun x => A x ∨ New W w' x) [.int .i64 kE, .int .i64 nE, .string xE, .string yE, .slice aE0 mE0 eE0, .slice aE1 mE1 eE1, .slice aE2 mE2 eE2] b) := fun W v m n kd cs' A hk h hA hn hm => by
    refine (countD_any (4 * Q) k n A W.heap.size kd hk v m (by omega) b _ W hn.names h hA).mono fun e w' ⟨cs', he, hf, hr⟩ => ?_
    obtain ⟨kE, nE, xE, yE, aE0, mE0, eE0, aE1, mE1, eE1, aE2, mE2, eE2, rfl⟩ := hr.form
    exact ⟨kE, nE, xE, yE, aE0, mE0, eE0, aE1, mE1, eE1, aE2, mE2, eE2, he, hf, hr⟩
  have HW0 := hide hW0
  have F0 := hide f0
  have B0 := hide b0
  have B1 := hide b1
  have HVV := hide hV
  have HVS := hide hvs
  have HMS := hide hms
  have HL := hide hl
  have HQQ := hide (show l.length ≤ Q ∧ vs.length ≤ Q ∧ ms.length ≤ Q from ⟨by omega, by omega, hqm⟩)
  have hlw : l.length + vs.length ≤ 1073741824 := by omega
  have HLW := hide hlw
  clear hR hV hvs hms hl hq hqm hb hW0 f0 b0 b1 hVW hlw
  show Calls Tryz.prog 111 #[.agg #[.int .i64 tg, .slice va vs.length vc, .int .i64 kA, .int .i64 nA, .string xA, .string yA, .slice aA0 mA0 eA0, .slice aA1 mA1 eA1, .slice aA2 mA2 eA2], .slice ma ms.length mc, .slice oa l.length oc] w _
  go_enter Tryz.func111, Tryz.ntmps111
  go_upto_region 1 with fail
  rw [← HW0.out]
  have k0 := cell_of_heap B0.out
  have l0 := lt_of_heap B0.out
  go_wp2_with fail
  refine (CN.out W0 F0.out).mono ?_
  rintro e wa ⟨fa, fca, rfl, hfa, hia⟩
  have FA := hide (F0.out.trans hfa)
  have IA := hide hia
  have ba := fr_heap B0.out hfa (fun e => e)
  clear k0 l0
  have k0 := cell_of_heap ba
  have l0 := lt_of_heap ba
  have BA := hide (And.intro ba (fr_heap B1.out hfa (fun e => e)))
  clear hfa hia ba CN
  go_wp2_with fail
  refine (COF.out wa _ _ vs _ _ FA.out IA.out HVS.out HQQ.out.2.1).mono ?_
  rintro e wb ⟨ab, cb, rfl, hfb, hob, hnb⟩
  have FB := hide (FA.out.trans hfb)
  have IB := hide (IA.out.no hfb)
  have NB := hide hnb
  have BB := hide (And.intro (fr_heap BA.out.1 hfb (fun e => e)) (fr_heap BA.out.2 hfb (fun e => e)))
  clear k0 l0
  have k0 := cell_of_heap BB.out.1
  have l0 := lt_of_heap BB.out.1
  clear hfb hob hnb
  go_wp2_with fail
  refine (CNOT.out wb _ _ FB.out IB.out).mono ?_
  rintro e wd ⟨fd, fcd, rfl, hfd, hid⟩
  have FD := hide (FB.out.trans hfd)
  have ID := hide hid
  have ND := hide (NB.out.no hfd)
  have BD := hide (And.intro (fr_heap BB.out.1 hfd (fun e => e)) (fr_heap BB.out.2 hfd (fun e => e)))
  clear k0 l0
  have k0 := cell_of_heap BD.out.1
  have l0 := lt_of_heap BD.out.1
  clear hfd hid
  go_wp2_with fail
  refine (COF.out wd _ _ ms _ _ FD.out ID.out HMS.out HQQ.out.2.2).mono ?_
  rintro e w1 ⟨a1, c1, rfl, hf1, ho1, hn1⟩
  have F1 := hide (FD.out.trans hf1)
  have NV1 := hide (ND.out.no hf1)
  have NM1 := hide hn1
  have BX := hide (And.intro (fr_heap BD.out.1 hf1 (fun e => e)) (fr_heap BD.out.2 hf1 (fun e => e)))
  clear k0 l0
  clear hf1 ho1 hn1 IA IB ID NB ND BA BB BD FA FB FD
  have k0 := cell_of_heap BX.out.1
  have l0 := lt_of_heap BX.out.1
  have lr := lt_of_heap BX.out.2
  obtain ⟨P, hP⟩ : ∃ P, P = Pu.has (Pu.free k b) := ⟨_, rfl⟩
  rw [← hP] at NV1 NM1
  rw [← hP]
  obtain ⟨vars, hvars⟩ : ∃ vars, vars = vs.filter P := ⟨_, rfl⟩
  obtain ⟨done, hdone⟩ : ∃ done, done = ms.filter (fun x => !P x) := ⟨_, rfl⟩
  rw [← hvars] at NV1
  rw [← hdone] at NM1
  rw [← hvars, ← hdone]
  have HVD := hide (show vars.length ≤ vs.length ∧ done.length ≤ ms.length from ⟨by rw [hvars]; exact List.length_filter_le _ _, by rw [hdone]; exact List.length_filter_le _ _⟩)
  clear hP hvars hdone
  go_wp2_with fail
  have S3F : Hid (∀ W, Fr No w1 W → (W.cell? ⟨w.heap.size, 2, none⟩ = some (.int .i64 kA) ∧ W.cell? ⟨w.heap.size, 2 + 1, none⟩ = some (.int .i64 nA) ∧ W.cell? ⟨w.heap.size, 2 + 2, none⟩ = some (.string xA) ∧ W.cell? ⟨w.heap.size, 2 + 3, none⟩ = some (.string yA) ∧ W.cell? ⟨w.heap.size, 2 + 4, none⟩ = some (.slice aA0 mA0 eA0) ∧ W.cell? ⟨w.heap.size, 2 + 5, none⟩ = some (.slice aA1 mA1 eA1) ∧ W.cell? ⟨w.heap.size, 2 + 6, none⟩ = some (.slice aA2 mA2 eA2))) := fun W hW => by
    have ck := cell_of_heap (fr_heap BX.out.1 hW (fun e => e))
    exact ⟨ck 2, ck 3, ck 4, ck 5, ck 6, ck 7, ck 8⟩
  have S3V : Hid (∀ W W', Fr No w1 W → Fr V W W' → (W'.cell? ⟨w.heap.size, 2, none⟩ = some (.int .i64 kA) ∧ W'.cell? ⟨w.heap.size, 2 + 1, none⟩ = some (.int .i64 nA) ∧ W'.cell? ⟨w.heap.size, 2 + 2, none⟩ = some (.string xA) ∧ W'.cell? ⟨w.heap.size, 2 + 3, none⟩ = some (.string yA) ∧ W'.cell? ⟨w.heap.size, 2 + 4, none⟩ = some (.slice aA0 mA0 eA0) ∧ W'.cell? ⟨w.heap.size, 2 + 5, none⟩ = some (.slice aA1 mA1 eA1) ∧ W'.cell? ⟨w.heap.size, 2 + 6, none⟩ = some (.slice aA2 mA2 eA2))) := fun W W' hW hf => by
    have ck := cell_of_heap (fr_heap (fr_heap BX.out.1 hW (fun e => e)) hf (fun e => by have := HVV.out _ e; omega))
    exact ⟨ck 2, ck 3, ck 4, ck 5, ck 6, ck 7, ck 8⟩
  have SAL3 : Hid (∀ (W : World) o', (W.cell? ⟨w.heap.size, 2, none⟩ = some (.int .i64 kA) ∧ W.cell? ⟨w.heap.size, 2 + 1, none⟩ = some (.int .i64 nA) ∧ W.cell? ⟨w.heap.size, 2 + 2, none⟩ = some (.string xA) ∧ W.cell? ⟨w.heap.size, 2 + 3, none⟩ = some (.string yA) ∧ W.cell? ⟨w.heap.size, 2 + 4, none⟩ = some (.slice aA0 mA0 eA0) ∧ W.cell? ⟨w.heap.size, 2 + 5, none⟩ = some (.slice aA1 mA1 eA1) ∧ W.cell? ⟨w.heap.size, 2 + 6, none⟩ = some (.slice aA2 mA2 eA2)) → ((W.alloc o').cell? ⟨w.heap.size, 2, none⟩ = some (.int .i64 kA) ∧ (W.alloc o').cell? ⟨w.heap.size, 2 + 1, none⟩ = some (.int .i64 nA) ∧ (W.alloc o').cell? ⟨w.heap.size, 2 + 2, none⟩ = some (.string xA) ∧ (W.alloc o').cell? ⟨w.heap.size, 2 + 3, none⟩ = some (.string yA) ∧ (W.alloc o').cell? ⟨w.heap.size, 2 + 4, none⟩ = some (.slice aA0 mA0 eA0) ∧ (W.alloc o').cell? ⟨w.heap.size, 2 + 5, none⟩ = some (.slice aA1 mA1 eA1) ∧ (W.alloc o').cell? ⟨w.heap.size, 2 + 6, none⟩ = some (.slice aA2 mA2 eA2))) := fun W o' h => ⟨cell_allocA o' h.1, cell_allocA o' h.2.1, cell_allocA o' h.2.2.1, cell_allocA o' h.2.2.2.1, cell_allocA o' h.2.2.2.2.1, cell_allocA o' h.2.2.2.2.2.1, cell_allocA o' h.2.2.2.2.2.2⟩
  have HZ3 : Hid (w1.drew.cell? ⟨w.heap.size, 2, none⟩ = some (.int .i64 kA) ∧ w1.drew.cell? ⟨w.heap.size, 2 + 1, none⟩ = some (.int .i64 nA) ∧ w1.drew.cell? ⟨w.heap.size, 2 + 2, none⟩ = some (.string xA) ∧ w1.drew.cell? ⟨w.heap.size, 2 + 3, none⟩ = some (.string yA) ∧ w1.drew.cell? ⟨w.heap.size, 2 + 4, none⟩ = some (.slice aA0 mA0 eA0) ∧ w1.drew.cell? ⟨w.heap.size, 2 + 5, none⟩ = some (.slice aA1 mA1 eA1) ∧ w1.drew.cell? ⟨w.heap.size, 2 + 6, none⟩ = some (.slice aA2 mA2 eA2)) := S3F.out w1.drew ((Fr.refl No w1).drew)
  have K3 : Hid (∀ (W : World) (q : Nat) (u0 u1 u2 u3 u4 u5 u6 : Value), w.heap.size ≠ q → (W.cell? ⟨w.heap.size, 2, none⟩ = some (.int .i64 kA) ∧ W.cell? ⟨w.heap.size, 2 + 1, none⟩ = some (.int .i64 nA) ∧ W.cell? ⟨w.heap.size, 2 + 2, none⟩ = some (.string xA) ∧ W.cell? ⟨w.heap.size, 2 + 3, none⟩ = some (.string yA) ∧ W.cell? ⟨w.heap.size, 2 + 4, none⟩ = some (.slice aA0 mA0 eA0) ∧ W.cell? ⟨w.heap.size, 2 + 5, none⟩ = some (.slice aA1 mA1 eA1) ∧ W.cell? ⟨w.heap.size, 2 + 6, none⟩ = some (.slice aA2 mA2 eA2)) → ((((((((W.setCell ⟨q, 0, none⟩ u0).setCell ⟨q, 1, none⟩ u1).setCell ⟨q, 2, none⟩ u2).setCell ⟨q, 3, none⟩ u3).setCell ⟨q, 4, none⟩ u4).setCell ⟨q, 5, none⟩ u5).setCell ⟨q, 6, none⟩ u6).cell? ⟨w.heap.size, 2, none⟩ = some (.int .i64 kA) ∧ (((((((W.setCell ⟨q, 0, none⟩ u0).setCell ⟨q, 1, none⟩ u1).setCell ⟨q, 2, none⟩ u2).setCell ⟨q, 3, none⟩ u3).setCell ⟨q, 4, none⟩ u4).setCell ⟨q, 5, none⟩ u5).setCell ⟨q, 6, none⟩ u6).cell? ⟨w.heap.size, 2 + 1, none⟩ = some (.int .i64 nA) ∧ (((((((W.setCell ⟨q, 0, none⟩ u0).setCell ⟨q, 1, none⟩ u1).setCell ⟨q, 2, none⟩ u2).setCell ⟨q, 3, none⟩ u3).setCell ⟨q, 4, none⟩ u4).setCell ⟨q, 5, none⟩ u5).setCell ⟨q, 6, none⟩ u6).cell? ⟨w.heap.size, 2 + 2, none⟩ = some (.string xA) ∧ (((((((W.setCell ⟨q, 0, none⟩ u0).setCell ⟨q, 1, none⟩ u1).setCell ⟨q, 2, none⟩ u2).setCell ⟨q, 3, none⟩ u3).setCell ⟨q, 4, none⟩ u4).setCell ⟨q, 5, none⟩ u5).setCell ⟨q, 6, none⟩ u6).cell? ⟨w.heap.size, 2 + 3, none⟩ = some (.string yA) ∧ (((((((W.setCell ⟨q, 0, none⟩ u0).setCell ⟨q, 1, none⟩ u1).setCell ⟨q, 2, none⟩ u2).setCell ⟨q, 3, none⟩ u3).setCell ⟨q, 4, none⟩ u4).setCell ⟨q, 5, none⟩ u5).setCell ⟨q, 6, none⟩ u6).cell? ⟨w.heap.size, 2 + 4, none⟩ = some (.slice aA0 mA0 eA0) ∧ (((((((W.setCell ⟨q, 0, none⟩ u0).setCell ⟨q, 1, none⟩ u1).setCell ⟨q, 2, none⟩ u2).setCell ⟨q, 3, none⟩ u3).setCell ⟨q, 4, none⟩ u4).setCell ⟨q, 5, none⟩ u5).setCell ⟨q, 6, none⟩ u6).cell? ⟨w.heap.size, 2 + 5, none⟩ = some (.slice aA1 mA1 eA1) ∧ (((((((W.setCell ⟨q, 0, none⟩ u0).setCell ⟨q, 1, none⟩ u1).setCell ⟨q, 2, none⟩ u2).setCell ⟨q, 3, none⟩ u3).setCell ⟨q, 4, none⟩ u4).setCell ⟨q, 5, none⟩ u5).setCell ⟨q, 6, none⟩ u6).cell? ⟨w.heap.size, 2 + 6, none⟩ = some (.slice aA2 mA2 eA2))) := fun W q u0 u1 u2 u3 u4 u5 u6 hq h => ⟨keepA7 _ _ _ _ _ _ _ hq h.1, keepA7 _ _ _ _ _ _ _ hq h.2.1, keepA7 _ _ _ _ _ _ _ hq h.2.2.1, keepA7 _ _ _ _ _ _ _ hq h.2.2.2.1, keepA7 _ _ _ _ _ _ _ hq h.2.2.2.2.1, keepA7 _ _ _ _ _ _ _ hq h.2.2.2.2.2.1, keepA7 _ _ _ _ _ _ _ hq h.2.2.2.2.2.2⟩
  have hw12 : w.heap.size + 2 ≤ w1.heap.size := by omega
  have HNV : Hid (∀ W, Fr No w1 W → ¬ V W.heap.size) := fun W hW e => by have := HVV.out _ e; have := hW.size; omega
  have HNW : Hid (∀ W, Fr No w1 W → w.heap.size ≠ W.heap.size) := fun W hW e => by have := hW.size; omega
  have HQX : Hid (∀ W, Fr No w1 W → w1.heap.size ≤ W.heap.size) := fun W hW => hW.size
  have GR : Hid (∀ (W w' : World) (v : Value) (n base : Nat) (xs : List Value), W.grownBy w' v.ownBlock → W.ownsRow base 9 1 v n xs → Fr No w1 W → w1.heap.size ≤ base → Fr No w1 w') := fun W w' v n base xs hg hr hW hb => hW.grown hg (fun a ha => .inr (Nat.le_trans hb (hr.lt a ha).1))
  have BP : Hid (∀ (W w' : World) (v : Value) (n base : Nat) (xs : List Value), W.ownsRow base 9 1 v n xs → W.grownBy w' v.ownBlock → Hid (∀ q : Nat, W.heap[q]? = some (Obj.cells tz 32 (0, 0)) → w'.heap[q]? = some (Obj.cells tz 32 (0, 0)))) := fun W w' v n base xs hr hg => box_past hr hg
  have NMA : Hid (∀ (W : World) (v : Value) (m : List ByteArray) (base : Nat), Short m → W.ownsRow base 9 1 v (m.length + vars.length) (m.map .string ++ vars.map .string) → w1.heap.size ≤ base → NamesX V W v (m ++ vars) ∧ ∃ a c, v = .slice a (m.length + vars.length) c) := fun W v m base hm hr hb => by
    have h := names_of_row base (l := m ++ vars) (by simpa using hr) (fun y hy => (List.mem_append.1 hy).elim (hm y) (NV1.out.2 y)) V (fun g hg h => by have := HVV.out g h; omega)
    rw [List.length_append] at h
    exact h
  have FIN : Hid (∀ (Wt W6 Wz : World) (q : Nat) (kC nC xC yC aC0 mC0 eC0 aC1 mC1 eC1 aC2 mC2 eC2), Fr No w1 Wt → Fr V Wt W6 → CW (4 * Q) k (2 * Q) W6 (fun x => V x ∨ New Wt W6 x) [.int .i64 kC, .int .i64 nC, .string xC, .string yC, .slice aC0 mC0 eC0, .slice aC1 mC1 eC1, .slice aC2 mC2 eC2] b → Fr No W6 Wz → Wz.heap[q]? = some (.cells tz 32 (0, 0)) → w1.heap.size ≤ q → (q < Wt.heap.size ∨ W6.heap.size ≤ q) →
      (∃ (q' : Nat), Value.pointer (some ⟨q, 0, none⟩) = .pointer (some ⟨q', 0, none⟩) ∧ w1.heap.size ≤ q' ∧ Fr V w1 (((((((Wz.setCell ⟨q, 0, none⟩ (.int .i64 kC)).setCell ⟨q, 1, none⟩ (.int .i64 nC)).setCell ⟨q, 2, none⟩ (.string xC)).setCell ⟨q, 3, none⟩ (.string yC)).setCell ⟨q, 4, none⟩ (.slice aC0 mC0 eC0)).setCell ⟨q, 5, none⟩ (.slice aC1 mC1 eC1)).setCell ⟨q, 6, none⟩ (.slice aC2 mC2 eC2)) ∧ ∃ kD nD xD yD aD0 mD0 eD0 aD1 mD1 eD1 aD2 mD2 eD2, ∃ A' : Nat → Prop, (((((((Wz.setCell ⟨q, 0, none⟩ (.int .i64 kC)).setCell ⟨q, 1, none⟩ (.int .i64 nC)).setCell ⟨q, 2, none⟩ (.string xC)).setCell ⟨q, 3, none⟩ (.string yC)).setCell ⟨q, 4, none⟩ (.slice aC0 mC0 eC0)).setCell ⟨q, 5, none⟩ (.slice aC1 mC1 eC1)).setCell ⟨q, 6, none⟩ (.slice aC2 mC2 eC2)).heap[q']? = some (.cells #[.int .i64 kD, .int .i64 nD, .string xD, .string yD, .slice aD0 mD0 eD0, .slice aD1 mD1 eD1, .slice aD2 mD2 eD2] 32 (0, 0)) ∧ (∀ x, A' x → V x ∨ (w1.heap.size ≤ x ∧ x < (((((((Wz.setCell ⟨q, 0, none⟩ (.int .i64 kC)).setCell ⟨q, 1, none⟩ (.int .i64 nC)).setCell ⟨q, 2, none⟩ (.string xC)).setCell ⟨q, 3, none⟩ (.string yC)).setCell ⟨q, 4, none⟩ (.slice aC0 mC0 eC0)).setCell ⟨q, 5, none⟩ (.slice aC1 mC1 eC1)).setCell ⟨q, 6, none⟩ (.slice aC2 mC2 eC2)).heap.size)) ∧ CW (4 * Q) k (2 * Q) (((((((Wz.setCell ⟨q, 0, none⟩ (.int .i64 kC)).setCell ⟨q, 1, none⟩ (.int .i64 nC)).setCell ⟨q, 2, none⟩ (.string xC)).setCell ⟨q, 3, none⟩ (.string yC)).setCell ⟨q, 4, none⟩ (.slice aC0 mC0 eC0)).setCell ⟨q, 5, none⟩ (.slice aC1 mC1 eC1)).setCell ⟨q, 6, none⟩ (.slice aC2 mC2 eC2)) A' [.int .i64 kD, .int .i64 nD, .string xD, .string yD, .slice aD0 mD0 eD0, .slice aD1 mD1 eD1, .slice aD2 mD2 eD2] b)) := fun Wt W6 Wz q kC nC xC yC aC0 mC0 eC0 aC1 mC1 eC1 aC2 mC2 eC2 h1 h2 h3 h4 h5 h6 h7 => by
    obtain ⟨t1, t2⟩ := set7 h5 (.int .i64 kC) (.int .i64 nC) (.string xC) (.string yC) (.slice aC0 mC0 eC0) (.slice aC1 mC1 eC1) (.slice aC2 mC2 eC2)
    have t3 := t2.size
    have t4 := h4.size
    have t5 := h2.size
    have t6 := h1.size
    have hVq : ∀ x, V x → x < w1.heap.size := fun x hx => by have := HVV.out x hx; omega
    refine ⟨q, rfl, h6, ?_, kC, nC, xC, yC, aC0, mC0, eC0, aC1, mC1, eC1, aC2, mC2, eC2, fun x => V x ∨ New Wt W6 x, t1, fun x hx => hx.imp (fun h => h) (fun h => ⟨by have := h.1; omega, by have := h.2; omega⟩), (h3.kept (stays_of_fr h4)).kept (stays_fr t2 (fun x hx _ e => ?_) (fun _ h => h))⟩
    · exact (((h1.mono (fun _ _ e => e.elim)).trans h2).no h4).trans' t2 (fun i hi e => by have e : i = q := e; omega)
    · have e : x = q := e
      subst e
      rcases hx with h | h
      · have := hVq _ h; omega
      · have a1 := h.1; have a2 := h.2; omega
  have FIN2 : Hid (∀ (Wt W6 : World) (kC nC xC yC aC0 mC0 eC0 aC1 mC1 eC1 aC2 mC2 eC2), Fr No w1 Wt → Fr V Wt W6 → CW (4 * Q) k (2 * Q) W6 (fun x => V x ∨ New Wt W6 x) [.int .i64 kC, .int .i64 nC, .string xC, .string yC, .slice aC0 mC0 eC0, .slice aC1 mC1 eC1, .slice aC2 mC2 eC2] b →
      (∃ (q' : Nat), Value.pointer (some ⟨W6.heap.size, 0, none⟩) = .pointer (some ⟨q', 0, none⟩) ∧ w1.heap.size ≤ q' ∧ Fr V w1 (W6.alloc (.cells #[.int .i64 kC, .int .i64 nC, .string xC, .string yC, .slice aC0 mC0 eC0, .slice aC1 mC1 eC1, .slice aC2 mC2 eC2] 32)) ∧ ∃ kD nD xD yD aD0 mD0 eD0 aD1 mD1 eD1 aD2 mD2 eD2, ∃ A' : Nat → Prop, (W6.alloc (.cells #[.int .i64 kC, .int .i64 nC, .string xC, .string yC, .slice aC0 mC0 eC0, .slice aC1 mC1 eC1, .slice aC2 mC2 eC2] 32)).heap[q']? = some (.cells #[.int .i64 kD, .int .i64 nD, .string xD, .string yD, .slice aD0 mD0 eD0, .slice aD1 mD1 eD1, .slice aD2 mD2 eD2] 32 (0, 0)) ∧ (∀ x, A' x → V x ∨ (w1.heap.size ≤ x ∧ x < (W6.alloc (.cells #[.int .i64 kC, .int .i64 nC, .string xC, .string yC, .slice aC0 mC0 eC0, .slice aC1 mC1 eC1, .slice aC2 mC2 eC2] 32)).heap.size)) ∧ CW (4 * Q) k (2 * Q) (W6.alloc (.cells #[.int .i64 kC, .int .i64 nC, .string xC, .string yC, .slice aC0 mC0 eC0, .slice aC1 mC1 eC1, .slice aC2 mC2 eC2] 32)) A' [.int .i64 kD, .int .i64 nD, .string xD, .string yD, .slice aD0 mD0 eD0, .slice aD1 mD1 eD1, .slice aD2 mD2 eD2] b)) := fun Wt W6 kC nC xC yC aC0 mC0 eC0 aC1 mC1 eC1 aC2 mC2 eC2 h1 h2 h3 => by
    have fa : Fr No W6 (W6.alloc (.cells #[.int .i64 kC, .int .i64 nC, .string xC, .string yC, .slice aC0 mC0 eC0, .slice aC1 mC1 eC1, .slice aC2 mC2 eC2] 32)) := (Fr.refl No W6).alloc _
    have t5 := h2.size
    have t6 := h1.size
    have t7 := fa.size
    exact ⟨W6.heap.size, rfl, by omega, ((h1.mono (fun _ _ e => e.elim)).trans h2).no fa, kC, nC, xC, yC, aC0, mC0, eC0, aC1, mC1, eC1, aC2, mC2, eC2, fun x => V x ∨ New Wt W6 x, heap_alloc_new W6 _, fun x hx => hx.imp (fun h => h) (fun h => ⟨by have := h.1; omega, by have := h.2; omega⟩), h3.kept (stays_of_fr fa)⟩
  go_cut [10] from 22 to 37 (fun t10 wx => ∃ (q : Nat), t10 = .pointer (some ⟨q, 0, none⟩) ∧ w1.heap.size ≤ q ∧ Fr V w1 wx ∧ ∃ kC nC xC yC aC0 mC0 eC0 aC1 mC1 eC1 aC2 mC2 eC2, ∃ A' : Nat → Prop, wx.heap[q]? = some (.cells #[.int .i64 kC, .int .i64 nC, .string xC, .string yC, .slice aC0 mC0 eC0, .slice aC1 mC1 eC1, .slice aC2 mC2 eC2] 32 (0, 0)) ∧ (∀ x, A' x → V x ∨ (w1.heap.size ≤ x ∧ x < wx.heap.size)) ∧ CW (4 * Q) k (2 * Q) wx A' [.int .i64 kC, .int .i64 nC, .string xC, .string yC, .slice aC0 mC0 eC0, .slice aC1 mC1 eC1, .slice aC2 mC2 eC2] b)
  case first =>
    go_region_held3 (fun w' : World => w'.cell? ⟨w.heap.size, 2, none⟩ = some (.int .i64 kA) ∧ w'.cell? ⟨w.heap.size, 2 + 1, none⟩ = some (.int .i64 nA) ∧ w'.cell? ⟨w.heap.size, 2 + 2, none⟩ = some (.string xA) ∧ w'.cell? ⟨w.heap.size, 2 + 3, none⟩ = some (.string yA) ∧ w'.cell? ⟨w.heap.size, 2 + 4, none⟩ = some (.slice aA0 mA0 eA0) ∧ w'.cell? ⟨w.heap.size, 2 + 5, none⟩ = some (.slice aA1 mA1 eA1) ∧ w'.cell? ⟨w.heap.size, 2 + 6, none⟩ = some (.slice aA2 mA2 eA2)) (first | with_reducible assumption | with_reducible exact HZ3.out | with_reducible exact K3.out _ _ _ _ _ _ _ _ _ (HNW.out _ (by repeat (first | with_reducible exact Fr.refl _ _ | with_reducible refine Fr.drew ?_ | with_reducible refine Fr.trans ?_ F2.out | with_reducible refine Fr.trans ?_ F3.out | with_reducible refine Fr.trans ?_ F4.out | with_reducible refine Fr.trans ?_ F5.out | with_reducible refine Fr.alloc ?_ _))) (by with_reducible assumption) | exact SAL3.out _ _ (by first | with_reducible assumption | exact HZ3.out))
      (first
      | (go_at_call 104; refine (CAM.out _ _ _ (F1.out.trans (by repeat (first | with_reducible exact Fr.refl _ _ | with_reducible refine Fr.drew ?_ | with_reducible refine Fr.trans ?_ F2.out | with_reducible refine Fr.trans ?_ F3.out | with_reducible refine Fr.trans ?_ F4.out | with_reducible refine Fr.trans ?_ F5.out | with_reducible refine Fr.alloc ?_ _))) (NM1.out.no (show Fr No w1 _ from by repeat (first | with_reducible exact Fr.refl _ _ | with_reducible refine Fr.drew ?_ | with_reducible refine Fr.trans ?_ F2.out | with_reducible refine Fr.trans ?_ F3.out | with_reducible refine Fr.trans ?_ F4.out | with_reducible refine Fr.trans ?_ F5.out | with_reducible refine Fr.alloc ?_ _))) HVD.out.2).mono ?_; rintro e w2 ⟨f2, c2', rfl, hf2, hi2⟩; have F2 := hide hf2; have I2 : Hid (∀ W, Fr No w2 W → IsD V W (.func (.func f2) #[] c2') (Pu.has done)) := fun W hW => hi2.no hW; clear hf2 hi2; have hz2 := S3F.out w2 (by repeat (first | with_reducible exact Fr.refl _ _ | with_reducible refine Fr.drew ?_ | with_reducible refine Fr.trans ?_ F2.out | with_reducible refine Fr.trans ?_ F3.out | with_reducible refine Fr.trans ?_ F4.out | with_reducible refine Fr.trans ?_ F5.out | with_reducible refine Fr.alloc ?_ _)))
      | (go_at_call 73; refine (CNOT.out _ _ _ (F1.out.trans (by repeat (first | with_reducible exact Fr.refl _ _ | with_reducible refine Fr.drew ?_ | with_reducible refine Fr.trans ?_ F2.out | with_reducible refine Fr.trans ?_ F3.out | with_reducible refine Fr.trans ?_ F4.out | with_reducible refine Fr.trans ?_ F5.out | with_reducible refine Fr.alloc ?_ _))) (I2.out _ (by repeat (first | with_reducible exact Fr.refl _ _ | with_reducible refine Fr.drew ?_ | with_reducible refine Fr.trans ?_ F2.out | with_reducible refine Fr.trans ?_ F3.out | with_reducible refine Fr.trans ?_ F4.out | with_reducible refine Fr.trans ?_ F5.out | with_reducible refine Fr.alloc ?_ _)))).mono ?_; rintro e w3 ⟨f3, c3', rfl, hf3, hi3⟩; have F3 := hide hf3; have I3 : Hid (∀ W, Fr No w3 W → IsD V W (.func (.func f3) #[] c3') (fun x => !(Pu.has done x))) := fun W hW => hi3.no hW; clear hf3 hi3; have hz3 := S3F.out w3 (by repeat (first | with_reducible exact Fr.refl _ _ | with_reducible refine Fr.drew ?_ | with_reducible refine Fr.trans ?_ F2.out | with_reducible refine Fr.trans ?_ F3.out | with_reducible refine Fr.trans ?_ F4.out | with_reducible refine Fr.trans ?_ F5.out | with_reducible refine Fr.alloc ?_ _)))
      | (go_at_call 74; refine (COF.out _ _ _ l _ _ (F1.out.trans (by repeat (first | with_reducible exact Fr.refl _ _ | with_reducible refine Fr.drew ?_ | with_reducible refine Fr.trans ?_ F2.out | with_reducible refine Fr.trans ?_ F3.out | with_reducible refine Fr.trans ?_ F4.out | with_reducible refine Fr.trans ?_ F5.out | with_reducible refine Fr.alloc ?_ _))) (I3.out _ (by repeat (first | with_reducible exact Fr.refl _ _ | with_reducible refine Fr.drew ?_ | with_reducible refine Fr.trans ?_ F2.out | with_reducible refine Fr.trans ?_ F3.out | with_reducible refine Fr.trans ?_ F4.out | with_reducible refine Fr.trans ?_ F5.out | with_reducible refine Fr.alloc ?_ _))) HL.out HQQ.out.1).mono ?_; rintro e w4 ⟨d4, e4', rfl, hf4, ho4, hn4⟩; have F4 := hide hf4; have O4 := hide ho4; have N4 := hide hn4; clear hf4 ho4 hn4; have hz4 := S3F.out w4 (by repeat (first | with_reducible exact Fr.refl _ _ | with_reducible refine Fr.drew ?_ | with_reducible refine Fr.trans ?_ F2.out | with_reducible refine Fr.trans ?_ F3.out | with_reducible refine Fr.trans ?_ F4.out | with_reducible refine Fr.trans ?_ F5.out | with_reducible refine Fr.alloc ?_ _)))
      | (refine step_append_names rfl (.tmp 28) (.tmp 29) rfl rfl (base := _) (B := _) (n := (l.filter (fun x => !(Pu.has done x))).length) (xs := (l.filter (fun x => !(Pu.has done x))).map .string) (l := vars) rfl rfl (by first | exact O4.out | exact O4.out.alloc _) (by exact (NV1.out.no (by repeat (first | with_reducible exact Fr.refl _ _ | with_reducible refine Fr.drew ?_ | with_reducible refine Fr.trans ?_ F2.out | with_reducible refine Fr.trans ?_ F3.out | with_reducible refine Fr.trans ?_ F4.out | with_reducible refine Fr.trans ?_ F5.out | with_reducible refine Fr.alloc ?_ _))).names) (by have := List.length_filter_le (fun x => !(Pu.has done x)) l; have := HLW.out; have := HVD.out.1; omega) (by first | exact F4.out.size | exact (F4.out.alloc _).size) ?_; intro v5 w5 ho5 hg5 hl5; have F5 : Hid (Fr No w1 w5) := GR.out _ _ _ _ _ _ hg5 (by first | exact O4.out | exact O4.out.alloc _) (by repeat (first | with_reducible exact Fr.refl _ _ | with_reducible refine Fr.drew ?_ | with_reducible refine Fr.trans ?_ F2.out | with_reducible refine Fr.trans ?_ F3.out | with_reducible refine Fr.trans ?_ F4.out | with_reducible refine Fr.trans ?_ F5.out | with_reducible refine Fr.alloc ?_ _)) (by exact Fr.size (T := No) (by repeat (first | with_reducible exact Fr.refl _ _ | with_reducible refine Fr.drew ?_ | with_reducible refine Fr.trans ?_ F2.out | with_reducible refine Fr.trans ?_ F3.out | with_reducible refine Fr.trans ?_ F4.out | with_reducible refine Fr.trans ?_ F5.out | with_reducible refine Fr.alloc ?_ _))); have H5 := BP.out _ _ _ _ _ _ (by first | exact O4.out | exact O4.out.alloc _) hg5; obtain ⟨hn5, a5, c5, hv5⟩ := NMA.out w5 v5 _ _ (N4.out.2) ho5 (by exact Fr.size (T := No) (by repeat (first | with_reducible exact Fr.refl _ _ | with_reducible refine Fr.drew ?_ | with_reducible refine Fr.trans ?_ F2.out | with_reducible refine Fr.trans ?_ F3.out | with_reducible refine Fr.trans ?_ F4.out | with_reducible refine Fr.trans ?_ F5.out | with_reducible refine Fr.alloc ?_ _))); subst hv5; have N5 : Hid (∀ W, Fr No w5 W → NamesX V W (.slice a5 ((l.filter (fun x => !(Pu.has done x))).length + vars.length) c5) (l.filter (fun x => !(Pu.has done x)) ++ vars)) := fun W hW => hn5.no hW; clear hn5 ho5 hg5 hl5; have hz5 := S3F.out w5 F5.out)
      | (go_at_call 38; refine (CT.out _ _ _ (F1.out.trans (show Fr No w1 _ from by repeat (first | with_reducible exact Fr.refl _ _ | with_reducible refine Fr.drew ?_ | with_reducible refine Fr.trans ?_ F2.out | with_reducible refine Fr.trans ?_ F3.out | with_reducible refine Fr.trans ?_ F4.out | with_reducible refine Fr.trans ?_ F5.out | with_reducible refine Fr.alloc ?_ _))) (N5.out _ (by repeat (first | with_reducible exact Fr.refl _ _ | with_reducible refine Fr.drew ?_ | with_reducible refine Fr.trans ?_ F2.out | with_reducible refine Fr.trans ?_ F3.out | with_reducible refine Fr.trans ?_ F4.out | with_reducible refine Fr.trans ?_ F5.out | with_reducible refine Fr.alloc ?_ _))) (by have := List.length_filter_le (fun x => !(Pu.has done x)) l; have := HVD.out.1; rw [List.length_append]; omega)).mono ?_; rintro e w6 ⟨kC, nC, xC, yC, aC0, mC0, eC0, aC1, mC1, eC1, aC2, mC2, eC2, rfl, hf6, hr6⟩; have F6 := hide hf6; have R6 := hide hr6; clear hf6 hr6; have hz6 := S3V.out _ w6 (show Fr No w1 _ from by repeat (first | with_reducible exact Fr.refl _ _ | with_reducible refine Fr.drew ?_ | with_reducible refine Fr.trans ?_ F2.out | with_reducible refine Fr.trans ?_ F3.out | with_reducible refine Fr.trans ?_ F4.out | with_reducible refine Fr.trans ?_ F5.out | with_reducible refine Fr.alloc ?_ _)) F6.out; (first | (have gt : _ = some (Obj.cells tz 32 (0, 0)) := (by with_reducible exact (H5.out _ (fr_heap (fr_heap (fr_heap (heap_alloc_drew w1 _ _) F2.out (fun e => e)) F3.out (fun e => e)) F4.out (fun e => e)))); have gq := fr_heap gt F6.out (HNV.out w1 (by repeat (first | with_reducible exact Fr.refl _ _ | with_reducible refine Fr.drew ?_ | with_reducible refine Fr.trans ?_ F2.out | with_reducible refine Fr.trans ?_ F3.out | with_reducible refine Fr.trans ?_ F4.out | with_reducible refine Fr.trans ?_ F5.out | with_reducible refine Fr.alloc ?_ _))); have kq := cell_of_heap gq; have zq := frozen_of_heap gq; have lq := lt_of_heap gq; have GQ := hide gq; have GT := hide gt; clear gq gt) | (have gt : _ = some (Obj.cells tz 32 (0, 0)) := (by with_reducible exact (H5.out _ (fr_heap (fr_heap (heap_alloc_new w2 _) F3.out (fun e => e)) F4.out (fun e => e)))); have gq := fr_heap gt F6.out (HNV.out w2 (by repeat (first | with_reducible exact Fr.refl _ _ | with_reducible refine Fr.drew ?_ | with_reducible refine Fr.trans ?_ F2.out | with_reducible refine Fr.trans ?_ F3.out | with_reducible refine Fr.trans ?_ F4.out | with_reducible refine Fr.trans ?_ F5.out | with_reducible refine Fr.alloc ?_ _))); have kq := cell_of_heap gq; have zq := frozen_of_heap gq; have lq := lt_of_heap gq; have GQ := hide gq; have GT := hide gt; clear gq gt) | (have gt : _ = some (Obj.cells tz 32 (0, 0)) := (by with_reducible exact (H5.out _ (fr_heap (heap_alloc_new w3 _) F4.out (fun e => e)))); have gq := fr_heap gt F6.out (HNV.out w3 (by repeat (first | with_reducible exact Fr.refl _ _ | with_reducible refine Fr.drew ?_ | with_reducible refine Fr.trans ?_ F2.out | with_reducible refine Fr.trans ?_ F3.out | with_reducible refine Fr.trans ?_ F4.out | with_reducible refine Fr.trans ?_ F5.out | with_reducible refine Fr.alloc ?_ _))); have kq := cell_of_heap gq; have zq := frozen_of_heap gq; have lq := lt_of_heap gq; have GQ := hide gq; have GT := hide gt; clear gq gt) | (have gt : _ = some (Obj.cells tz 32 (0, 0)) := (by with_reducible exact (H5.out _ (heap_alloc_new w4 _))); have gq := fr_heap gt F6.out (HNV.out w4 (by repeat (first | with_reducible exact Fr.refl _ _ | with_reducible refine Fr.drew ?_ | with_reducible refine Fr.trans ?_ F2.out | with_reducible refine Fr.trans ?_ F3.out | with_reducible refine Fr.trans ?_ F4.out | with_reducible refine Fr.trans ?_ F5.out | with_reducible refine Fr.alloc ?_ _))); have kq := cell_of_heap gq; have zq := frozen_of_heap gq; have lq := lt_of_heap gq; have GQ := hide gq; have GT := hide gt; clear gq gt) | (have gt : _ = some (Obj.cells tz 32 (0, 0)) := (by with_reducible exact (heap_alloc_new w5 _)); have gq := fr_heap gt F6.out (HNV.out w5 (by repeat (first | with_reducible exact Fr.refl _ _ | with_reducible refine Fr.drew ?_ | with_reducible refine Fr.trans ?_ F2.out | with_reducible refine Fr.trans ?_ F3.out | with_reducible refine Fr.trans ?_ F4.out | with_reducible refine Fr.trans ?_ F5.out | with_reducible refine Fr.alloc ?_ _))); have kq := cell_of_heap gq; have zq := frozen_of_heap gq; have lq := lt_of_heap gq; have GQ := hide gq; have GT := hide gt; clear gq gt) | skip)))
    all_goals
      go_wp2_with fail
      go_meet
      case rel => first | (have hgq := GQ.out; have hgt := lt_of_heap GT.out; have hmk := FIN.out _ w6 w6 _ kC nC xC yC aC0 mC0 eC0 aC1 mC1 eC1 aC2 mC2 eC2 (show Fr No w1 _ from by repeat (first | with_reducible exact Fr.refl _ _ | with_reducible refine Fr.drew ?_ | with_reducible refine Fr.trans ?_ F2.out | with_reducible refine Fr.trans ?_ F3.out | with_reducible refine Fr.trans ?_ F4.out | with_reducible refine Fr.trans ?_ F5.out | with_reducible refine Fr.alloc ?_ _)) F6.out R6.out (Fr.refl No w6) hgq (HQX.out _ (by repeat (first | with_reducible exact Fr.refl _ _ | with_reducible refine Fr.drew ?_ | with_reducible refine Fr.trans ?_ F2.out | with_reducible refine Fr.trans ?_ F3.out | with_reducible refine Fr.trans ?_ F4.out | with_reducible refine Fr.trans ?_ F5.out | with_reducible refine Fr.alloc ?_ _))) (.inl hgt); exact hmk) | (have hmk := FIN2.out _ w6 kC nC xC yC aC0 mC0 eC0 aC1 mC1 eC1 aC2 mC2 eC2 (show Fr No w1 _ from by repeat (first | with_reducible exact Fr.refl _ _ | with_reducible refine Fr.drew ?_ | with_reducible refine Fr.trans ?_ F2.out | with_reducible refine Fr.trans ?_ F3.out | with_reducible refine Fr.trans ?_ F4.out | with_reducible refine Fr.trans ?_ F5.out | with_reducible refine Fr.alloc ?_ _)) F6.out R6.out; exact hmk)
  case rest =>
    obtain ⟨q, rfl, hq1, hf, kC, nC, xC, yC, aC0, mC0, eC0, aC1, mC1, eC1, aC2, mC2, eC2, A', hh, hA, hcw⟩ := hcut
    obtain ⟨wE, hwE⟩ : ∃ wE, wE = wc := ⟨_, rfl⟩
    subst hwE
    have kq := cell_of_heap hh
    have lq := lt_of_heap hh
    have FE := hide hf
    have RE := hide hcw
    have HA := hide hA
    have GE := hide (fr_heap BX.out.2 hf (fun e => by have := HVV.out _ e; omega))
    have NE := hide (And.intro (NM1.out.fr hf) (NV1.out.fr hf))
    clear hf hcw hA hh S3F S3V SAL3 HZ3 K3 HNV HNW GR NMA FIN FIN2 BP HQX CAM CNOT COF CT k0 l0
    have hAw : ∀ x, A' x → x < wE.heap.size := fun x hx => (HA.out x hx).elim (fun h => by have := HVV.out x h; have := FE.out.size; omega) (fun h => h.2)
    have HAW := hide hAw
    clear hAw
    go_wp2_with fail
    refine (CCO.out wE _ done (2 * Q) 9 [.int .i64 kC, .int .i64 nC, .string xC, .string yC, .slice aC0 mC0 eC0, .slice aC1 mC1 eC1, .slice aC2 mC2 eC2] A' (.inr rfl) RE.out HAW.out NE.out.1 (by have := HVD.out.2; have := HQQ.out.2.2; omega)).mono ?_
    rintro e w2 ⟨kD, nD, xD, yD, aD0, mD0, eD0, aD1, mD1, eD1, aD2, mD2, eD2, rfl, hf2, hr2⟩
    have F2 := hide hf2
    have R2 := hide hr2
    clear hf2 hr2 kq lq
    go_wp2_with fail
    refine (CCO.out w2 _ vars _ 8 [.int .i64 kD, .int .i64 nD, .string xD, .string yD, .slice aD0 mD0 eD0, .slice aD1 mD1 eD1, .slice aD2 mD2 eD2] _ (.inl rfl) R2.out (fun x hx => hx.elim (fun h => Nat.lt_of_lt_of_le (HAW.out x h) F2.out.size) (fun h => h.2)) (NE.out.2.no F2.out) (by have := HVD.out.1; have := HQQ.out.2.1; omega)).mono ?_
    rintro e w3 ⟨kE, nE, xE, yE, aE0, mE0, eE0, aE1, mE1, eE1, aE2, mE2, eE2, rfl, hf3, hr3⟩
    have F3 := hide hf3
    have R3 := hide hr3
    have G3 := hide (fr_heap (fr_heap GE.out F2.out (fun e => e)) hf3 (fun e => e))
    have k3 := cell_of_heap G3.out
    have z3 := frozen_of_heap G3.out
    have l3 := lt_of_heap G3.out
    clear hf3 hr3
    obtain ⟨s1, s2⟩ := set7 G3.out (.int .i64 kE) (.int .i64 nE) (.string xE) (.string yE) (.slice aE0 mE0 eE0) (.slice aE1 mE1 eE1) (.slice aE2 mE2 eE2)
    have F13 : Fr V w w3 := ((F1.out.mono (fun _ _ e => e.elim)).trans FE.out).no (F2.out.trans F3.out)
    go_wp2_with fail
    refine bodyPost_ret (retT rfl _ _ (w.heap.size + 1) _ _ _ _ _ _ _ (0, 0) rfl s1) rfl ⟨_, rfl, ?_, ?_⟩
    · exact F13.trans' s2 (fun i hi e => by have e : i = w.heap.size + 1 := e; omega)
    · have hs0 := F1.out.size
      have hs1 := FE.out.size
      have hs2 := F2.out.size
      have hs3 := F3.out.size
      have hs4 := s2.size
      have hnr : ∀ x, ((A' x ∨ New wE w2 x) ∨ New w2 w3 x) → (V x ∨ (w1.heap.size ≤ x ∧ x < w3.heap.size)) := fun x hx => by
        rcases hx with (h | h) | h
        · exact (HA.out x h).imp (fun h => h) (fun h => ⟨h.1, by omega⟩)
        · exact .inr ⟨by have := h.1; omega, by have := h.2; omega⟩
        · exact .inr ⟨by have := h.1; omega, h.2⟩
      have hmore := R3.out.more (m' := 4 * Q) (by have := HVD.out; have := HQQ.out; omega)
      refine (hmore.kept (stays_fr s2 (fun x hx _ e => by
        have e : x = w.heap.size + 1 := e
        rcases hnr x hx with h | h
        · have := HVV.out x h; omega
        · have := h.1; omega) (fun _ h => h))).sub (fun x h => (hnr x h).imp (fun h => h) (fun h => ⟨by have := h.1; omega, by have := h.2; omega⟩))
end Go.Proofs.YtomahbdidlglfacGreatDoor
