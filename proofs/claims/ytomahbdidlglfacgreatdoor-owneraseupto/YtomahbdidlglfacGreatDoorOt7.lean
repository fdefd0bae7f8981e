/- own: 'step' at what has no terms but names in it: what lies apart. -/
import Derived.Test.YtomahbdidlglfacGreatDoorOt6Ot8Ot9Le0
namespace Go.Proofs.YtomahbdidlglfacGreatDoor
open Go.RowKit Go.Maps Go.WideMaps

set_option maxRecDepth 100000 in
set_option maxHeartbeats 2000000 in
theorem step_leafD (Q : Nat) (k : Nat) (t : Pu.TT k) (h3 : kindOf k t ≠ 3) (h4 : kindOf k t ≠ 4) (h5 : kindOf k t ≠ 5) (h6 : kindOf k t ≠ 6) (h7 : kindOf k t ≠ 7) : StepD Q k t := by
  intro S w cs ov l hT hS hl _
  obtain ⟨kd, n, x, y, a0, n0, c0, a1, n1, c1, a2, n2, c2, rfl⟩ := hT.form
  obtain ⟨oa, oc, rfl⟩ := hl.form
  have hk := RTS.kn hT.rts
  rw [← hk] at h3 h4 h5 h6 h7
  have d3 : (kd == 3) = false := by simpa using h3
  have d4 : (kd == 4) = false := by simpa using h4
  have d5 : (kd == 5) = false := by simpa using h5
  have d6 : (kd == 6) = false := by simpa using h6
  have d7 : (kd == 7) = false := by simpa using h7
  have HT := hide hT
  clear h3 h4 h5 h6 h7 hk hT hS hl
  show Calls Tryz.prog 75 #[.agg #[.int .i64 kd, .int .i64 n, .string x, .string y, .slice a0 n0 c0, .slice a1 n1 c1, .slice a2 n2 c2], .slice oa l.length oc] w _
  go_enter Tryz.func75, Tryz.ntmps75
  go_wp2_with fail
  have s1 := heap_alloc_new (w.alloc (.cells #[.int .i64 kd, .int .i64 n, .string x, .string y, .slice a0 n0 c0, .slice a1 n1 c1, .slice a2 n2 c2] 32)) (.cells #[.int .i64 kd, .int .i64 n, .string x, .string y, .slice a0 n0 c0, .slice a1 n1 c1, .slice a2 n2 c2] 32)
  rw [World.size_alloc] at s1
  have hf : Fr No w ((w.alloc (.cells #[.int .i64 kd, .int .i64 n, .string x, .string y, .slice a0 n0 c0, .slice a1 n1 c1, .slice a2 n2 c2] 32)).alloc (.cells #[.int .i64 kd, .int .i64 n, .string x, .string y, .slice a0 n0 c0, .slice a1 n1 c1, .slice a2 n2 c2] 32)) := ((Fr.refl No w).alloc _).alloc _
  exact bodyPost_ret (retT rfl _ _ (w.heap.size + 1) _ _ _ _ _ _ _ (0, 0) rfl s1) rfl ⟨_, rfl, hf.mono (fun _ _ e => e.elim), (RTD.cw (HT.out.kept (stays_fr hf (fun _ _ _ e => e) (fun _ h => h)))).sub (fun _ h => .inl h)⟩

set_option maxRecDepth 100000 in
set_option maxHeartbeats 4000000 in
theorem step_conD (Q : Nat) (hQ : Q ≤ 1073741824) (k : Nat) (t : Pu.TT (k + 1)) (h3 : kindOf (k + 1) t = 3 ∨ kindOf (k + 1) t = 4 ∨ kindOf (k + 1) t = 5) : StepD Q (k + 1) t := by
  intro S w cs ov l hT hS hl hql
  obtain ⟨oa, oc, rfl⟩ := hl.form
  obtain ⟨vv, av, cv, acs, ccs, rfl, q2, q3, q4, q5, q6, q7, q8⟩ := hT.rts
  obtain ⟨a0, c0, rfl, _, _⟩ := rowS_form q4.1
  obtain ⟨a1, c1, rfl, _, _⟩ := rowS_form q5
  obtain ⟨a2, c2, rfl, _, _⟩ := rowS_form q7
  obtain ⟨nd, hnd⟩ : ∃ nd : Pu.Node (Pu.TT k), nd = t := ⟨_, rfl⟩
  subst hnd
  have hwt : Pu.wt (k + 1) nd = 1 + nd.vars.length + (nd.args.map (Pu.wt k)).sum + (nd.cases.map fun c => 1 + c.2.1.length + Pu.wt k c.2.2).sum := rfl
  have hla := len_le (Pu.wt k) (wt_pos k) nd.args
  have hqn : nd.args.length ≤ Q := by omega
  have hn : nd.args.length ≤ 1073741824 := by omega
  have hTB := tb_new w #[.int .i64 nd.kind, .int .i64 nd.n, .string nd.name, .string nd.token, .slice a0 nd.vars.length c0, .slice a1 nd.args.length c1, .slice a2 nd.cases.length c2]
  obtain ⟨W0, hW0⟩ : ∃ W0, W0 = ((w.alloc (.cells #[.int .i64 nd.kind, .int .i64 nd.n, .string nd.name, .string nd.token, .slice a0 nd.vars.length c0, .slice a1 nd.args.length c1, .slice a2 nd.cases.length c2] 32)).alloc (.cells #[.int .i64 0, .int .i64 0, .string ⟨#[]⟩, .string ⟨#[]⟩, .slice none 0 0, .slice none 0 0, .slice none 0 0] 32)) := ⟨_, rfl⟩
  rw [← hW0] at hTB
  have CNI : Hid (∀ W, Fr No w W → Calls Tryz.prog 109 #[.slice a1 nd.args.length c1] W fun e w' => ∃ a c, e = .returned (.slice a (namesOf k nd.args).length c) ∧ Fr No W w' ∧ Names w'.heap.size w' (.slice a (namesOf k nd.args).length c) (namesOf k nd.args)) := fun W hW =>
    namesIn_any k w.heap.size _ acs nd.args W ((q5.kept (stays_of_fr hW)).row (fun g hg => hS g hg)) ((q6.mono fun _ _ h => h.kept (stays_of_fr hW)).mono fun _ _ h => RTS.rt (fun g hg => hS g hg) h) hW.size hn
  have CRP : Hid (∀ W v, Names W.heap.size W v (namesOf k nd.args) → Calls Tryz.prog 108 #[v] W fun e w' => ∃ a c, e = .returned (.slice a (rep (namesOf k nd.args)).length c) ∧ Fr No W w' ∧ Names w'.heap.size w' (.slice a (rep (namesOf k nd.args)).length c) (rep (namesOf k nd.args))) := fun W v hv =>
    repeated_any W.heap.size v _ W hv (Nat.le_refl _) (Nat.le_trans (namesOf_le k nd.args) hn)
  have CCO : Hid (∀ W v, TB w #[.int .i64 nd.kind, .int .i64 nd.n, .string nd.name, .string nd.token, .slice a0 nd.vars.length c0, .slice a1 nd.args.length c1, .slice a2 nd.cases.length c2] W → Names W.heap.size W v (rep (namesOf k nd.args)) → Calls Tryz.prog 72 #[.int .i64 8, v, .agg #[.int .i64 nd.kind, .int .i64 nd.n, .string nd.name, .string nd.token, .slice a0 nd.vars.length c0, .slice a1 nd.args.length c1, .slice a2 nd.cases.length c2]] W fun e w' => ∃ kd' n' x' y' a0' n0' c0' a1' n1' c1' a2' n2' c2', e = .returned (.agg #[.int .i64 kd', .int .i64 n', .string x', .string y', .slice a0' n0' c0', .slice a1' n1' c1', .slice a2' n2' c2']) ∧ Fr No W w' ∧ CW (4 * Q) (k + 1) Q w' (fun g => S g ∨ (w.heap.size + 2 ≤ g ∧ g < w'.heap.size)) [.int .i64 kd', .int .i64 n', .string x', .string y', .slice a0' n0' c0', .slice a1' n1' c1', .slice a2' n2' c2'] nd) := fun W v hW hv => by
    have h1 := repTo_le (namesOf k nd.args) (namesOf k nd.args).length
    have h2 := namesOf_le k nd.args
    have h3 : (rep (namesOf k nd.args)).length ≤ Q := by unfold rep; omega
    refine (countD_any (4 * Q) (k + 1) 0 S W.heap.size 8 (.inl rfl) v _ (by omega) nd _ W hv (RTD.cw (hT.kept (stays_of_fr hW.fr))) (fun g hg => Nat.lt_of_lt_of_le (hS g hg) hW.fr.size)).mono fun e w' ⟨cs', he, hf, hr⟩ => ?_
    have hr := hr.more (m' := Q) (by omega)
    obtain ⟨_, _, _, _, _, _, _, _, _, _, _, _, _, rfl⟩ := hr.form
    exact ⟨_, _, _, _, _, _, _, _, _, _, _, _, _, he, hf, hr.sub (fun g hg => hg.imp (fun h => h) (fun h => ⟨Nat.le_trans (lt_of_heap hW.r) h.1, h.2⟩))⟩
  have T0 := hide hTB
  have HSS := hide hS
  have HW0 := hide hW0
  have hk : nd.kind = 3 ∨ nd.kind = 4 ∨ nd.kind = 5 := h3
  have k0 := cell_of_heap hTB.t
  have l0 := lt_of_heap hTB.t
  have l1 := lt_of_heap hTB.r
  rw [hW0] at k0 l0 l1
  obtain ⟨kd, hkd⟩ : ∃ kd, kd = nd.kind := ⟨_, rfl⟩
  have HKD := hide hkd
  rw [← hkd] at CCO T0 k0 hk HW0
  show Calls Tryz.prog 75 #[.agg #[.int .i64 nd.kind, .int .i64 nd.n, .string nd.name, .string nd.token, .slice a0 nd.vars.length c0, .slice a1 nd.args.length c1, .slice a2 nd.cases.length c2], .slice oa l.length oc] w _
  rw [← hkd]
  clear hT hS hl hW0 hTB q2 q3 q4 q5 q6 q7 q8 h3 hkd hwt hla hqn hql hn
  have CASE : ∀ (kd0 : Int), kd = kd0 → (kd0 = 3 ∨ kd0 = 4 ∨ kd0 = 5) → Calls Tryz.prog 75 #[.agg #[.int .i64 kd, .int .i64 nd.n, .string nd.name, .string nd.token, .slice a0 nd.vars.length c0, .slice a1 nd.args.length c1, .slice a2 nd.cases.length c2], .slice oa l.length oc] w fun e w' => ∃ cs', e = .returned (.agg cs'.toArray) ∧ Fr S w w' ∧ CW (4 * Q) (k + 1) Q w' (fun g => S g ∨ New w w' g) cs' nd := by
    intro kd0 hk0 hc
    rcases hc with rfl | rfl | rfl
    all_goals
      subst hk0
      go_enter Tryz.func75, Tryz.ntmps75
      go_wp2_with fail
      rw [← HW0.out]
      clear k0 l0 l1
      have k1 := cell_of_heap T0.out.t
      have q1 := lt_of_heap T0.out.t
      have q2 := lt_of_heap T0.out.r
      go_region_with (first
        | (go_at_call 109; refine (CNI.out _ (by first | exact T0.out.fr.drew | exact T0.out.fr)).mono ?_; rintro e w2 ⟨a3, c3, rfl, hf2, hn2⟩; have T2 := hide (T0.out.step ((Fr.refl No _).drew.trans hf2)); have N2 := hide hn2; have k2 := cell_of_heap T2.out.t; have q3 := lt_of_heap T2.out.t; clear hf2 hn2 CNI)
        | (go_at_call 108; refine (CRP.out _ _ N2.out).mono ?_; rintro e w3 ⟨a4, c4, rfl, hf3, hn3⟩; have T3 := hide (T2.out.step hf3); have N3 := hide hn3; have k3 := cell_of_heap T3.out.t; have q4 := lt_of_heap T3.out.t; clear hf3 hn3 N2)
        | (go_at_call 72; refine (CCO.out _ _ T3.out N3.out).mono ?_; rintro e w6 ⟨kd', n', x', y', a0', n0', c0', a1', n1', c1', a2', n2', c2', rfl, hf6, hr6⟩; have TB6 := hide (T3.out.step hf6); have R6 := hide hr6; have k6 := cell_of_heap TB6.out.r; have z6 := frozen_of_heap TB6.out.r; have q6 := lt_of_heap TB6.out.r; clear hf6 hr6))
    all_goals
      obtain ⟨s1, s2⟩ := set7 TB6.out.r (.int .i64 kd') (.int .i64 n') (.string x') (.string y') (.slice a0' n0' c0') (.slice a1' n1' c1') (.slice a2' n2' c2')
      go_wp2_with fail
      refine bodyPost_ret (retT rfl _ _ (w.heap.size + 1) _ _ _ _ _ _ _ (0, 0) rfl s1) rfl ⟨_, rfl, ?_, ?_⟩
      · exact (TB6.out.fr.trans' s2 (fun i hi e => by have e : i = w.heap.size + 1 := e; omega)).mono (fun _ _ e => e.elim)
      · have hs := TB6.out.fr.size
        have hS6 := HSS.out
        refine (R6.out.kept (stays_fr s2 (fun g hg _ e => by
          have e : g = w.heap.size + 1 := e
          rcases hg with h | h
          · have := hS6 g h; omega
          · have := h.1; omega) (fun _ h => h))).sub (fun g h => h.imp (fun h => h) (fun h => ⟨by have := h.1; omega, Nat.lt_of_lt_of_le h.2 s2.size⟩))
  exact CASE kd rfl hk
end Go.Proofs.YtomahbdidlglfacGreatDoor
