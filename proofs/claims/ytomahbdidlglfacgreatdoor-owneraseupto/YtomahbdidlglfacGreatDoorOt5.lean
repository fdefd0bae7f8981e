/- own: 'step' at terms that have no terms but names in them, walked. -/
import Derived.Test.YtomahbdidlglfacGreatDoorOt4
namespace Go.Proofs.YtomahbdidlglfacGreatDoor
open Go.RowKit Go.Maps Go.WideMaps

theorem rowS_form {S : Nat → Prop} {w : World} {v : Value} {n : Nat} {xs : List Value} (h : RowS S w v n xs) : ∃ a cap, v = .slice a n cap ∧ n ≤ cap ∧ cap ≤ maxLen := by
  obtain ⟨a, cap, h1, h2, h3, _⟩ := h
  exact ⟨a, cap, h1, h2, h3⟩

theorem tb_new (w : World) (cs : Array Value) : TB w cs ((w.alloc (.cells cs 32)).alloc (.cells #[.int .i64 0, .int .i64 0, .string ⟨#[]⟩, .string ⟨#[]⟩, .slice none 0 0, .slice none 0 0, .slice none 0 0] 32)) := by
  refine ⟨((Fr.refl No w).alloc _).alloc _, fr_heap (heap_alloc_new w _) ((Fr.refl No _).alloc _) (fun e => e), ?_⟩
  have h := heap_alloc_new (w.alloc (.cells cs 32)) (.cells #[.int .i64 0, .int .i64 0, .string ⟨#[]⟩, .string ⟨#[]⟩, .slice none 0 0, .slice none 0 0, .slice none 0 0] 32)
  rw [World.size_alloc] at h
  exact h
theorem RTS.kn {k : Nat} {S : Nat → Prop} {w : World} {kd n : Int} {x y : ByteArray} {c4 c5 c6 : Value} {t : Pu.TT k} (h : RTS k S w [.int .i64 kd, .int .i64 n, .string x, .string y, c4, c5, c6] t) : kd = kindOf k t := by
  cases k with
  | zero => exact h.elim
  | succ k =>
    obtain ⟨_, _, _, _, _, h1, _⟩ := h
    injection h1 with e1 h1
    injection e1 with _ e1

set_option maxRecDepth 100000 in
set_option maxHeartbeats 4000000 in
theorem step_con (k : Nat) (t : Pu.TT (k + 1)) (h3 : kindOf (k + 1) t = 3 ∨ kindOf (k + 1) t = 4 ∨ kindOf (k + 1) t = 5) (hn : (show Pu.Node (Pu.TT k) from t).args.length ≤ 1073741824) : StepC (k + 1) t (cnt 8 (rep (namesOf k (show Pu.Node (Pu.TT k) from t).args)) ⟨k + 1, t⟩) := by
  intro S w cs ov l hT hS hl
  obtain ⟨oa, oc, rfl, _, _⟩ := hl.1.form
  obtain ⟨vv, av, cv, acs, ccs, rfl, q2, q3, q4, q5, q6, q7, q8⟩ := id hT
  obtain ⟨a0, c0, rfl, _, _⟩ := rowS_form q4.1
  obtain ⟨a1, c1, rfl, _, _⟩ := rowS_form q5
  obtain ⟨a2, c2, rfl, _, _⟩ := rowS_form q7
  obtain ⟨nd, hnd⟩ : ∃ nd : Pu.Node (Pu.TT k), nd = t := ⟨_, rfl⟩
  subst hnd
  have hn' : nd.args.length ≤ 1073741824 := hn
  have hTB := tb_new w #[.int .i64 nd.kind, .int .i64 nd.n, .string nd.name, .string nd.token, .slice a0 nd.vars.length c0, .slice a1 nd.args.length c1, .slice a2 nd.cases.length c2]
  obtain ⟨W0, hW0⟩ : ∃ W0, W0 = ((w.alloc (.cells #[.int .i64 nd.kind, .int .i64 nd.n, .string nd.name, .string nd.token, .slice a0 nd.vars.length c0, .slice a1 nd.args.length c1, .slice a2 nd.cases.length c2] 32)).alloc (.cells #[.int .i64 0, .int .i64 0, .string ⟨#[]⟩, .string ⟨#[]⟩, .slice none 0 0, .slice none 0 0, .slice none 0 0] 32)) := ⟨_, rfl⟩
  rw [← hW0] at hTB
  have CNI : Hid (∀ W, Fr No w W → Calls Tryz.prog 109 #[.slice a1 nd.args.length c1] W fun e w' => ∃ a c, e = .returned (.slice a (namesOf k nd.args).length c) ∧ Fr No W w' ∧ Names w'.heap.size w' (.slice a (namesOf k nd.args).length c) (namesOf k nd.args)) := fun W hW =>
    namesIn_any k w.heap.size _ acs nd.args W ((q5.kept (stays_of_fr hW)).row (fun g hg => hS g hg)) ((q6.mono fun _ _ h => h.kept (stays_of_fr hW)).mono fun _ _ h => RTS.rt (fun g hg => hS g hg) h) hW.size hn
  have CRP : Hid (∀ W v, Names W.heap.size W v (namesOf k nd.args) → Calls Tryz.prog 108 #[v] W fun e w' => ∃ a c, e = .returned (.slice a (rep (namesOf k nd.args)).length c) ∧ Fr No W w' ∧ Names w'.heap.size w' (.slice a (rep (namesOf k nd.args)).length c) (rep (namesOf k nd.args))) := fun W v hv =>
    repeated_any W.heap.size v _ W hv (Nat.le_refl _) (Nat.le_trans (namesOf_le k nd.args) hn)
  have CCO : Hid (∀ W v, TB w #[.int .i64 nd.kind, .int .i64 nd.n, .string nd.name, .string nd.token, .slice a0 nd.vars.length c0, .slice a1 nd.args.length c1, .slice a2 nd.cases.length c2] W → Names W.heap.size W v (rep (namesOf k nd.args)) → Calls Tryz.prog 72 #[.int .i64 8, v, .agg #[.int .i64 nd.kind, .int .i64 nd.n, .string nd.name, .string nd.token, .slice a0 nd.vars.length c0, .slice a1 nd.args.length c1, .slice a2 nd.cases.length c2]] W fun e w' => ∃ kd' n' x' y' a0' n0' c0' a1' n1' c1' a2' n2' c2', e = .returned (.agg #[.int .i64 kd', .int .i64 n', .string x', .string y', .slice a0' n0' c0', .slice a1' n1' c1', .slice a2' n2' c2']) ∧ Fr No W w' ∧ RS (fun g => S g ∨ (w.heap.size + 2 ≤ g ∧ g < w'.heap.size)) w' [.int .i64 kd', .int .i64 n', .string x', .string y', .slice a0' n0' c0', .slice a1' n1' c1', .slice a2' n2' c2'] (cnt 8 (rep (namesOf k nd.args)) ⟨k + 1, nd⟩)) := fun W v hW hv =>
    (count_any S W.heap.size 8 wf8 v _ (by have h1 := repTo_le (namesOf k nd.args) (namesOf k nd.args).length; have h2 := namesOf_le k nd.args; unfold rep; omega) ⟨k + 1, nd⟩ _ W hv (hT.kept (stays_of_fr hW.fr)) (fun g hg => Nat.lt_of_lt_of_le (hS g hg) hW.fr.size)).mono fun e w' ⟨cs', he, hf, hr⟩ => by
      obtain ⟨_, _, _, _, _, _, _, _, _, _, _, _, _, rfl⟩ := hr.form
      exact ⟨_, _, _, _, _, _, _, _, _, _, _, _, _, he, hf, hr.kept ⟨Nat.le_refl _, fun g hg hl => ⟨hg.imp (fun h => h) (fun h => ⟨Nat.le_trans (lt_of_heap hW.r) h.1, h.2⟩), rfl⟩⟩⟩
  have T0 := hide hTB
  have HSS := hide hS
  have HW0 := hide hW0
  have hk : nd.kind = 3 ∨ nd.kind = 4 ∨ nd.kind = 5 := h3
  have k0 := cell_of_heap hTB.t
  have l0 := lt_of_heap hTB.t
  have l1 := lt_of_heap hTB.r
  rw [hW0] at k0 l0 l1
  obtain ⟨kd, hkd⟩ : ∃ kd, kd = nd.kind := ⟨_, rfl⟩
  have HKD := hide hkd
  rw [← hkd] at CCO T0 k0 hk HW0
  show Calls Tryz.prog 75 #[.agg #[.int .i64 nd.kind, .int .i64 nd.n, .string nd.name, .string nd.token, .slice a0 nd.vars.length c0, .slice a1 nd.args.length c1, .slice a2 nd.cases.length c2], .slice oa l.length oc] w _
  rw [← hkd]
  clear hT hS hl hW0 hTB q2 q3 q4 q5 q6 q7 q8 h3 hkd
  have CASE : ∀ (kd0 : Int), kd = kd0 → (kd0 = 3 ∨ kd0 = 4 ∨ kd0 = 5) → Calls Tryz.prog 75 #[.agg #[.int .i64 kd, .int .i64 nd.n, .string nd.name, .string nd.token, .slice a0 nd.vars.length c0, .slice a1 nd.args.length c1, .slice a2 nd.cases.length c2], .slice oa l.length oc] w fun e w' => ∃ cs', e = .returned (.agg cs'.toArray) ∧ Fr No w w' ∧ RS (fun g => S g ∨ New w w' g) w' cs' (cnt 8 (rep (namesOf k nd.args)) ⟨k + 1, nd⟩) := by
    intro kd0 hk0 hc
    rcases hc with rfl | rfl | rfl
    all_goals
      subst hk0
      go_enter Tryz.func75, Tryz.ntmps75
      go_wp2_with fail
      rw [← HW0.out]
      clear k0 l0 l1
      have k1 := cell_of_heap T0.out.t
      have q1 := lt_of_heap T0.out.t
      have q2 := lt_of_heap T0.out.r
      go_region_with (first
        | (go_at_call 109; refine (CNI.out _ (by first | exact T0.out.fr.drew | exact T0.out.fr)).mono ?_; rintro e w2 ⟨a3, c3, rfl, hf2, hn2⟩; have T2 := hide (T0.out.step ((Fr.refl No _).drew.trans hf2)); have N2 := hide hn2; have k2 := cell_of_heap T2.out.t; have q3 := lt_of_heap T2.out.t; clear hf2 hn2 CNI)
        | (go_at_call 108; refine (CRP.out _ _ N2.out).mono ?_; rintro e w3 ⟨a4, c4, rfl, hf3, hn3⟩; have T3 := hide (T2.out.step hf3); have N3 := hide hn3; have k3 := cell_of_heap T3.out.t; have q4 := lt_of_heap T3.out.t; clear hf3 hn3 N2)
        | (go_at_call 72; refine (CCO.out _ _ T3.out N3.out).mono ?_; rintro e w6 ⟨kd', n', x', y', a0', n0', c0', a1', n1', c1', a2', n2', c2', rfl, hf6, hr6⟩; have TB6 := hide (T3.out.step hf6); have R6 := hide hr6; have k6 := cell_of_heap TB6.out.r; have z6 := frozen_of_heap TB6.out.r; have q6 := lt_of_heap TB6.out.r; clear hf6 hr6))
    all_goals
      obtain ⟨s1, s2⟩ := set7 TB6.out.r (.int .i64 kd') (.int .i64 n') (.string x') (.string y') (.slice a0' n0' c0') (.slice a1' n1' c1') (.slice a2' n2' c2')
      go_wp2_with fail
      refine bodyPost_ret (retT rfl _ _ (w.heap.size + 1) _ _ _ _ _ _ _ (0, 0) rfl s1) rfl ⟨_, rfl, ?_, ?_⟩
      · exact TB6.out.fr.trans' s2 (fun i hi e => by have e : i = w.heap.size + 1 := e; omega)
      · have hs := TB6.out.fr.size
        have hS6 := HSS.out
        exact R6.out.kept ⟨s2.size, fun g hg hl => ⟨hg.imp (fun h => h) (fun h => ⟨by omega, Nat.lt_of_lt_of_le hl s2.size⟩), s2.block g hl (fun e => by
          have e : g = w.heap.size + 1 := e
          rcases hg with h | h
          · have := hS6 g h; omega
          · omega)⟩⟩
  exact CASE kd rfl hk
end Go.Proofs.YtomahbdidlglfacGreatDoor
