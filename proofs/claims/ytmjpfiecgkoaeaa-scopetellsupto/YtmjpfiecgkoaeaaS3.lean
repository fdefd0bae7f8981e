/- 'Same', walked. -/
import Derived.Test.YtmjpfiecgkoaeaaS2
namespace Go.Proofs.Ytmjpfiecgkoaeaa
open Go.RowKit Go.Maps Go.WideMaps

set_option maxHeartbeats 4000000 in
theorem same_node (k : Nat) (hS : SameC k) : SameC (k + 1) := by
  intro B1 B2 w cs1 cs2 s t ht1 ht2 hB1 hB2
  obtain ⟨vv, av, cv, acs, ccs, rfl, _, _, hv1, hr1, he1, hq1, hf1⟩ := ht1
  obtain ⟨vv', av', cv', acs', ccs', rfl, _, _, hv2, hr2, he2, hq2, hf2⟩ := ht2
  obtain ⟨a0, d0, rfl, _⟩ := hv1.1.form
  obtain ⟨a1, d1, rfl, _⟩ := hr1.form
  obtain ⟨a2, d2, rfl, _⟩ := hq1.form
  obtain ⟨b0, f0, rfl, _⟩ := hv2.1.form
  obtain ⟨b1, f1, rfl, _⟩ := hr2.form
  obtain ⟨b2, f2, rfl, _⟩ := hq2.form
  have C29 : Hid (∀ W, Fr No w W → Calls Try.prog 29 #[.slice a0 s.vars.length d0, .slice b0 t.vars.length f0] W fun e w' => e = .returned (.bool (decide (s.vars = t.vars))) ∧ Fr No W w') := fun W hW => equal_any B1 B2 _ _ _ _ W (hv1.fr hW) (hv2.fr hW)
  have C30 : Hid (∀ W, Fr No w W → Calls Try.prog 30 #[.slice a1 s.args.length d1, .slice b1 t.args.length f1, .func (.func 10) #[] #[]] W fun e w' => e = .returned (.bool (Pu.sameList (Pu.same k) s.args t.args)) ∧ Fr No W w') := fun W hW =>
    equalTerms_any k hS B1 B2 _ _ _ _ _ _ W (hr1.old (hW.old hB1 (fun _ _ e => e)) hW.size) (args_old he1 (hW.old hB1 (fun _ _ e => e)) hW.size) (hr2.old (hW.old hB2 (fun _ _ e => e)) hW.size) (args_old he2 (hW.old hB2 (fun _ _ e => e)) hW.size) (Nat.le_trans hB1 hW.size) (Nat.le_trans hB2 hW.size)
  have C31 : Hid (∀ W, Fr No w W → Calls Try.prog 31 #[.slice a2 s.cases.length d2, .slice b2 t.cases.length f2, .func (.func 32) #[] #[]] W fun e w' => e = .returned (.bool (Pu.sameList (Pu.sameCase (Pu.same k)) s.cases t.cases)) ∧ Fr No W w') := fun W hW =>
    equalCases_any k hS B1 B2 _ _ _ _ _ _ W (hq1.old (hW.old hB1 (fun _ _ e => e)) hW.size) (cases_old hf1 (hW.old hB1 (fun _ _ e => e)) hW.size) (hq2.old (hW.old hB2 (fun _ _ e => e)) hW.size) (cases_old hf2 (hW.old hB2 (fun _ _ e => e)) hW.size) (Nat.le_trans hB1 hW.size) (Nat.le_trans hB2 hW.size)
  have hdef : Pu.same (k + 1) s t = (decide (s.kind = t.kind) && decide (s.n = t.n) && decide (s.name = t.name) && decide (s.token = t.token) && decide (s.vars = t.vars) && Pu.sameList (Pu.same k) s.args t.args && Pu.sameList (Pu.sameCase (Pu.same k)) s.cases t.cases) := rfl
  have HDEF := hide hdef
  clear hv1 hr1 he1 hq1 hf1 hv2 hr2 he2 hq2 hf2 hS hdef
  obtain ⟨kd, hkd⟩ : ∃ kd, kd = s.kind := ⟨_, rfl⟩
  obtain ⟨kd', hkd'⟩ : ∃ kd, kd = t.kind := ⟨_, rfl⟩
  obtain ⟨n, hn⟩ : ∃ n, n = s.n := ⟨_, rfl⟩
  obtain ⟨n', hn'⟩ : ∃ n, n = t.n := ⟨_, rfl⟩
  obtain ⟨x, hx⟩ : ∃ x, x = s.name := ⟨_, rfl⟩
  obtain ⟨x', hx'⟩ : ∃ x, x = t.name := ⟨_, rfl⟩
  obtain ⟨y, hy⟩ : ∃ x, x = s.token := ⟨_, rfl⟩
  obtain ⟨y', hy'⟩ : ∃ x, x = t.token := ⟨_, rfl⟩
  show Calls Try.prog 10 #[.agg #[.int .i64 s.kind, .int .i64 s.n, .string s.name, .string s.token, .slice a0 s.vars.length d0, .slice a1 s.args.length d1, .slice a2 s.cases.length d2], .agg #[.int .i64 t.kind, .int .i64 t.n, .string t.name, .string t.token, .slice b0 t.vars.length f0, .slice b1 t.args.length f1, .slice b2 t.cases.length f2]] w _
  rw [← hkd, ← hkd', ← hn, ← hn', ← hx, ← hx', ← hy, ← hy']
  rw [← hkd, ← hkd', ← hn, ← hn', ← hx, ← hx', ← hy, ← hy'] at HDEF
  clear hkd hkd' hn hn' hx hx' hy hy'
  have FW : Hid (∀ o1 o2, Fr No w ((w.alloc o1).alloc o2)) := fun o1 o2 => ((Fr.refl No w).alloc o1).alloc o2
  by_cases h1 : kd = kd'
  rotate_left
  · go_enter Try.func10, Try.ntmps10
    go_wp2_with fail
    go_ret
    rw [HDEF.out, decide_eq_false h1]
    exact ⟨by simp, FW.out _ _⟩
  subst h1
  by_cases h2 : n = n'
  rotate_left
  · go_enter Try.func10, Try.ntmps10
    go_wp2_with fail
    go_ret
    rw [HDEF.out, decide_eq_false h2]
    exact ⟨by simp, FW.out _ _⟩
  subst h2
  by_cases h3 : x = x'
  rotate_left
  · have h3' := str_ne' h3
    go_enter Try.func10, Try.ntmps10
    go_wp2_with fail
    go_ret
    rw [HDEF.out, decide_eq_false h3]
    exact ⟨by simp, FW.out _ _⟩
  subst h3
  by_cases h4 : y = y'
  rotate_left
  · have h4' := str_ne' h4
    go_enter Try.func10, Try.ntmps10
    go_wp2_with fail
    go_ret
    rw [HDEF.out, decide_eq_false h4]
    exact ⟨by simp, FW.out _ _⟩
  subst h4
  go_enter Try.func10, Try.ntmps10
  go_wp2_with fail
  refine (C29.out _ (FW.out _ _)).mono ?_
  obtain ⟨eb, heb⟩ : ∃ eb, decide (s.vars = t.vars) = eb := ⟨_, rfl⟩
  rw [heb]
  have HEB := hide heb
  clear heb
  rintro e w1 ⟨rfl, hf1⟩
  have F1 := hide ((FW.out _ _).trans hf1)
  have g0 := fr_heap (heap_alloc_new w (.cells #[.int .i64 kd, .int .i64 n, .string x, .string y, .slice a0 s.vars.length d0, .slice a1 s.args.length d1, .slice a2 s.cases.length d2] 27)) ((Fr.refl No _).alloc (.cells #[.int .i64 kd, .int .i64 n, .string x, .string y, .slice b0 t.vars.length f0, .slice b1 t.args.length f1, .slice b2 t.cases.length f2] 27)) (fun e => e)
  have g1 := heap_alloc_new (w.alloc (.cells #[.int .i64 kd, .int .i64 n, .string x, .string y, .slice a0 s.vars.length d0, .slice a1 s.args.length d1, .slice a2 s.cases.length d2] 27)) (.cells #[.int .i64 kd, .int .i64 n, .string x, .string y, .slice b0 t.vars.length f0, .slice b1 t.args.length f1, .slice b2 t.cases.length f2] 27)
  rw [World.size_alloc] at g1
  have g0' := fr_heap g0 hf1 (fun e => e)
  have g1' := fr_heap g1 hf1 (fun e => e)
  have c0 := cell_of_heap g0'
  have c1 := cell_of_heap g1'
  have G0 := hide g0'
  have G1 := hide g1'
  clear hf1 g0 g1 g0' g1'
  cases eb with
  | false =>
    go_wp2_with fail
    go_ret
    rw [HDEF.out, HEB.out]
    exact ⟨by simp, F1.out⟩
  | true =>
    go_wp2_with fail
    refine (C30.out _ F1.out).mono ?_
    obtain ⟨ab, hab⟩ : ∃ ab, Pu.sameList (Pu.same k) s.args t.args = ab := ⟨_, rfl⟩
    rw [hab]
    have HAB := hide hab
    clear hab
    rintro e w2 ⟨rfl, hf2⟩
    have F2 := hide (F1.out.trans hf2)
    clear c0 c1
    have c0 := cell_of_heap (fr_heap G0.out hf2 (fun e => e))
    have c1 := cell_of_heap (fr_heap G1.out hf2 (fun e => e))
    clear hf2
    cases ab with
    | false =>
      go_wp2_with fail
      go_ret
      rw [HDEF.out, HAB.out]
      exact ⟨by simp, F2.out⟩
    | true =>
      go_wp2_with fail
      refine (C31.out _ F2.out).mono ?_
      rintro e w3 ⟨rfl, hf3⟩
      have F3 := hide (F2.out.trans hf3)
      clear hf3
      go_wp2_with fail
      go_ret
      rw [HDEF.out, HEB.out, HAB.out]
      exact ⟨by simp, F3.out⟩

theorem same_all : ∀ k, SameC k
  | 0 => fun _ _ _ _ _ _ _ h => h.elim
  | k + 1 => same_node k (same_all k)
end Go.Proofs.Ytmjpfiecgkoaeaa
