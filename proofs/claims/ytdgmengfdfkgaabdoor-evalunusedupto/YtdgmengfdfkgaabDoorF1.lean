/- EvalFuel's own body, over a contract of 'alive'. -/
import Derived.Test.YtdgmengfdfkgaabDoorE13
import Derived.Test.YtdgmengfdfkgaabDoorE1
import Derived.Test.YtdgmengfdfkgaabDoorR11
import Derived.Test.YtdgmengfdfkgaabDoorPm
import Derived.Test.YtdgmengfdfkgaabDoorP2Laid
namespace Go.Proofs.YtdgmengfdfkgaabDoor
open Go.RowKit Go.Maps Go.WideMaps

/-- What 'alive' answers. -/
def AliveC : Prop := ∀ w : World, Env w → 3 ≤ w.heap.size → Calls Tryd.prog 8 #[] w fun e w' => e = .returned (.bool true) ∧ Fr No w w'

theorem wf_mem {K : Nat} {l : List (Pu.Fn K)} {n : Nat} (h : (l.map wf).sum ≤ n) : ∀ f ∈ l, Pu.wt K f.2.2 ≤ n := fun f hf => by
  have h1 := wt_mem wf l f hf
  have h2 : wf f = 1 + f.2.1.length + Pu.wt K f.2.2 := rfl
  omega
theorem Ints.fr {B : Nat} {w w' : World} {v : Value} {l : List Int} (h : Ints B w v l) (hB : B ≤ w.heap.size) (hf : Fr No w w') : Ints B w' v l := Row.old h (hf.old hB (fun _ _ e => e)) hf.size

set_option maxRecDepth 100000 in
set_option maxHeartbeats 4000000 in
theorem evalFuel_any (hAl : AliveC) (K B : Nat) (w : World) (fv av : Value) (l : List (Pu.Fn K)) (name : ByteArray) (args : List Int) (fuel more : Int) (hl : Fns K B w fv l) (ha : Ints B w av args) (hB : B ≤ w.heap.size) (hn : args.length ≤ 1048576) (hw : (l.map wf).sum ≤ 1048576) (henv : Env w) (h3 : 3 ≤ w.heap.size) :
    Calls Tryd.prog 3 #[fv, .string name, av, .int .i64 fuel, .int .i64 more] w fun e w' => e = .returned (.bool true) ∧ Fr No w w' := by
  obtain ⟨aa, ac, rfl, _⟩ := Row.form ha
  obtain ⟨fa, fc, rfl, _⟩ : ∃ a cap, fv = .slice a l.length cap ∧ l.length ≤ cap ∧ cap ≤ maxLen := by obtain ⟨acs, hr, _⟩ := hl; exact hr.form
  have CA := hide (hAl w henv h3)
  have CC : Hid (∀ W, Fr No w W → Calls Tryd.prog 9 #[.slice fa l.length fc] W fun e w' => e = .returned (.int .i64 (Pu.check l)) ∧ Fr No W w') := fun W hW =>
    rcheck_any K B W _ l (hl.old (hW.old hB (fun _ _ e => e)) hW.size) (Nat.le_trans hB hW.size) (by omega)
  have CR : Hid (∀ W fu, Fr No w W → Calls Tryd.prog 10 #[.slice fa l.length fc, .string name, .slice aa args.length ac, .int .i64 fu] W fun e w' => Ans Any w' e (Pu.run l name args fu).1 (Pu.run l name args fu).2 ∧ Fr No W w') := fun W fu hW =>
    run_any K B W _ _ l name args fu (hl.old (hW.old hB (fun _ _ e => e)) hW.size) (ha.fr hB hW) (Nat.le_trans hB hW.size) hn (wf_mem hw)
  have HZ : Hid (∀ fu, (Pu.run l name args fu).2 ≠ 0 → (Pu.run l name args fu).1 = Pu.V.zero) := fun fu => Pu.run_zed l name args fu
  have HK : Hid (¬ (fuel < 0 ∨ 300 < fuel) → ¬ (more < 0 ∨ 300 < more) → fuel ≤ more → (Pu.run l name args fuel).2 ≠ 12 → Pu.run l name args more = Pu.run l name args fuel) := fun h1 h2 h3 h4 => Pu.run_keeps l name args fuel more h1 h2 h3 h4
  obtain ⟨ck, hck⟩ : ∃ ck, ck = Pu.check l := ⟨_, rfl⟩
  rw [← hck] at CC
  obtain ⟨R1, hR1⟩ : ∃ R1, R1 = Pu.run l name args fuel := ⟨_, rfl⟩
  obtain ⟨R2, hR2⟩ : ∃ R2, R2 = Pu.run l name args more := ⟨_, rfl⟩
  have C1 := fun W => CR.out W fuel
  have C2 := fun W => CR.out W more
  have Z1 := HZ.out fuel
  rw [← hR1] at Z1 HK
  rw [← hR2] at HK
  have HC1 : Hid (∀ W, Fr No w W → Calls Tryd.prog 10 #[.slice fa l.length fc, .string name, .slice aa args.length ac, .int .i64 fuel] W fun e w' => Ans Any w' e R1.1 R1.2 ∧ Fr No W w') := by rw [hR1]; exact C1
  have HC2 : Hid (∀ W, Fr No w W → Calls Tryd.prog 10 #[.slice fa l.length fc, .string name, .slice aa args.length ac, .int .i64 more] W fun e w' => Ans Any w' e R2.1 R2.2 ∧ Fr No W w') := by rw [hR2]; exact C2
  have HZ1 := hide Z1
  clear hl ha hw henv hck hR1 hR2 C1 C2 Z1 CR HZ hAl
  have TR : Hid (∀ W : World, Fr No w W → Fr No w W) := fun _ h => h
  by_cases hck0 : ck = 0
  rotate_left
  · have hc : (ck != 0) = true := by simpa using hck0
    go_enter Tryd.func3, Tryd.ntmps3
    go_wp2_with fail
    refine CA.out.mono ?_
    rintro e w1 ⟨rfl, hf1⟩
    have F1 := hide hf1
    clear hf1
    go_wp2_with fail
    refine (CC.out _ F1.out).mono ?_
    rintro e w2 ⟨rfl, hf2⟩
    have F2 := hide (F1.out.trans hf2)
    clear hf2
    go_wp2_with fail
    go_ret
    exact ⟨rfl, F2.out⟩
  subst hck0
  by_cases hrg : fuel < 0 ∨ 300 < fuel ∨ more < fuel ∨ 300 < more
  · have hcases : fuel < 0 ∨ (¬ fuel < 0 ∧ 300 < fuel) ∨ (¬ fuel < 0 ∧ ¬ 300 < fuel ∧ more < fuel) ∨ (¬ fuel < 0 ∧ ¬ 300 < fuel ∧ ¬ more < fuel ∧ 300 < more) := by omega
    clear hrg
    rcases hcases with h | ⟨h, h'⟩ | ⟨h, h', h''⟩ | ⟨h, h', h'', h'''⟩
    all_goals
      go_enter Tryd.func3, Tryd.ntmps3
      go_wp2_with fail
      refine CA.out.mono ?_
      rintro e w1 ⟨rfl, hf1⟩
      have F1 := hide hf1
      clear hf1
      go_wp2_with fail
      refine (CC.out _ F1.out).mono ?_
      rintro e w2 ⟨rfl, hf2⟩
      have F2 := hide (F1.out.trans hf2)
      clear hf2
      go_wp2_with fail
      go_ret
      exact ⟨rfl, F2.out⟩
  have g1 : ¬ fuel < 0 := fun h => hrg (.inl h)
  have g2 : ¬ 300 < fuel := fun h => hrg (.inr (.inl h))
  have g3 : ¬ more < fuel := fun h => hrg (.inr (.inr (.inl h)))
  have g4 : ¬ 300 < more := fun h => hrg (.inr (.inr (.inr h)))
  have HKK : Hid (R1.2 ≠ 12 → R2 = R1) := HK.out (by omega) (by omega) (by omega)
  clear hrg HK
  go_enter Tryd.func3, Tryd.ntmps3
  go_wp2_with fail
  refine CA.out.mono ?_
  rintro e w1 ⟨rfl, hf1⟩
  have F1 := hide hf1
  clear hf1
  go_wp2_with fail
  refine (CC.out _ F1.out).mono ?_
  rintro e w2 ⟨rfl, hf2⟩
  have F2 := hide (F1.out.trans hf2)
  clear hf2
  go_wp2_with fail
  refine (HC1.out _ F2.out).mono ?_
  rintro e w3 ⟨⟨cs1, rfl, hav1⟩, hf3⟩
  obtain ⟨p0, p1, p2, rfl⟩ := hav1.tuple
  have F3 := hide (F2.out.trans hf3)
  have AV1 := hide hav1
  clear hf3 hav1
  obtain ⟨W3, hW3⟩ : ∃ W3, W3 = w3.alloc (.cells #[.bool R1.1.con, .int .i64 R1.1.n, .slice p0 p1 p2] 29) := ⟨_, rfl⟩
  have f3 : Fr No w3 W3 := by rw [hW3]; exact (Fr.refl No w3).alloc _
  have b1 : W3.heap[w3.heap.size]? = some (.cells #[.bool R1.1.con, .int .i64 R1.1.n, .slice p0 p1 p2] 29 (0, 0)) := by rw [hW3]; exact heap_alloc_new _ _
  have HW3 := hide hW3
  have FW3 := hide (F3.out.trans f3)
  have FF3 := hide f3
  have B1 := hide b1
  clear hW3 f3 b1
  go_wp2_with fail
  rw [← HW3.out]
  refine (HC2.out _ FW3.out).mono ?_
  rintro e w4 ⟨⟨cs2, rfl, hav2⟩, hf4⟩
  obtain ⟨q0, q1, q2, rfl⟩ := hav2.tuple
  have F4 := hide (FW3.out.trans hf4)
  have AV2 := hide hav2
  have b4 := fr_heap B1.out hf4 (fun e => e)
  have f34 := FF3.out.trans hf4
  have AV1' := hide (AV1.out.kept (stays_no (S := Any) f34))
  have c4 := cell_of_heap b4
  have hl4 := lt_of_heap b4
  clear hf4 hav2 f34
  by_cases h12 : R1.2 = 12
  · have hz := HZ1.out (by rw [h12]; decide)
    have hz1 : R1.1.con = false := by rw [hz]; rfl
    have hz2 : R1.1.n = 0 := by rw [hz]; rfl
    rw [hz1, hz2] at c4
    rw [h12]
    clear hz h12
    go_wp2_with fail
    go_ret
    exact ⟨by first | rfl | simp, F4.out.alloc _⟩
  · have hk := HKK.out h12
    subst hk
    have h12' : (R2.2 == 12) = false := by simpa using h12
    obtain ⟨k1, v1⟩ := AV1'.out
    obtain ⟨k2, v2⟩ := AV2.out
    have CS : Hid (∀ W, Fr No w4 W → Calls Tryd.prog 11 #[.agg #[.bool R2.1.con, .int .i64 R2.1.n, .slice p0 p1 p2], .agg #[.bool R2.1.con, .int .i64 R2.1.n, .slice q0 q1 q2]] W fun e w' => e = .returned (.bool true) ∧ Fr No W w') := fun W hW => by
      refine (rsameV_all k1 k2 W _ _ R2.1 R2.1 (v1.fr hW) (v2.fr hW)).mono ?_
      rintro e w' ⟨r, he, hr, hf⟩
      have : r = true := hr.2 rfl
      subst this
      exact ⟨he, hf⟩
    clear v1 v2 AV1 AV1' AV2
    go_wp2_with fail
    refine (CS.out _ ((Fr.refl No w4).alloc _)).mono ?_
    rintro e w5 ⟨rfl, hf5⟩
    have F5 := hide ((F4.out.alloc _).trans hf5)
    clear hf5
    go_wp2_with fail
    go_ret
    exact ⟨by first | rfl | simp, F5.out⟩
end Go.Proofs.YtdgmengfdfkgaabDoor
