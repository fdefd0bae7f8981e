/- EvalUnused's own body, over a contract of 'alive'. -/
import Derived.Test.YtdgmengfdfkgaabDoorFaG4
namespace Go.Proofs.YtdgmengfdfkgaabDoor
open Go.RowKit Go.Maps Go.WideMaps

set_option maxRecDepth 100000 in
set_option maxHeartbeats 4000000 in
theorem evalUnused_any (hAl : AliveC) (K B : Nat) (w : World) (fv av : Value) (l : List (Pu.Fn K)) (m : Pu.Fn K) (mcs : List Value) (name : ByteArray) (args : List Int) (fuel : Int) (hl : Fns K B w fv l) (hm : RF K B w mcs m) (ha : Ints B w av args) (hB : B ≤ w.heap.size) (hn : args.length ≤ 1048576) (hw : (l.map wf).sum + wf m ≤ 1048576) (hll : l.length ≤ 1048576) (henv : Env w) (h3 : 3 ≤ w.heap.size) :
    Calls Tryd.prog 4 #[fv, .agg mcs.toArray, .string name, av, .int .i64 fuel] w fun e w' => e = .returned (.bool true) ∧ Fr No w w' := by
  obtain ⟨aa, ac, rfl, _⟩ := Row.form ha
  have hl0 := hide hl
  obtain ⟨acs, hrow, heach⟩ := hl
  obtain ⟨fa, fc, rfl, _⟩ := hrow.form
  have hm0 := hide hm
  obtain ⟨pv, b, rfl, hx, hnm, _, hrt⟩ := hm
  obtain ⟨kd, n, x, y, a0, n0, c0, a1, n1, c1, a2, n2, c2, rfl⟩ := hrt.form
  obtain ⟨pa, pc, rfl, _⟩ := hnm.1.form
  obtain ⟨WB, hWB⟩ : ∃ WB, WB = w.alloc (.cells #[.string m.1, .slice pa m.2.1.length pc, .int .i64 kd, .int .i64 n, .string x, .string y, .slice a0 n0 c0, .slice a1 n1 c1, .slice a2 n2 c2] 40) := ⟨_, rfl⟩
  have fB : Fr No w WB := by rw [hWB]; exact (Fr.refl No w).alloc _
  have HBX0 : Hid (WB.heap[w.heap.size]? = some (.cells #[.string m.1, .slice pa m.2.1.length pc, .int .i64 kd, .int .i64 n, .string x, .string y, .slice a0 n0 c0, .slice a1 n1 c1, .slice a2 n2 c2] 40 (0, 0))) := by rw [hWB]; exact heap_alloc_new _ _
  have HWB := hide hWB
  have CA := hide (hAl WB (henv.fr fB h3 (fun _ _ e => e)) (Nat.le_trans h3 fB.size))
  have FB := hide fB
  clear hWB fB
  have CC : Hid (∀ W, Fr No w W → Calls Tryd.prog 9 #[.slice fa l.length fc] W fun e w' => e = .returned (.int .i64 (Pu.check l)) ∧ Fr No W w') := fun W hW =>
    rcheck_any K B W _ l (hl0.out.old (hW.old hB (fun _ _ e => e)) hW.size) (Nat.le_trans hB hW.size) (by omega)
  have CR : Hid (∀ W, Fr No w W → Calls Tryd.prog 10 #[.slice fa l.length fc, .string name, .slice aa args.length ac, .int .i64 fuel] W fun e w' => Ans Any w' e (Pu.run l name args fuel).1 (Pu.run l name args fuel).2 ∧ Fr No W w') := fun W hW =>
    run_any K B W _ _ l name args fuel (hl0.out.old (hW.old hB (fun _ _ e => e)) hW.size) (ha.fr hB hW) (Nat.le_trans hB hW.size) hn (wf_mem (by omega))
  have hws : ((l ++ [m]).map wf).sum ≤ 1048576 := by simp; omega
  have CM : Hid (∀ W W' v, Fns K W.heap.size W v (l ++ [m]) → Fr No w W → Fr No W W' → Calls Tryd.prog 9 #[v] W' fun e w' => e = .returned (.int .i64 (Pu.check (l ++ [m]))) ∧ Fr No W' w') := fun W W' v hv hW hW' =>
    rcheck_any K W.heap.size W' _ (l ++ [m]) (hv.old (hW'.old (Nat.le_refl _) (fun _ _ e => e)) hW'.size) hW'.size (by omega)
  have CN : Hid (∀ W W' v, Fns K W.heap.size W v (l ++ [m]) → Fr No w W → Fr No W W' → Calls Tryd.prog 10 #[v, .string name, .slice aa args.length ac, .int .i64 fuel] W' fun e w' => Ans Any w' e (Pu.run (l ++ [m]) name args fuel).1 (Pu.run (l ++ [m]) name args fuel).2 ∧ Fr No W' w') := fun W W' v hv hW hW' =>
    run_any K W.heap.size W' _ _ (l ++ [m]) name args fuel (hv.old (hW'.old (Nat.le_refl _) (fun _ _ e => e)) hW'.size) (Row.kept (ha.fr hB (hW.trans hW')) (fun _ _ => rfl) (Nat.le_trans hB hW.size) (Nat.le_refl _)) hW'.size hn (wf_mem hws)
  have HS : Hid (Pu.check l = 0 → m.1 ≠ name → Pu.run (l ++ [m]) name args fuel = Pu.run l name args fuel) := fun h1 h2 => Pu.run_same h1 m name args fuel h2
  have FS : Hid (∀ (bb : Nat) (w' : World) v cs, cs = [Value.string m.1, .slice pa m.2.1.length pc, .int .i64 kd, .int .i64 n, .string x, .string y, .slice a0 n0 c0, .slice a1 n1 c1, .slice a2 n2 c2] → w'.ownsRow bb 40 9 v (0 + l.length + 1) ([] ++ acs ++ cs) → Fr No w w' → Fns K w'.heap.size w' v (l ++ [m])) := fun bb w' v cs hcs hr hf => by
    subst hcs
    exact fns_snoc heach hm0.out rfl hr hf hB
  have RW : Hid (∀ W, Fr No w W → Row B W (.slice fa l.length fc) l.length acs) := fun W hW => Row.old hrow (hW.old hB (fun _ _ e => e)) hW.size
  have OW : Hid (∀ u ∈ acs, u.oneCell' = true) := each_one (fun _ _ h => rf_one h) heach
  have LW : Hid (acs.length = l.length * 9) := heach.length
  clear hl0 hrow heach hnm hrt ha henv hAl hws hm0 hw hx
  obtain ⟨ck, hck⟩ : ∃ ck, ck = Pu.check l := ⟨_, rfl⟩
  rw [← hck] at CC HS
  obtain ⟨R1, hR1⟩ : ∃ R1, R1 = Pu.run l name args fuel := ⟨_, rfl⟩
  rw [← hR1] at CR HS
  obtain ⟨R2, hR2⟩ : ∃ R2, R2 = Pu.run (l ++ [m]) name args fuel := ⟨_, rfl⟩
  rw [← hR2] at CN HS
  obtain ⟨cm, hcm⟩ : ∃ cm, cm = Pu.check (l ++ [m]) := ⟨_, rfl⟩
  rw [← hcm] at CM
  clear hck hR1 hR2 hcm
  go_enter Tryd.func4, Tryd.ntmps4
  go_wp2_with fail
  rw [← HWB.out]
  refine CA.out.mono ?_
  rintro e w1 ⟨rfl, hf1⟩
  have F1 := hide (FB.out.trans hf1)
  have HBX : Hid (w1.heap[w.heap.size]? = some (.cells #[.string m.1, .slice pa m.2.1.length pc, .int .i64 kd, .int .i64 n, .string x, .string y, .slice a0 n0 c0, .slice a1 n1 c1, .slice a2 n2 c2] 40 (0, 0))) := fr_heap HBX0.out hf1 (fun e => e)
  have SA : Hid (∀ w' : World, Fr No w1 w' → (w'.cell? ⟨w.heap.size, 0, none⟩ = some (.string m.1) ∧ w'.cell? ⟨w.heap.size, 1, none⟩ = some (.slice pa m.2.1.length pc) ∧ w'.cell? ⟨w.heap.size, 2, none⟩ = some (.int .i64 kd) ∧ w'.cell? ⟨w.heap.size, 3, none⟩ = some (.int .i64 n) ∧ w'.cell? ⟨w.heap.size, 4, none⟩ = some (.string x) ∧ w'.cell? ⟨w.heap.size, 5, none⟩ = some (.string y) ∧ w'.cell? ⟨w.heap.size, 6, none⟩ = some (.slice a0 n0 c0) ∧ w'.cell? ⟨w.heap.size, 7, none⟩ = some (.slice a1 n1 c1) ∧ w'.cell? ⟨w.heap.size, 8, none⟩ = some (.slice a2 n2 c2) ∧ Fr No w1 w')) := fun W hW => by
    have hh := fr_heap HBX.out hW (fun e => e)
    exact ⟨cell_of_heap hh 0, cell_of_heap hh 1, cell_of_heap hh 2, cell_of_heap hh 3, cell_of_heap hh 4, cell_of_heap hh 5, cell_of_heap hh 6, cell_of_heap hh 7, cell_of_heap hh 8, hW⟩
  have SAL : Hid (∀ (W : World) o, (W.cell? ⟨w.heap.size, 0, none⟩ = some (.string m.1) ∧ W.cell? ⟨w.heap.size, 1, none⟩ = some (.slice pa m.2.1.length pc) ∧ W.cell? ⟨w.heap.size, 2, none⟩ = some (.int .i64 kd) ∧ W.cell? ⟨w.heap.size, 3, none⟩ = some (.int .i64 n) ∧ W.cell? ⟨w.heap.size, 4, none⟩ = some (.string x) ∧ W.cell? ⟨w.heap.size, 5, none⟩ = some (.string y) ∧ W.cell? ⟨w.heap.size, 6, none⟩ = some (.slice a0 n0 c0) ∧ W.cell? ⟨w.heap.size, 7, none⟩ = some (.slice a1 n1 c1) ∧ W.cell? ⟨w.heap.size, 8, none⟩ = some (.slice a2 n2 c2) ∧ Fr No w1 W) → ((W.alloc o).cell? ⟨w.heap.size, 0, none⟩ = some (.string m.1) ∧ (W.alloc o).cell? ⟨w.heap.size, 1, none⟩ = some (.slice pa m.2.1.length pc) ∧ (W.alloc o).cell? ⟨w.heap.size, 2, none⟩ = some (.int .i64 kd) ∧ (W.alloc o).cell? ⟨w.heap.size, 3, none⟩ = some (.int .i64 n) ∧ (W.alloc o).cell? ⟨w.heap.size, 4, none⟩ = some (.string x) ∧ (W.alloc o).cell? ⟨w.heap.size, 5, none⟩ = some (.string y) ∧ (W.alloc o).cell? ⟨w.heap.size, 6, none⟩ = some (.slice a0 n0 c0) ∧ (W.alloc o).cell? ⟨w.heap.size, 7, none⟩ = some (.slice a1 n1 c1) ∧ (W.alloc o).cell? ⟨w.heap.size, 8, none⟩ = some (.slice a2 n2 c2) ∧ Fr No w1 (W.alloc o))) := fun W o hW => SA.out _ (hW.2.2.2.2.2.2.2.2.2.alloc o)
  have GR : Hid (∀ (W w' : World) (v : Value) (n : Nat) (xs : List Value), Fr No w1 W → W.ownsRow w1.heap.size 40 9 v n xs → W.grownBy w' v.ownBlock → Fr No w1 w') := fun W W' v n xs hW hr hg => hW.grown hg (fun a ha => .inr (hr.lt a ha).1)
  have RW1 : Hid (∀ W, Fr No w1 W → Row B W (.slice fa l.length fc) l.length acs) := fun W hW => RW.out W (F1.out.trans hW)
  have D0 : Fr No w1 w1.drew := (Fr.refl No w1).drew
  have HZ := hide (SA.out w1.drew D0)
  have O9 : Hid (∀ u ∈ (Array.toList (α := Value) #[.string m.1, .slice pa m.2.1.length pc, .int .i64 kd, .int .i64 n, .string x, .string y, .slice a0 n0 c0, .slice a1 n1 c1, .slice a2 n2 c2]), u.oneCell' = true) := fun u hu => by
    simp only [List.mem_cons, List.not_mem_nil, or_false] at hu
    rcases hu with rfl | rfl | rfl | rfl | rfl | rfl | rfl | rfl | rfl <;> rfl
  have FS1 : Hid (∀ (w' : World) v, w'.ownsRow w1.heap.size 40 9 v (0 + l.length + 1) ([] ++ acs ++ (Array.toList (α := Value) #[.string m.1, .slice pa m.2.1.length pc, .int .i64 kd, .int .i64 n, .string x, .string y, .slice a0 n0 c0, .slice a1 n1 c1, .slice a2 n2 c2])) → Fr No w1 w' → Fns K w'.heap.size w' v (l ++ [m])) := fun w' v hr hf => FS.out w1.heap.size w' v _ rfl hr (F1.out.trans hf)
  clear hf1 FS RW HBX0 FB HWB CA
  go_wp2_with fail
  go_region_held3 (fun w' : World => w'.cell? ⟨w.heap.size, 0, none⟩ = some (.string m.1) ∧ w'.cell? ⟨w.heap.size, 1, none⟩ = some (.slice pa m.2.1.length pc) ∧ w'.cell? ⟨w.heap.size, 2, none⟩ = some (.int .i64 kd) ∧ w'.cell? ⟨w.heap.size, 3, none⟩ = some (.int .i64 n) ∧ w'.cell? ⟨w.heap.size, 4, none⟩ = some (.string x) ∧ w'.cell? ⟨w.heap.size, 5, none⟩ = some (.string y) ∧ w'.cell? ⟨w.heap.size, 6, none⟩ = some (.slice a0 n0 c0) ∧ w'.cell? ⟨w.heap.size, 7, none⟩ = some (.slice a1 n1 c1) ∧ w'.cell? ⟨w.heap.size, 8, none⟩ = some (.slice a2 n2 c2) ∧ Fr No w1 w') (first | with_reducible assumption | with_reducible exact HZ.out | exact SAL.out _ _ (by first | with_reducible assumption | exact HZ.out))
    (first
      | (refine step_append_fns rfl (.tmp 18) (.tmp 19) rfl rfl (base := w1.heap.size) (B := B) (n := 0) (m := l.length) (xs := []) (ys := acs) rfl rfl (by first | exact rowf_d0 _ | exact rowf_d1 _ _ | exact rowf_d2 _ _) (RW1.out _ (by first | with_reducible assumption | exact fr_d1 _ _ | exact fr_d2 _ _ _ | exact D0)) LW.out OW.out (by omega) (Fr.size (T := No) (by first | with_reducible assumption | exact fr_d1 _ _ | exact fr_d2 _ _ _ | exact D0)) ?_; intro v5 w5 ho5 hg5 hl5; have f5 := GR.out _ _ _ _ _ (by first | with_reducible assumption | exact fr_d1 _ _ | exact fr_d2 _ _ _ | exact D0) (by first | exact rowf_d0 _ | exact rowf_d1 _ _ | exact rowf_d2 _ _) hg5; have hz5 := SA.out _ f5)
      | (refine step_append_fns rfl (.tmp 20) (.tmp 22) rfl rfl (base := w1.heap.size) (B := _) (n := 0 + l.length) (m := 1) (xs := [] ++ acs) (ys := Array.toList (α := Value) #[.string m.1, .slice pa m.2.1.length pc, .int .i64 kd, .int .i64 n, .string x, .string y, .slice a0 n0 c0, .slice a1 n1 c1, .slice a2 n2 c2]) rfl rfl (by first | exact ho5 | exact ho5.alloc _) (by first | exact one_fn (heap_alloc_new _ _) | exact one_fn (srcf_two _ _ _ hg5) | exact one_fn (srcf_three _ _ _ hg5)) rfl O9.out (by omega) (by first | exact f5.size | exact (f5.alloc _).size) ?_; intro v6 w6 ho6 hg6 hl6; have f6 := GR.out _ _ _ _ _ (by first | exact f5 | exact f5.alloc _) (by first | exact ho5 | exact ho5.alloc _) hg6; have hz6 := SA.out _ f6))
  all_goals
    have hfn6 := hide (FS1.out w6 v6 ho6 f6)
    obtain ⟨a6, n6, c6, hv6⟩ : ∃ a n c, v6 = .slice a n c := by obtain ⟨a, c, h⟩ := row_form ho6; exact ⟨a, _, c, h⟩
    subst hv6
    have F6 := hide f6
    clear ho5 hg5 hl5 f5 hz5 ho6 hg6 hl6 f6 hz6
    have F6' := hide (F1.out.trans F6.out)
    have CMM := hide (fun W' => CM.out w6 W' _ hfn6.out F6'.out)
    have CNN := hide (fun W' => CN.out w6 W' _ hfn6.out F6'.out)
    have FR6 := hide (Fr.refl No w6)
    have HB6 := hide (fr_heap HBX.out F6.out (fun e => e))
    clear hfn6 HBX SA SAL GR RW1 D0 HZ O9 FS1 OW LW CM CN F1
    by_cases hck0 : ck = 0
    rotate_left
    · have hc : (ck != 0) = true := by simpa using hck0
      go_wp2_with fail
      refine (CC.out _ F6'.out).mono ?_
      rintro e w7 ⟨rfl, hf7⟩
      have F7 := hide (F6'.out.trans hf7)
      clear hf7
      go_wp2_with fail
      go_ret
      exact ⟨rfl, F7.out⟩
    subst hck0
    by_cases hcm0 : cm = 0
    rotate_left
    · have hc : (cm != 0) = true := by simpa using hcm0
      go_wp2_with fail
      refine (CC.out _ F6'.out).mono ?_
      rintro e w7 ⟨rfl, hf7⟩
      have F7 := hide hf7
      clear hf7
      go_wp2_with fail
      refine (CMM.out _ F7.out).mono ?_
      rintro e w8 ⟨rfl, hf8⟩
      have F8 := hide (F6'.out.trans (F7.out.trans hf8))
      clear hf8
      go_wp2_with fail
      go_ret
      exact ⟨rfl, F8.out⟩
    subst hcm0
    go_wp2_with fail
    refine (CC.out _ F6'.out).mono ?_
    rintro e w7 ⟨rfl, hf7⟩
    have F7 := hide hf7
    clear hf7
    go_wp2_with fail
    refine (CMM.out _ F7.out).mono ?_
    rintro e w8 ⟨rfl, hf8⟩
    have F8 := hide (F7.out.trans hf8)
    have HB8 := fr_heap HB6.out F8.out (fun e => e)
    have q8 := cell_of_heap HB8 0
    have l8 := lt_of_heap HB8
    clear hf8 HB8
    go_wp2_with fail
    · go_ret
      exact ⟨rfl, (F6'.out.trans F8.out)⟩
    have hq : (m.fst.toList == name.toList) = false := by assumption
    have hne : m.1 ≠ name := fun e => by rw [e] at hq; simp at hq
    have hr := HS.out (by first | rfl | trivial) hne
    subst hr
    refine (CR.out _ (F6'.out.trans F8.out)).mono ?_
    rintro e w9 ⟨⟨cs1, rfl, hav1⟩, hf9⟩
    obtain ⟨p0, p1, p2, rfl⟩ := hav1.tuple
    have F9 := hide (F8.out.trans hf9)
    have AV1 := hide hav1
    clear hf9 hav1 q8 l8
    obtain ⟨W9, hW9⟩ : ∃ W9, W9 = w9.alloc (.cells #[.bool R2.1.con, .int .i64 R2.1.n, .slice p0 p1 p2] 29) := ⟨_, rfl⟩
    have f9 : Fr No w9 W9 := by rw [hW9]; exact (Fr.refl No w9).alloc _
    have b9 : W9.heap[w9.heap.size]? = some (.cells #[.bool R2.1.con, .int .i64 R2.1.n, .slice p0 p1 p2] 29 (0, 0)) := by rw [hW9]; exact heap_alloc_new _ _
    have HW9 := hide hW9
    have FW9 := hide (F9.out.trans f9)
    have FF9 := hide f9
    have B9 := hide b9
    clear hW9 f9 b9
    go_wp2_with fail
    rw [← HW9.out]
    refine (CNN.out _ FW9.out).mono ?_
    rintro e w10 ⟨⟨cs2, rfl, hav2⟩, hf10⟩
    obtain ⟨q0, q1, q2, rfl⟩ := hav2.tuple
    have F10 := hide (F6'.out.trans (FW9.out.trans hf10))
    have AV2 := hide hav2
    have b10 := fr_heap B9.out hf10 (fun e => e)
    have f910 := FF9.out.trans hf10
    have AV1' := hide (AV1.out.kept (stays_no (S := Any) f910))
    have c10 := cell_of_heap b10
    have hl10 := lt_of_heap b10
    clear hf10 hav2 f910 b10
    obtain ⟨k1, v1⟩ := AV1'.out
    obtain ⟨k2, v2⟩ := AV2.out
    have CS : Hid (∀ W, Fr No w10 W → Calls Tryd.prog 11 #[.agg #[.bool R2.1.con, .int .i64 R2.1.n, .slice p0 p1 p2], .agg #[.bool R2.1.con, .int .i64 R2.1.n, .slice q0 q1 q2]] W fun e w' => e = .returned (.bool true) ∧ Fr No W w') := fun W hW => by
      refine (rsameV_all k1 k2 W _ _ R2.1 R2.1 (v1.fr hW) (v2.fr hW)).mono ?_
      rintro e w' ⟨r, he, hr, hf⟩
      have : r = true := hr.2 rfl
      subst this
      exact ⟨he, hf⟩
    clear v1 v2 AV1 AV1' AV2
    go_wp2_with fail
    refine (CS.out _ ((Fr.refl No w10).alloc _)).mono ?_
    rintro e w11 ⟨rfl, hf11⟩
    have F11 := hide ((F10.out.alloc _).trans hf11)
    clear hf11
    go_wp2_with fail
    go_ret
    exact ⟨by first | rfl | simp, F11.out⟩
end Go.Proofs.YtdgmengfdfkgaabDoor
