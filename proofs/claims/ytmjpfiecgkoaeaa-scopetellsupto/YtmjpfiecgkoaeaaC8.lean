/- The check: a function's head. -/
import Derived.Test.YtmjpfiecgkoaeaaC7
import Derived.Test.YtmjpfiecgkoaeaaV1
namespace Go.Proofs.Ytmjpfiecgkoaeaa
open Go.RowKit Go.Maps Go.WideMaps

theorem term_all : ∀ k, TermC k
  | 0 => fun _ _ _ _ _ _ _ _ _ _ _ h => h.elim
  | k + 1 => term_node k (term_all k)

theorem guarded_any (fv : Value) (w : World) (hf : fv = .func (.func 17) #[] #[]) : Calls Try.prog 38 #[fv] w fun e w' => e = .returned (.func (.func 49) #[] #[.pointer (some ⟨w.heap.size, 0, none⟩)]) ∧ w' = w.alloc (.cells #[.func (.func 17) #[] #[]] 37) := by
  subst hf
  have hmf : ∀ (fn : Fn) (first cap : Array Value) (w : World), (Instr.makeFunc fn first cap).run Try.prog w = .ok (.func fn first cap) w := fun _ _ _ _ => rfl
  go_enter Try.func38, Try.ntmps38
  go_wp2_with fail
  go_ret
  exact ⟨rfl, rfl⟩

/-- What is noted behind a function's head. -/
def noted {k : Nat} (fns : ByteArray → Option Int) (f : Pu.Fn k) : ByteArray → Option Int := if Pu.head fns f = 0 then Pu.note fns f else fns
theorem noted_no {k : Nat} {fns : ByteArray → Option Int} {f : Pu.Fn k} {e : Int} (h : Pu.head fns f = e) (h0 : e ≠ 0) : noted fns f = fns := by unfold noted; rw [h, if_neg h0]
theorem noted_ok {k : Nat} {fns : ByteArray → Option Int} {f : Pu.Fn k} (h : Pu.head fns f = 0) : noted fns f = Pu.note fns f := by unfold noted; rw [h, if_pos rfl]

set_option maxHeartbeats 4000000 in
theorem head_any (k B P Pm A K : Nat) (w : World) (fns : ByteArray → Option Int) (c : Pu.Cnt) (x : ByteArray) (v : Value) (l : List ByteArray) (cs : List Value) (t : Pu.TT k) (hx : x.size ≤ maxLen) (hl : Names B w v l) (ht : RT k B w cs t) (hs : CkS B P Pm A K w fns c) (hB : B ≤ w.heap.size) (hK : K < 1099511627776) :
    Calls Try.prog 39 #[Ck P Pm A, .agg (.string x :: v :: cs).toArray] w fun e w' => e = .returned (.int .i64 (Pu.head fns (x, l, t))) ∧ CkS B P Pm A (K + 1) w' (noted fns (x, l, t)) c ∧ Fr (· = Pm) w w' := by
  obtain ⟨kd, n, y, z, a0, n0, c0, a1, n1, c1, a2, n2, c2, rfl⟩ := ht.form
  obtain ⟨av, cpv, rfl, hcp1, hcp2⟩ := hl.1.form
  unfold maxLen at hcp2
  obtain ⟨W, hW⟩ : ∃ W, W = (w.alloc (.cells (CkA P Pm A) 67)).alloc (.cells #[.string x, .slice av l.length cpv, .int .i64 kd, .int .i64 n, .string y, .string z, .slice a0 n0 c0, .slice a1 n1 c1, .slice a2 n2 c2] 44) := ⟨_, rfl⟩
  have fW : Fr No w W := by rw [hW]; exact fr2 _ _ _
  have g0 : W.heap[w.heap.size]? = some (.cells (CkA P Pm A) 67 (0, 0)) := by
    rw [hW]; exact fr_heap (heap_alloc_new _ _) ((Fr.refl No _).alloc _) (fun e => e)
  have g1 : W.heap[w.heap.size + 1]? = some (.cells #[.string x, .slice av l.length cpv, .int .i64 kd, .int .i64 n, .string y, .string z, .slice a0 n0 c0, .slice a1 n1 c1, .slice a2 n2 c2] 44 (0, 0)) := by
    rw [hW]
    have := heap_alloc_new (w.alloc (.cells (CkA P Pm A) 67)) (.cells #[.string x, .slice av l.length cpv, .int .i64 kd, .int .i64 n, .string y, .string z, .slice a0 n0 c0, .slice a1 n1 c1, .slice a2 n2 c2] 44)
    rw [World.size_alloc] at this
    exact this
  have h1 := look_ok (hs.no fW).m hx
  have CG : Hid (∀ u, Fr No w u → Calls Try.prog 49 #[.string x, .pointer (some ⟨P, 0, none⟩)] u fun e w' => e = .returned (.bool (isName x)) ∧ Fr No u w') := fun u hu => guard_any P x u hx (fr_heap hs.p hu (fun e => e))
  have CU : Hid (∀ u, Fr No w u → Calls Try.prog 51 #[Ck P Pm A, .slice av l.length cpv] u fun e w' => e = .returned (.bool (Pu.unlike l)) ∧ Fr No u w') := fun u hu => unlike_any P Pm A B _ l u (hl.fr hu) (fr_heap hs.p hu (fun e => e))
  have CL : Hid (∀ u, Fr No w u → Calls Try.prog 52 #[.agg #[.int .i64 kd, .int .i64 n, .string y, .string z, .slice a0 n0 c0, .slice a1 n1 c1, .slice a2 n2 c2], .int .i64 400] u fun e w' => e = .returned (.bool (decide (400 < Pu.size k t))) ∧ Fr No u w') := fun u hu =>
    larger_any k B u _ t (ht.old (hu.old hB (fun _ _ e => e)) hu.size) (Nat.le_trans hB hu.size) 400 (by omega)
  have hPs : P < w.heap.size := lt_of_heap hs.p
  have hPm : Pm < w.heap.size := hs.m.lt
  have hAl : A < w.heap.size := hs.a.lt
  have HS := hide hs
  have FW := hide fW
  have b0 := cell_of_heap g0
  have b1 := cell_of_heap g1
  have G0 := hide g0
  have G1 := hide g1
  have HX := hide hx
  rw [hW] at h1 FW G0 G1
  clear hl ht hs fW g0 g1 b0 b1 hW
  show Calls Try.prog 39 #[.agg #[.func (.func 49) #[] #[.pointer (some ⟨P, 0, none⟩)], .map (some Pm), .map (some A)], .agg #[.string x, .slice av l.length cpv, .int .i64 kd, .int .i64 n, .string y, .string z, .slice a0 n0 c0, .slice a1 n1 c1, .slice a2 n2 c2]] w _
  obtain ⟨r, hr⟩ : ∃ r, fns x = r := ⟨_, rfl⟩
  rw [hr] at h1
  have HR := hide hr
  clear hr
  cases r with
  | some m =>
    simp only [Option.getD_some, Option.isSome_some] at h1
    have hv : Pu.head fns (x, l, t) = 7 := by unfold Pu.head; rw [if_pos (.inl (by show (fns x).isSome = true; rw [HR.out]; rfl))]
    rw [noted_no hv (by decide), hv]
    go_enter Try.func39, Try.ntmps39
    go_wp2_with fail
    go_ret
    exact ⟨rfl, (HS.out.no FW.out).mono (by omega), FW.out.mono (fun _ _ e => e.elim)⟩
  | none =>
    simp only [Option.getD_none, Option.isSome_none] at h1
    go_enter Try.func39, Try.ntmps39
    go_wp2_with fail
    refine (CG.out _ FW.out).mono ?_
    obtain ⟨ib, hib⟩ : ∃ ib, isName x = ib := ⟨_, rfl⟩
    rw [hib]
    have HIB := hide hib
    clear hib CG h1
    rintro e w1 ⟨rfl, hf1⟩
    have F1 := hide (FW.out.trans hf1)
    have g0 := fr_heap G0.out hf1 (fun e => e)
    have g1 := fr_heap G1.out hf1 (fun e => e)
    have b0 := cell_of_heap g0
    have b1 := cell_of_heap g1
    have G0' := hide g0
    have G1' := hide g1
    clear hf1 g0 g1 G0 G1 FW
    cases ib with
    | false =>
      go_wp2_with fail
      go_ret
      have hv : Pu.head fns (x, l, t) = 7 := by unfold Pu.head; rw [if_pos (.inr (.inl HIB.out))]
      rw [noted_no hv (by decide), hv]
      exact ⟨rfl, (HS.out.no F1.out).mono (by omega), F1.out.mono (fun _ _ e => e.elim)⟩
    | true =>
      go_wp2_with fail
      refine (CU.out _ F1.out).mono ?_
      obtain ⟨ub, hub⟩ : ∃ ub, Pu.unlike l = ub := ⟨_, rfl⟩
      rw [hub]
      have HUB := hide hub
      clear hub CU
      rintro e w2 ⟨rfl, hf2⟩
      have F2 := hide (F1.out.trans hf2)
      have g0 := fr_heap G0'.out hf2 (fun e => e)
      have g1 := fr_heap G1'.out hf2 (fun e => e)
      clear b0 b1
      have b0 := cell_of_heap g0
      have b1 := cell_of_heap g1
      have G0 := hide g0
      have G1 := hide g1
      clear hf2 g0 g1 G0' G1' F1
      cases ub with
      | false =>
        go_wp2_with fail
        go_ret
        have hv : Pu.head fns (x, l, t) = 7 := by unfold Pu.head; rw [if_pos (.inr (.inr HUB.out))]
        rw [noted_no hv (by decide), hv]
        exact ⟨rfl, (HS.out.no F2.out).mono (by omega), F2.out.mono (fun _ _ e => e.elim)⟩
      | true =>
        have hno : ¬ ((fns x).isSome = true ∨ isName x = false ∨ Pu.unlike l = false) := by rw [HR.out, HIB.out, HUB.out]; simp
        have HNO := hide hno
        clear hno
        by_cases h6 : 6 < l.length
        · have h6' : 6 < (l.length : Int) := by omega
          go_wp2_with fail
          go_ret
          have hv : Pu.head fns (x, l, t) = 5 := by unfold Pu.head; rw [if_neg HNO.out, if_pos h6]
          rw [noted_no hv (by decide), hv]
          exact ⟨rfl, (HS.out.no F2.out).mono (by omega), F2.out.mono (fun _ _ e => e.elim)⟩
        · have h6' : ¬ 6 < (l.length : Int) := by omega
          go_wp2_with fail
          refine (CL.out _ F2.out).mono ?_
          by_cases h4 : 400 < Pu.size k t
          · rw [decide_eq_true h4]
            rintro e w3 ⟨rfl, hf3⟩
            have F3 := hide (F2.out.trans hf3)
            clear hf3
            go_wp2_with fail
            go_ret
            have hv : Pu.head fns (x, l, t) = 4 := by unfold Pu.head; rw [if_neg HNO.out, if_neg h6, if_pos h4]
            rw [noted_no hv (by decide), hv]
            exact ⟨rfl, (HS.out.no F3.out).mono (by omega), F3.out.mono (fun _ _ e => e.elim)⟩
          · rw [decide_eq_false h4]
            rintro e w3 ⟨rfl, hf3⟩
            have F3 := hide (F2.out.trans hf3)
            have g0 := fr_heap G0.out hf3 (fun e => e)
            have g1 := fr_heap G1.out hf3 (fun e => e)
            clear b0 b1
            have b0 := cell_of_heap g0
            have b1 := cell_of_heap g1
            have S3 := HS.out.no F3.out
            obtain ⟨kk, D, hkk, hown, hD⟩ := S3.m
            have HD := hide hD
            have HS3 := hide S3
            have hkey := keyS HX.out
            clear hf3 g0 g1 hD S3
            have hv : Pu.head fns (x, l, t) = 0 := by unfold Pu.head; rw [if_neg HNO.out, if_neg h6, if_neg h4]
            have HV := hide hv
            clear hv
            go_wp2_with (first
              | (at_mapUpdate; refine wpList_mapUpdate_own _ rfl _ _ _ 60 rfl 9 3 law Try.underlying60 _ Pm kk _ rfl hown (by unfold maxLen; omega) _ _ _ rfl rfl hkey _ [] (plainElem_int Try.underlying3 (WalkArith.wf_i64 (by omega))) ?_; intro w4 hown4 hgrow4)
              | fail)
            go_ret
            rw [noted_ok HV.out, HV.out]
            have f4 : Fr (· = Pm) w3 w4 := (Fr.refl _ w3).grown hgrow4 (fun j hj => by cases hj; exact .inl rfl)
            refine ⟨rfl, ⟨fr_heap HS3.out.p f4 ?_, ?_, (HS3.out.a.fr f4 HS3.out.ne).mono (by omega), HS3.out.ne, HS3.out.hA⟩, (F3.out.mono (fun _ _ e => e.elim) : Fr (· = Pm) w w3).trans f4⟩
            · intro e
              have e : P = Pm := e
              obtain ⟨es, clock, hob⟩ := HS3.out.m.obj
              have hp := HS3.out.p
              rw [← e] at hob
              rw [Gd, hob] at hp
              cases hp
            · exact MapC.put hkk hown4 hown.isMap HD.out
end Go.Proofs.Ytmjpfiecgkoaeaa
