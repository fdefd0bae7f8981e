/- own: 'erased' in general, walked. -/
import Derived.Test.YtomahbdidlglfacGreatDoorOt1Er2Er3Td0
import Derived.Test.YtomahbdidlglfacGreatDoorOw3
import Derived.Test.YtomahbdidlglfacGreatDoorPn6ObOx1Ox2Ox3Pn7
import Derived.Test.YtomahbdidlglfacGreatDoorPl1Ea1TqRt1S2
import Derived.Test.YtomahbdidlglfacGreatDoorRt2
import Derived.Test.YtomahbdidlglfacGreatDoorMnMt0Mt1Td1Ox5
namespace Go.Proofs.YtomahbdidlglfacGreatDoor
open Go.RowKit Go.Maps Go.WideMaps

set_option maxRecDepth 100000 in
set_option maxHeartbeats 8000000 in
theorem er_node (M k : Nat) (ih : ∀ t, Pl k t → ErD M k t) (nd : Pu.Node (Pu.TT k)) (hk1 : 1 ≤ nd.kind) (hk7 : nd.kind ≤ 7) (hpa : ∀ a, a ∈ nd.args → Pl k a) (hpc : ∀ c, c ∈ nd.cases → Pl k c.2.2) : ErD M (k + 1) nd := by
  intro m V w cs hT hS
  obtain ⟨s, _, hT⟩ := hT
  have hT : SpN M k w s V cs nd := hT
  obtain ⟨kd, n, x, y, a0, n0, c0, a1, n1, c1, a2, n2, c2, rfl⟩ := hT.cw.form
  have hTB := tb_new' w #[.int .i64 kd, .int .i64 n, .string x, .string y, .slice a0 n0 c0, .slice a1 n1 c1, .slice a2 n2 c2]
  obtain ⟨W0, hW0⟩ : ∃ W0, W0 = ((w.alloc (.cells #[.int .i64 kd, .int .i64 n, .string x, .string y, .slice a0 n0 c0, .slice a1 n1 c1, .slice a2 n2 c2] 32)).alloc (.cells #[.int .i64 0, .int .i64 0, .string ⟨#[]⟩, .string ⟨#[]⟩, .slice none 0 0, .slice none 0 0, .slice none 0 0] 32)) := ⟨_, rfl⟩
  rw [← hW0] at hTB
  have HT := hide hT
  have T0 := hide hTB
  have HSS := hide hS
  have HA := hide (fun a ha => ih a (hpa a ha))
  have HC := hide (fun c hc => ih c.2.2 (hpc c hc))
  have HK := hide (And.intro hk1 hk7)
  clear hT hTB hS ih hpa hpc hk1 hk7
  show Calls Tryz.prog 39 #[.agg #[.int .i64 kd, .int .i64 n, .string x, .string y, .slice a0 n0 c0, .slice a1 n1 c1, .slice a2 n2 c2]] w _
  go_enter Tryz.func39, Tryz.ntmps39
  go_wp2_with fail
  rw [← hW0]
  clear hW0
  go_loopg [] (s.length + 1) (fun gn wr => ∃ rest U kd' n' x' y' b0 m0 e0 b1 m1 e1 b2 m2 e2, Sub U V ∧ gn = rest.length + 1 ∧ wr.heap[w.heap.size]? = some (.cells #[.int .i64 kd', .int .i64 n', .string x', .string y', .slice b0 m0 e0, .slice b1 m1 e1, .slice b2 m2 e2] 32 (0, 0)) ∧ SpN M k wr rest U [.int .i64 kd', .int .i64 n', .string x', .string y', .slice b0 m0 e0, .slice b1 m1 e1, .slice b2 m2 e2] nd ∧ Fr (· = w.heap.size) W0 wr)
  case atStart => exact ⟨s, V, kd, n, x, y, a0, n0, c0, a1, n1, c1, a2, n2, c2, fun _ h => h, rfl, T0.out.t, HT.out.kept (stays_of_fr T0.out.fr), Fr.refl _ _⟩
  case round =>
    obtain ⟨rest, U, kd', n', x', y', b0, m0, e0, b1, m1, e1, b2, m2, e2, hUV, hgn, hbx, hrs, hfr⟩ := hrel
    have k0 := cell_of_heap hbx
    have z0 := frozen_of_heap hbx
    have l0 := lt_of_heap hbx
    cases rest with
    | cons p rest =>
      obtain ⟨da0, dc0, da2, dc2, g, o, dc1, kd2, n2', x2, y2, f0, r0, s0, f1, r1, s1, f2, r2, s2, B, he, hck, hSg, hg, hc1, hBU, hr2, hcell⟩ := hrs.inv
      simp only [List.cons.injEq, Value.int.injEq, Value.string.injEq, Value.slice.injEq, and_true, true_and] at he
      obtain ⟨rfl, rfl, rfl, rfl, ⟨rfl, rfl, rfl⟩, ⟨rfl, rfl, rfl⟩, ⟨rfl, rfl, rfl⟩⟩ := he
      have CC : Hid (∀ u, Calls Tryz.prog 76 #[.int .i64 p.1] u fun e w' => e = .returned (.bool true) ∧ w' = u) := fun u => counts_any p.1 true (by rcases hck with h | h <;> simp [h]) u
      have hgw : g ≠ w.heap.size := by have := HSS.out g (hUV g hSg); omega
      have q0 : wr.cell? ⟨g, o, none⟩ = some (.int .i64 kd2) := hcell 0 (by omega)
      have q1 := hcell 1 (by omega)
      have q2 := hcell 2 (by omega)
      have q3 := hcell 3 (by omega)
      have q4 := hcell 4 (by omega)
      have q5 := hcell 5 (by omega)
      have q6 := hcell 6 (by omega)
      unfold maxLen at hc1
      have HBX := hide hbx
      have HR2 := hide hr2
      have HFR := hide hfr
      have HGN := hide hgn
      have HUV := hide (fun g h => hUV g (hBU g h))
      clear hcell hbx hr2 hfr hrs hgn hck hUV hBU hSg
      go_wp2_with fail
      refine (CC.out _).mono ?_
      rintro e w1 ⟨rfl, hw1⟩
      rw [hw1]
      clear hw1
      go_wp2_with fail
      go_roundg (rest.length + 1)
      case measure => have := HGN.out; simp only [List.length_cons] at this; omega
      case rel =>
        obtain ⟨t1, t2⟩ := set7 HBX.out (.int .i64 kd2) (.int .i64 n2') (.string x2) (.string y2) (.slice f0 r0 s0) (.slice f1 r1 s1) (.slice f2 r2 s2)
        exact ⟨rest, B, kd2, n2', x2, y2, f0, r0, s0, f1, r1, s1, f2, r2, s2, HUV.out, rfl, t1, HR2.out.kept (stays_fr t2 (fun g hg _ e => by have e : g = w.heap.size := e; have := HSS.out g (HUV.out g hg); omega) (fun _ h => h)), HFR.out.trans t2⟩
    | nil =>
      have hrn : RND (CW M k M wr) wr U [.int .i64 kd', .int .i64 n', .string x', .string y', .slice b0 m0 e0, .slice b1 m1 e1, .slice b2 m2 e2] nd := hrs
      obtain ⟨vv, av, cv, acs, ccs, V0, V1, V2, V3, V4, h1, hnm, hwf, hpt, h4, h5, h6, h7, h8⟩ := hrn
      obtain ⟨va, vc, rfl, _, _⟩ := id h4.1
      obtain ⟨aa, ac, rfl, _, hac, _⟩ := id h5
      obtain ⟨ca, cc, rfl, _, hcc, _⟩ := id h7
      simp only [List.cons.injEq, Value.int.injEq, Value.string.injEq, Value.slice.injEq, and_true, true_and] at h1
      obtain ⟨rfl, rfl, rfl, rfl, ⟨rfl, rfl, rfl⟩, ⟨rfl, rfl, rfl⟩, ⟨rfl, rfl, rfl⟩⟩ := h1
      have CC : Hid (∀ u, Calls Tryz.prog 76 #[.int .i64 nd.kind] u fun e w' => e = .returned (.bool false) ∧ w' = u) := fun u => counts7_any nd.kind HK.out.1 HK.out.2 u
      have n12 : (nd.kind == 12) = false := by have := HK.out.2; simp; omega
      obtain ⟨W1, hW1⟩ : ∃ W1, W1 = wr := ⟨_, rfl⟩
      rw [← hW1] at hbx hrs hfr h4 h5 h6 h7 h8 k0 z0 l0 ⊢
      clear hW1
      have HBX := hide hbx
      have HFR := hide hfr
      have HVL : Hid (∀ q, q ∈ [V0, V1, V2, V3, V4] → ∀ g, q g → g < w.heap.size) := fun q hq g hg => HSS.out g (hUV g (hpt.1 q hq g hg))
      have hpd := hpt.2
      simp only [List.pairwise_cons, List.mem_cons, List.not_mem_nil, or_false, forall_eq_or_imp, forall_eq, List.Pairwise.nil, and_true, false_imp_iff, implies_true] at hpd
      obtain ⟨⟨d01, d02, d03, d04⟩, ⟨d12, d13, d14⟩, ⟨d23, d24⟩, d34⟩ := hpd
      have D12 := hide d12
      have D34 := hide d34
      have D0 : Hid (∀ g, V0 g → ¬ (V1 g ∨ V2 g ∨ V3 g ∨ V4 g)) := fun g h h' => h'.elim (d01 g h) fun h' => h'.elim (d02 g h) fun h' => h'.elim (d03 g h) (d04 g h)
      have D312 : Hid (∀ U : Nat → Prop, (∀ g, U g → V3 g ∨ V4 g) → Dis U (fun g => V1 g ∨ V2 g)) := fun U hU g h h' => (hU g h).elim (fun a => h'.elim (fun b => d13 g b a) (fun b => d23 g b a)) (fun a => h'.elim (fun b => d14 g b a) (fun b => d24 g b a))
      have D124 : Hid (∀ U : Nat → Prop, (∀ g, U g → V1 g ∨ V2 g) → Dis U (fun g => V3 g ∨ V4 g)) := fun U hU g h h' => (hU g h).elim (fun a => h'.elim (fun b => d13 g a b) (fun b => d14 g a b)) (fun a => h'.elim (fun b => d23 g a b) (fun b => d24 g a b))
      have HPT := hide hpt
      have HUV := hide hUV
      have HNW := hide (And.intro hnm hwf)
      have H4 := hide h4
      have S0 : Hid (ErSt M k (.slice b1 nd.args.length e1) nd.args.length nd.args V1 V2 0 W1) := ⟨⟨fun _ => False, V2, [], acs, fun _ h => h.elim, fun _ h => h, fun _ h => h.elim, h5, rfl, h6⟩⟩
      have S1 : Hid (ErSc M k (.slice b2 nd.cases.length e2) nd.cases.length nd.cases V3 V4 0 W1) := ⟨⟨fun _ => False, V4, [], ccs, fun _ h => h.elim, fun _ h => h, fun _ h => h.elim, h7, rfl, h8⟩⟩
      clear hbx hrs hfr h4 h5 h6 h7 h8 hgn hpt hUV hnm hwf d01 d02 d03 d04 d12 d13 d14 d23 d24 d34
      go_wp2_with fail
      refine (CC.out _).mono ?_
      rintro e w1 ⟨rfl, hw1⟩
      rw [hw1]
      clear hw1 CC
      go_wp2_with fail
      go_loopw [28] (fun q wr' => ∃ i : Nat, i ≤ nd.args.length ∧ q = .int .i64 i ∧ Fr (fun g => V1 g ∨ V2 g) W1 wr' ∧ ErSt M k (.slice b1 nd.args.length e1) nd.args.length nd.args V1 V2 i wr') (fun q _ => nd.args.length - (intOf q).toNat)
      case atStart => exact ⟨0, Nat.zero_le _, rfl, Fr.refl _ _, S0.out⟩
      case round =>
        clear S0
        obtain ⟨i, hi, rfl, hf, hst⟩ := hrel
        have hTn : ∀ g, (V1 g ∨ V2 g) → g < w.heap.size := fun g h => h.elim (HVL.out V1 (by simp) g) (HVL.out V2 (by simp) g)
        have hb2 := fr_heap HBX.out hf (fun e => by have := hTn _ e; omega)
        clear k0 z0 l0
        have k0 := cell_of_heap hb2
        have z0 := frozen_of_heap hb2
        have l0 := lt_of_heap hb2
        have HB2 := hide hb2
        by_cases hlt : i < nd.args.length
        · obtain ⟨g, o, cap, kd2, n2, x2, y2, f0, r0, s0, f1, r1, s1, f2, r2, s2, A, hav, hVg, hgl, hAV, hcw, hzz, hcell, hnext⟩ := hst.at hlt D12.out
          injection hav with hav1 _ hav2
          subst hav1 hav2
          have q0 : wr.cell? ⟨g, o + i * 7, none⟩ = some (.int .i64 kd2) := hcell 0 (by omega)
          have q1 := hcell 1 (by omega)
          have q2 := hcell 2 (by omega)
          have q3 := hcell 3 (by omega)
          have q4 := hcell 4 (by omega)
          have q5 := hcell 5 (by omega)
          have q6 := hcell 6 (by omega)
          have hgA : ¬ A g := fun h => D12.out g hVg (hAV g h)
          have hAw : ∀ g, A g → g < w.heap.size := fun g h => HVL.out V2 (by simp) g (hAV g h)
          have hgw : g < w.heap.size := HVL.out V1 (by simp) g hVg
          have hww : w.heap.size < wr.heap.size := l0
          have CE : Hid (∀ W, Fr No wr W → Calls Tryz.prog 39 #[.agg #[.int .i64 kd2, .int .i64 n2, .string x2, .string y2, .slice f0 r0 s0, .slice f1 r1 s1, .slice f2 r2 s2]] W fun e w' => ∃ kd3 n3 x3 y3 h0 p0 t0 h1 p1 t1 h2 p2 t2, e = .returned (.agg #[.int .i64 kd3, .int .i64 n3, .string x3, .string y3, .slice h0 p0 t0, .slice h1 p1 t1, .slice h2 p2 t2]) ∧ Fr A W w' ∧ RTD k w' A [.int .i64 kd3, .int .i64 n3, .string x3, .string y3, .slice h0 p0 t0, .slice h1 p1 t1, .slice h2 p2 t2] nd.args[i] ∧ (w'.heap[w.heap.size]? = wr.heap[w.heap.size]? ∧ (∀ j, j < 7 → w'.cell? ⟨g, o + i * 7 + j, none⟩ = [Value.int .i64 kd2, .int .i64 n2, .string x2, .string y2, .slice f0 r0 s0, .slice f1 r1 s1, .slice f2 r2 s2][j]?) ∧ (∀ j, j < 7 → w'.frozen? ⟨g, o + i * 7 + j, none⟩ = false))) := fun W hW =>
            (HA.out nd.args[i] (List.getElem_mem hlt) M A W _ (hcw.kept (stays_of_fr hW)) (fun g hg => by have := hAw g hg; have := hW.size; omega)).mono fun e w' ⟨cs', he, hf', hr'⟩ => by
              have f2 : Fr A wr w' := (hW.mono (fun _ _ e => e.elim)).trans hf'
              have hb := f2.block g hgl hgA
              obtain ⟨kd3, n3, x3, y3, h0, p0, t0, h1, p1, t1, h2, p2, t2, rfl⟩ := hr'.form
              exact ⟨kd3, n3, x3, y3, h0, p0, t0, h1, p1, t1, h2, p2, t2, he, hf', hr', f2.block _ hww (fun e => by have := hAw _ e; omega), fun j hj => by rw [show w'.cell? ⟨g, o + i * 7 + j, none⟩ = wr.cell? ⟨g, o + i * 7 + j, none⟩ from by simp only [World.cell?, hb]]; exact hcell j hj, fun j hj => by rw [show w'.frozen? ⟨g, o + i * 7 + j, none⟩ = wr.frozen? ⟨g, o + i * 7 + j, none⟩ from by simp only [World.frozen?, hb]]; exact hzz j hj⟩
          have HF := hide hf
          have HI := hide hi
          have HNX := hide hnext
          have HVG := hide hVg
          have HAV := hide hAV
          clear hcell hf hzz hb2 hi hnext hcw hst hVg hAV hgA hAw hTn
          have i1 : (i : Int) < (nd.args.length : Int) := by omega
          have i0 : (0 : Int) ≤ (i : Int) := by omega
          unfold maxLen at hac
          go_wp2_with fail
          go_region_with (first
            | (go_at_call 39; refine (CE.out _ (by first | exact ((Fr.refl No wr).alloc _).drew | exact (Fr.refl No wr).alloc _)).mono ?_; rintro e w5 ⟨kd3, n3, x3, y3, h0, p0, t0, h1, p1, t1, h2, p2, t2, rfl, hf5, hr5, hb5, hc5, hz5⟩; have F5 := hide hf5; have R5 := hide hr5; have B5 := hb5.trans HB2.out; have k5 := cell_of_heap B5; have l5 := lt_of_heap B5; have c50 : w5.cell? ⟨g, o + i * 7, none⟩ = some (.int .i64 kd2) := hc5 0 (by omega); have c51 := hc5 1 (by omega); have c52 := hc5 2 (by omega); have c53 := hc5 3 (by omega); have c54 := hc5 4 (by omega); have c55 := hc5 5 (by omega); have c56 := hc5 6 (by omega); have z50 : w5.frozen? ⟨g, o + i * 7, none⟩ = false := hz5 0 (by omega); have z51 := hz5 1 (by omega); have z52 := hz5 2 (by omega); have z53 := hz5 3 (by omega); have z54 := hz5 4 (by omega); have z55 := hz5 5 (by omega); have z56 := hz5 6 (by omega); clear hf5 hr5 hb5 hc5 hz5 B5))
          all_goals
            go_wp2_with fail
            have FA : Fr A wr w5 := ((((Fr.refl No wr).alloc _).drew).mono (fun _ _ e => e.elim)).trans F5.out
            obtain ⟨nx1, nx2⟩ := HNX.out w5 [.int .i64 kd3, .int .i64 n3, .string x3, .string y3, .slice h0 p0 t0, .slice h1 p1 t1, .slice h2 p2 t2] FA rfl R5.out
            go_roundw
            case rel => exact ⟨i + 1, by omega, by go_num, (HF.out.trans (FA.mono (fun q _ h => .inr (HAV.out q h)))).trans (nx2.mono (fun q _ e => .inl (by have e : q = g := e; rw [e]; exact HVG.out))), nx1⟩
            case measure => simp [intOf]; omega
        · have hil : i = nd.args.length := by omega
          subst hil
          have HF := hide hf
          have HST := hide hst
          clear hf hb2 hst hTn
          go_wp2_with fail
          obtain ⟨W2, hW2⟩ : ∃ W2, W2 = wr := ⟨_, rfl⟩
          rw [← hW2] at HB2 HF HST ⊢
          clear k0 z0 l0 hW2
          have S2 : Hid (ErSc M k (.slice b2 nd.cases.length e2) nd.cases.length nd.cases V3 V4 0 W2) := by
            obtain ⟨Z1, Z2, xs1, xs2, hz1, hz2, hz, hrow, he1, he2⟩ := S1.out
            have stx : ∀ U : Nat → Prop, (∀ g, U g → V3 g ∨ V4 g) → Stays U U W1 W2 := fun U hU => st_of HF.out (D312.out U hU)
            exact ⟨⟨Z1, Z2, xs1, xs2, hz1, hz2, hz, hrow.kept (stx V3 (fun _ h => .inl h)), he1.mono fun U _ _ hU h => RCD.mono (stx U (fun g h => .inr (hz1 g (hU g h)))) (fun _ _ _ hU' h => RTD.kept (stx _ (fun g h => .inr (hz1 g (hU g (hU' g h))))) h) h,
              he2.mono fun U _ _ hU h => RCD.mono (stx U (fun g h => .inr (hz2 g (hU g h)))) (fun _ _ _ hU' h => CW.kept (stx _ (fun g h => .inr (hz2 g (hU g (hU' g h))))) h) h⟩⟩
          clear S1
          go_loopw [43] (fun q wr' => ∃ i : Nat, i ≤ nd.cases.length ∧ q = .int .i64 i ∧ Fr (fun g => V3 g ∨ V4 g) W2 wr' ∧ ErSc M k (.slice b2 nd.cases.length e2) nd.cases.length nd.cases V3 V4 i wr') (fun q _ => nd.cases.length - (intOf q).toNat)
          case atStart => exact ⟨0, Nat.zero_le _, rfl, Fr.refl _ _, S2.out⟩
          case round =>
            clear S2
            obtain ⟨i, hi, rfl, hf, hst⟩ := hrel
            have hTn : ∀ g, (V3 g ∨ V4 g) → g < w.heap.size := fun g h => h.elim (HVL.out V3 (by simp) g) (HVL.out V4 (by simp) g)
            have hb3 := fr_heap HB2.out hf (fun e => by have := hTn _ e; omega)
            have k0 := cell_of_heap hb3
            have z0 := frozen_of_heap hb3
            have l0 := lt_of_heap hb3
            have HB3 := hide hb3
            by_cases hlt : i < nd.cases.length
            · obtain ⟨g, o, cap, tg, va9, vn9, vc9, kd2, n2, x2, y2, f0, r0, s0, f1, r1, s1, f2, r2, s2, A, hav, hVg, hgl, hAV, hcw, hzz, hcell, hnext⟩ := hst.at hlt D34.out
              injection hav with hav1 _ hav2
              subst hav1 hav2
              have q0 : wr.cell? ⟨g, o + i * 9, none⟩ = some (.int .i64 tg) := hcell 0 (by omega)
              have q1 := hcell 1 (by omega)
              have q2 := hcell 2 (by omega)
              have q3 := hcell 3 (by omega)
              have q4 := hcell 4 (by omega)
              have q5 := hcell 5 (by omega)
              have q6 := hcell 6 (by omega)
              have q7 := hcell 7 (by omega)
              have q8 := hcell 8 (by omega)
              have hgA : ¬ A g := fun h => D34.out g hVg (hAV g h)
              have hAw : ∀ g, A g → g < w.heap.size := fun g h => HVL.out V4 (by simp) g (hAV g h)
              have hgw : g < w.heap.size := HVL.out V3 (by simp) g hVg
              have hww : w.heap.size < wr.heap.size := l0
              have CE : Hid (∀ W, Fr No wr W → Calls Tryz.prog 39 #[.agg #[.int .i64 kd2, .int .i64 n2, .string x2, .string y2, .slice f0 r0 s0, .slice f1 r1 s1, .slice f2 r2 s2]] W fun e w' => ∃ kd3 n3 x3 y3 h0 p0 t0 h1 p1 t1 h2 p2 t2, e = .returned (.agg #[.int .i64 kd3, .int .i64 n3, .string x3, .string y3, .slice h0 p0 t0, .slice h1 p1 t1, .slice h2 p2 t2]) ∧ Fr A W w' ∧ RTD k w' A [.int .i64 kd3, .int .i64 n3, .string x3, .string y3, .slice h0 p0 t0, .slice h1 p1 t1, .slice h2 p2 t2] nd.cases[i].2.2 ∧ (w'.heap[w.heap.size]? = wr.heap[w.heap.size]? ∧ (∀ j, j < 9 → w'.cell? ⟨g, o + i * 9 + j, none⟩ = [Value.int .i64 tg, .slice va9 vn9 vc9, .int .i64 kd2, .int .i64 n2, .string x2, .string y2, .slice f0 r0 s0, .slice f1 r1 s1, .slice f2 r2 s2][j]?) ∧ (∀ j, j < 9 → w'.frozen? ⟨g, o + i * 9 + j, none⟩ = false))) := fun W hW =>
                (HC.out nd.cases[i] (List.getElem_mem hlt) M A W _ (hcw.kept (stays_of_fr hW)) (fun g hg => by have := hAw g hg; have := hW.size; omega)).mono fun e w' ⟨cs', he, hf', hr'⟩ => by
                  have f2 : Fr A wr w' := (hW.mono (fun _ _ e => e.elim)).trans hf'
                  have hb := f2.block g hgl hgA
                  obtain ⟨kd3, n3, x3, y3, h0, p0, t0, h1, p1, t1, h2, p2, t2, rfl⟩ := hr'.form
                  exact ⟨kd3, n3, x3, y3, h0, p0, t0, h1, p1, t1, h2, p2, t2, he, hf', hr', f2.block _ hww (fun e => by have := hAw _ e; omega), fun j hj => by rw [show w'.cell? ⟨g, o + i * 9 + j, none⟩ = wr.cell? ⟨g, o + i * 9 + j, none⟩ from by simp only [World.cell?, hb]]; exact hcell j hj, fun j hj => by rw [show w'.frozen? ⟨g, o + i * 9 + j, none⟩ = wr.frozen? ⟨g, o + i * 9 + j, none⟩ from by simp only [World.frozen?, hb]]; exact hzz j hj⟩
              have HF3 := hide hf
              have HI := hide hi
              have HNX := hide hnext
              have HVG := hide hVg
              have HAV := hide hAV
              clear hcell hf hzz hb3 hi hnext hcw hst hVg hAV hgA hAw hTn
              have i1 : (i : Int) < (nd.cases.length : Int) := by omega
              have i0 : (0 : Int) ≤ (i : Int) := by omega
              unfold maxLen at hcc
              go_wp2_with fail
              go_region_with (first
                | (go_at_call 39; refine (CE.out _ (by first | exact ((Fr.refl No wr).alloc _).drew | exact (Fr.refl No wr).alloc _)).mono ?_; rintro e w5 ⟨kd3, n3, x3, y3, h0, p0, t0, h1, p1, t1, h2, p2, t2, rfl, hf5, hr5, hb5, hc5, hz5⟩; have F5 := hide hf5; have R5 := hide hr5; have B5 := hb5.trans HB3.out; have k5 := cell_of_heap B5; have l5 := lt_of_heap B5; have c50 : w5.cell? ⟨g, o + i * 9, none⟩ = some (.int .i64 tg) := hc5 0 (by omega); have c51 := hc5 1 (by omega); have c52 := hc5 2 (by omega); have c53 := hc5 3 (by omega); have c54 := hc5 4 (by omega); have c55 := hc5 5 (by omega); have c56 := hc5 6 (by omega); have c57 := hc5 7 (by omega); have c58 := hc5 8 (by omega); have z52 := hz5 2 (by omega); have z53 := hz5 3 (by omega); have z54 := hz5 4 (by omega); have z55 := hz5 5 (by omega); have z56 := hz5 6 (by omega); have z57 := hz5 7 (by omega); have z58 := hz5 8 (by omega); clear hf5 hr5 hb5 hc5 hz5 B5))
              all_goals
                go_wp2_with fail
                have FA : Fr A wr w5 := ((((Fr.refl No wr).alloc _).drew).mono (fun _ _ e => e.elim)).trans F5.out
                obtain ⟨nx1, nx2⟩ := HNX.out w5 [.int .i64 kd3, .int .i64 n3, .string x3, .string y3, .slice h0 p0 t0, .slice h1 p1 t1, .slice h2 p2 t2] FA rfl R5.out
                go_roundw
                case rel => exact ⟨i + 1, by omega, by go_num, (HF3.out.trans (FA.mono (fun q _ h => .inr (HAV.out q h)))).trans (nx2.mono (fun q _ e => .inl (by have e : q = g := e; rw [e]; exact HVG.out))), nx1⟩
                case measure => simp [intOf]; omega
            · have hil : i = nd.cases.length := by omega
              subst hil
              have hr3 := fr_heap (fr_heap (fr_heap T0.out.r HFR.out (fun e => by have e : w.heap.size + 1 = w.heap.size := e; omega)) HF.out (fun e => by have := (show ∀ g, (V1 g ∨ V2 g) → g < w.heap.size from fun g h => h.elim (HVL.out V1 (by simp) g) (HVL.out V2 (by simp) g)) _ e; omega)) hf (fun e => by have := hTn _ e; omega)
              have k4 := cell_of_heap hr3
              have z4 := frozen_of_heap hr3
              have l4 := lt_of_heap hr3
              have HR3 := hide hr3
              have HF3 := hide hf
              have HST3 := hide hst
              have HTN := hide hTn
              clear hb3 hr3 hf hst hTn
              go_wp2_with fail
              obtain ⟨t1, t2⟩ := set7 HR3.out (.int .i64 nd.kind) (.int .i64 nd.n) (.string nd.name) (.string nd.token) (.slice b0 nd.vars.length e0) (.slice b1 nd.args.length e1) (.slice b2 nd.cases.length e2)
              refine bodyPost_ret (retT rfl _ _ (w.heap.size + 1) _ _ _ _ _ _ _ (0, 0) rfl t1) rfl ⟨_, rfl, ?_, ?_⟩
              · have g1 : Fr V w W1 := (T0.out.fr.trans' HFR.out (fun i hi e => by have e : i = w.heap.size := e; omega)).mono (fun _ _ e => e.elim)
                have g2 : Fr V w W2 := g1.trans (HF.out.mono (fun q _ h => HUV.out q (h.elim (HPT.out.1 V1 (by simp) q) (HPT.out.1 V2 (by simp) q))))
                have g3 := g2.trans (HF3.out.mono (T' := V) (fun q _ h => HUV.out q (h.elim (HPT.out.1 V3 (by simp) q) (HPT.out.1 V4 (by simp) q))))
                exact g3.trans' t2 (fun i hi e => by have e : i = w.heap.size + 1 := e; omega)
              · obtain ⟨Z1, Z2, xs1, xs2, hz1, hz2, hz, hrow, he1, he2⟩ := HST.out
                obtain ⟨Y1, Y2, ys1, ys2, gz1, gz2, gz, grow, ge1, ge2⟩ := HST3.out
                rw [List.drop_length] at he2 ge2
                rw [List.take_length] at he1 ge1
                have he2 : xs2 = [] := he2
                have ge2 : ys2 = [] := ge2
                subst he2 ge2
                rw [List.append_nil] at hrow grow
                have stA : ∀ U : Nat → Prop, (∀ g, U g → V1 g ∨ V2 g) → Stays U U W2 wr := fun U hU => st_of HF3.out (D124.out U hU)
                have stB : ∀ U : Nat → Prop, (∀ g, U g → g < w.heap.size) → ∀ {Y : World}, Fr (· = w.heap.size + 1) wr Y → Stays U U wr Y := fun U hU _ hY => st_of hY (fun g h e => by have e : g = w.heap.size + 1 := e; have := hU g h; omega)
                have lA : ∀ g, V1 g ∨ V2 g → g < w.heap.size := fun g h => h.elim (HVL.out V1 (by simp) g) (HVL.out V2 (by simp) g)
                have l0' := HVL.out V0 (by simp)
                have st0 : Stays V0 V0 W1 wr := ⟨Nat.le_trans HF.out.size HF3.out.size, fun g hg hl => ⟨hg, (HF3.out.block g (Nat.lt_of_lt_of_le hl HF.out.size) (fun h => D0.out g hg (.inr (.inr h)))).trans (HF.out.block g hl (fun h => D0.out g hg (h.imp (fun h => h) (fun h => .inl h))))⟩⟩
                refine RTD.sub (k := k + 1) (V := U) HUV.out ?_
                exact ⟨_, _, _, xs1, ys1, V0, V1, V2, V3, V4, rfl, HNW.out.1, HNW.out.2, HPT.out, (H4.out.kept st0).kept (stB V0 l0' t2), (hrow.kept (stA V1 (fun _ h => .inl h))).kept (stB V1 (fun g h => lA g (.inl h)) t2),
                  EachD.sub hz1 (he1.mono fun U _ _ hU h => (h.kept (stA U (fun g h => .inr (hz1 g (hU g h))))).kept (stB U (fun g h => lA g (.inr (hz1 g (hU g h)))) t2)),
                  grow.kept (stB V3 (fun g h => HTN.out g (.inl h)) t2),
                  EachD.sub gz1 (ge1.mono fun U _ _ hU h => RCD.mono (stB U (fun g h => HTN.out g (.inr (gz1 g (hU g h)))) t2) (fun _ _ _ hU' h => RTD.kept (stB _ (fun g h => HTN.out g (.inr (gz1 g (hU g (hU' g h))))) t2) h) h)⟩
theorem er_all (M : Nat) : ∀ (k : Nat) (t : Pu.TT k), Pl k t → ErD M k t
  | 0, _, _ => fun _ _ _ _ h => h.elim
  | k + 1, t, h => er_node M k (er_all M k) t h.1.1 h.1.2 h.2.1 h.2.2
end Go.Proofs.YtomahbdidlglfacGreatDoor

/- own: 'Erase' in general, walked. -/
namespace Go.Proofs.YtomahbdidlglfacGreatDoor
open Go.RowKit Go.Maps Go.WideMaps

set_option maxRecDepth 100000 in
set_option maxHeartbeats 2000000 in
theorem ownEraseD_any (M k m : Nat) (t : Pu.TT k) (hp : Pl k t) (B : Nat) (w : World) (cs : List Value) (hT : CWB M k m B w cs t) (hB : B ≤ w.heap.size) :
    Calls Tryz.prog 17 #[.agg cs.toArray] w fun e w' => ∃ cs', e = .returned (.agg cs'.toArray) ∧ Fr No w w' ∧ RTD k w' (New w w') cs' t := by
  obtain ⟨kd, n, x, y, a0, n0, c0, a1, n1, c1, a2, n2, c2, rfl⟩ := (show CWB M k m B w cs t from hT).2.choose_spec.2.form
  have hTB := tb_new w #[.int .i64 kd, .int .i64 n, .string x, .string y, .slice a0 n0 c0, .slice a1 n1 c1, .slice a2 n2 c2]
  obtain ⟨W0, hW0⟩ : ∃ W0, W0 = ((w.alloc (.cells #[.int .i64 kd, .int .i64 n, .string x, .string y, .slice a0 n0 c0, .slice a1 n1 c1, .slice a2 n2 c2] 32)).alloc (.cells #[.int .i64 0, .int .i64 0, .string ⟨#[]⟩, .string ⟨#[]⟩, .slice none 0 0, .slice none 0 0, .slice none 0 0] 32)) := ⟨_, rfl⟩
  rw [← hW0] at hTB
  have CO : Hid (Calls Tryz.prog 40 #[.agg #[.int .i64 kd, .int .i64 n, .string x, .string y, .slice a0 n0 c0, .slice a1 n1 c1, .slice a2 n2 c2]] W0 fun e w' => ∃ d0 d1 d2 d3 d4 d5 d6, e = .returned (.agg #[d0, d1, d2, d3, d4, d5, d6]) ∧ Fr No W0 w' ∧ CW M k m w' (New W0 w') [d0, d1, d2, d3, d4, d5, d6] t) :=
    (own_cw M k m B W0 _ t ⟨hT.1, hT.2.choose, hT.2.choose_spec.1, hT.2.choose_spec.2.kept (stays_of_fr hTB.fr)⟩ (Nat.le_trans hB hTB.fr.size)).mono fun e w' ⟨cs', he, hf, hr⟩ => by
      obtain ⟨_, _, _, _, _, _, _, _, _, _, _, _, _, rfl⟩ := hr.form
      exact ⟨_, _, _, _, _, _, _, he, hf, hr⟩
  have CT : Hid (∀ W S d0 d1 d2 d3 d4 d5 d6, CW M k m W S [d0, d1, d2, d3, d4, d5, d6] t → (∀ g, S g → g < W.heap.size) → Calls Tryz.prog 39 #[.agg #[d0, d1, d2, d3, d4, d5, d6]] W fun e w' => ∃ kd' n' x' y' a0' n0' c0' a1' n1' c1' a2' n2' c2', e = .returned (.agg #[.int .i64 kd', .int .i64 n', .string x', .string y', .slice a0' n0' c0', .slice a1' n1' c1', .slice a2' n2' c2']) ∧ Fr S W w' ∧ RTD k w' S [.int .i64 kd', .int .i64 n', .string x', .string y', .slice a0' n0' c0', .slice a1' n1' c1', .slice a2' n2' c2'] t) := fun W S d0 d1 d2 d3 d4 d5 d6 hr hS =>
    (er_all M k t hp m S W _ hr hS).mono fun e w' ⟨cs', he, hf, hr⟩ => by
      obtain ⟨_, _, _, _, _, _, _, _, _, _, _, _, _, rfl⟩ := hr.form
      exact ⟨_, _, _, _, _, _, _, _, _, _, _, _, _, he, hf, hr⟩
  have T0 := hide hTB
  have HW0 := hide hW0
  have k0 := cell_of_heap hTB.t
  rw [hW0] at k0
  clear hT hTB hW0 hp
  show Calls Tryz.prog 17 #[.agg #[.int .i64 kd, .int .i64 n, .string x, .string y, .slice a0 n0 c0, .slice a1 n1 c1, .slice a2 n2 c2]] w _
  go_enter Tryz.func17, Tryz.ntmps17
  go_wp2_with fail
  rw [← HW0.out]
  clear k0
  refine CO.out.mono ?_
  rintro e w1 ⟨d0, d1, d2, d3, d4, d5, d6, rfl, hf1, hr1⟩
  have T1 := hide (T0.out.step hf1)
  have HR1 := hide hr1
  have hs01 := hf1.size
  have hf1' := hf1
  clear hf1 hr1 CO
  go_wp2_with fail
  refine (CT.out w1 (New W0 w1) _ _ _ _ _ _ _ HR1.out (fun g h => h.2)).mono ?_
  rintro e w2 ⟨kd', n', x', y', a0', n0', c0', a1', n1', c1', a2', n2', c2', rfl, hf2, hr2⟩
  have hfn : Fr No W0 w2 := (Fr.trans' (T := No) hf1' hf2 (fun i hi e => by have := e.1; omega))
  have T2 := hide (T0.out.step hfn)
  have HR2 := hide (And.intro hr2 hf2.size)
  have k2 := cell_of_heap T2.out.r
  have z2 := frozen_of_heap T2.out.r
  have l2 := lt_of_heap T2.out.r
  have l0 := lt_of_heap T0.out.r
  have s1 := T1.out.fr.size
  clear hf2 hr2 CT hfn hf1'
  go_wp2_with fail
  obtain ⟨t1, t2⟩ := set7 T2.out.r (.int .i64 kd') (.int .i64 n') (.string x') (.string y') (.slice a0' n0' c0') (.slice a1' n1' c1') (.slice a2' n2' c2')
  have s2 := HR2.out.2
  have s0 := T0.out.fr.size
  refine bodyPost_ret (retT rfl _ _ (w.heap.size + 1) _ _ _ _ _ _ _ (0, 0) rfl t1) rfl ⟨_, rfl, ?_, ?_⟩
  · exact T2.out.fr.trans' t2 (fun i hi e => by have e : i = w.heap.size + 1 := e; omega)
  · have s3 := t2.size
    exact (HR2.out.1.kept (stays_fr t2 (fun g hg _ e => by
      have e : g = w.heap.size + 1 := e
      have := hg.1; omega) (fun _ h => h))).sub (fun g hg => ⟨by have := hg.1; omega, by have := hg.2; omega⟩)
end Go.Proofs.YtomahbdidlglfacGreatDoor

/- trial -/
namespace Go.Proofs.YtomahbdidlglfacGreatDoor
open Go.RowKit Go.Maps Go.WideMaps
theorem wf_memE {k : Nat} : ∀ {l : List (Pu.Fn k)} {n : Nat}, (l.map wf).sum ≤ n → ∀ f, f ∈ l → wf f ≤ n
  | [], _, _, _, h => by cases h
  | g :: r, n, h, f, hf => by
    rw [List.map_cons, List.sum_cons] at h
    rcases List.mem_cons.1 hf with rfl | hf
    · omega
    · exact wf_memE (l := r) (by omega) f hf
/-- What the law's 'alive' answers. -/
def Alive6 : Prop := ∀ w, Env w → 3 ≤ w.heap.size → Calls Tryz.prog 11 #[] w fun e w' => e = .returned (.bool true) ∧ Fr No w w'
/-- What the document's Check answers. -/
def Check6 : Prop := ∀ (k B : Nat) (w : World) (v : Value) (l : List (Pu.Fn k)), Fns k B w v l → B ≤ w.heap.size → (l.map wf).sum ≤ 1073741824 → Calls Tryz.prog 6 #[v] w fun e w' => e = .returned (.int .i64 (Pu.check l)) ∧ Fr No w w'

set_option maxRecDepth 100000 in
set_option maxHeartbeats 8000000 in
theorem ownErase6_any (hAl : Alive6) (hCk : Check6) (k B : Nat) (w : World) (v : Value) (p : List (Pu.Fn k)) (hp : Fns k B w v p) (hB : B ≤ w.heap.size) (h3 : 3 ≤ w.heap.size) (henv : Env w) (hw : (p.map wf).sum ≤ 1048576) :
    Calls Tryz.prog 4 #[v] w fun e w' => e = .returned (.bool true) ∧ Fr No w w' := by
  have hform : ∃ a cap, v = .slice a p.length cap ∧ p.length ≤ cap ∧ cap ≤ maxLen := by obtain ⟨acs, hr, _⟩ := hp; exact hr.form
  obtain ⟨fa, fc, rfl, hfc1, hfc2⟩ := hform
  unfold maxLen at hfc2
  have hwm : ∀ f, f ∈ p → wf f ≤ 1048576 := wf_memE hw
  have hpl : p.length ≤ 1048576 := Nat.le_trans (len_le wf (fun f => by unfold wf; omega) p) hw
  have CA := hide (hAl w henv h3)
  have CC : Hid (∀ W, Fr No w W → Calls Tryz.prog 6 #[.slice fa p.length fc] W fun e w' => e = .returned (.int .i64 (Pu.check p)) ∧ Fr No W w') := fun W hW =>
    hCk k B W _ p (hp.old (hW.old hB (fun _ _ e => e)) hW.size) (Nat.le_trans hB hW.size) (by omega)
  have CE : Hid (∀ W, Fr No w W → Pu.check p = 0 → Calls Tryz.prog 12 #[.slice fa p.length fc, .func (.func 13) #[] #[]] W fun e w' => ∃ oa oc, e = .returned (.slice oa p.length oc) ∧ EP W p.length oa oc w') := fun W hW hc =>
    each_plain_any k B W _ p (hp.old (hW.old hB (fun _ _ e => e)) hW.size) (Nat.le_trans hB hW.size) (check_pq hc) (Nat.le_trans h3 hW.size) (henv.fr hW h3 (fun _ _ e => e)) hwm hpl
  obtain ⟨ck, hck⟩ : ∃ ck, ck = Pu.check p := ⟨_, rfl⟩
  rw [← hck] at CC CE
  clear hck hp henv hw hwm hAl hCk
  go_enter Tryz.func4, Tryz.ntmps4
  go_wp2_with fail
  refine CA.out.mono ?_
  rintro e w1 ⟨rfl, hf1⟩
  have F1 := hide hf1
  clear hf1 CA
  go_wp2_with fail
  refine (CC.out w1 F1.out).mono ?_
  rintro e w2 ⟨rfl, hf2⟩
  have F2 := hide (F1.out.trans hf2)
  clear hf2 CC
  by_cases hc0 : ck = 0
  · have CE1 := hide (CE.out w2 F2.out hc0)
    subst hc0
    clear CE
    go_wp2_with fail
    refine CE1.out.mono ?_
    rintro e w3 ⟨oa, oc, rfl, hep⟩
    have hsz3 := hep.fr.size
    have F3 := hide (F2.out.trans hep.fr)
    have HEL : Hid (∀ W, Fr No w3 W → ∀ i (h : i < p.length), ∃ (g o cap k : Nat) (f : Pu.Fn k) (pa : Option Addr) (pc : Nat) (kA nA : Int) (xA yA : ByteArray) (a0 : Option Addr) (m0 c0 : Nat) (a1 : Option Addr) (m1 c1 : Nat) (a2 : Option Addr) (m2 c2 : Nat), Value.slice oa p.length oc = .slice (some ⟨g, o, none⟩) p.length cap ∧ g < W.heap.size ∧ RF k w3.heap.size W [.string f.1, .slice pa f.2.1.length pc, .int .i64 kA, .int .i64 nA, .string xA, .string yA, .slice a0 m0 c0, .slice a1 m1 c1, .slice a2 m2 c2] f ∧ wf f ≤ 4194304 ∧ Pq k f.2.2 ∧ ∀ j, j < 9 → W.cell? ⟨g, o + i * 9 + j, none⟩ = [Value.string f.1, .slice pa f.2.1.length pc, .int .i64 kA, .int .i64 nA, .string xA, .string yA, .slice a0 m0 c0, .slice a1 m1 c1, .slice a2 m2 c2][j]?) := fun W hW i hi => by
      obtain ⟨xs, ws, r1, r2, r3, r4⟩ := hep.row
      have hrow : RowP (fun _ => True) w3 (.slice oa p.length oc) p.length xs := rowP_own r1 (fun _ _ => trivial)
      rw [← r3] at hrow hi
      obtain ⟨g, o, cap, ck, hv, _, _, hgl, _, ⟨k', hck⟩, hcell⟩ := hrow.el r2 i hi
      obtain ⟨f, f1, f2, f3⟩ := hck.rf (B := w3.heap.size) (fun _ _ h => h)
      obtain ⟨pv, b, rfl, h1, h2, h4, h5⟩ := f1
      obtain ⟨pa, pc, rfl, _⟩ := h2.1.form
      obtain ⟨kA, nA, xA, yA, a0, m0, c0, a1, m1, c1, a2, m2, c2, rfl⟩ := h5.form
      have ho := hW.old (Nat.le_refl w3.heap.size) (fun _ _ e => e)
      rw [r3] at hv
      exact ⟨g, o, cap, k', f, pa, pc, kA, nA, xA, yA, a0, m0, c0, a1, m1, c1, a2, m2, c2, hv, Nat.lt_of_lt_of_le hgl hW.size, ⟨_, _, rfl, h1, h2.kept ho (Nat.le_refl _) hW.size, rfl, h5.kept ho (Nat.le_refl _) hW.size⟩, by rw [f2]; exact r4 _ (List.getElem_mem hi), f3, fun j hj => by rw [show W.cell? ⟨g, o + i * 9 + j, none⟩ = w3.cell? ⟨g, o + i * 9 + j, none⟩ from by simp only [World.cell?, hW.block g hgl (fun e => e)]]; exact hcell j hj⟩
    clear hep CE1
    go_wp2_with fail
    go_loopw [14] (fun q wr => ∃ i : Nat, i ≤ p.length ∧ q = .int .i64 i ∧ Fr No w3 wr) (fun q _ => p.length - (intOf q).toNat)
    case atStart => exact ⟨0, Nat.zero_le _, rfl, Fr.refl _ _⟩
    case round =>
      obtain ⟨i, hi, rfl, hf⟩ := hrel
      by_cases hlt : i < p.length
      · obtain ⟨g, o, cap, k, f, pa, pc, kA, nA, xA, yA, a0, m0, c0, a1, m1, c1, a2, m2, c2, hv, hgl, hrf, hwf, hpq, hcell⟩ := HEL.out wr hf i hlt
        injection hv with hv1 _ hv2
        subst hv1 hv2
        have q0 : wr.cell? ⟨g, o + i * 9, none⟩ = some (.string f.1) := hcell 0 (by omega)
        have q1 := hcell 1 (by omega)
        have q2 := hcell 2 (by omega)
        have q3 := hcell 3 (by omega)
        have q4 := hcell 4 (by omega)
        have q5 := hcell 5 (by omega)
        have q6 := hcell 6 (by omega)
        have q7 := hcell 7 (by omega)
        have q8 := hcell 8 (by omega)
        have i1 : (i : Int) < (p.length : Int) := by omega
        have i0 : (0 : Int) ≤ (i : Int) := by omega
        have hszr := hf.size
        obtain ⟨W1, hW1⟩ : ∃ W1, W1 = wr.alloc (.cells #[.string f.1, .slice pa f.2.1.length pc, .int .i64 kA, .int .i64 nA, .string xA, .string yA, .slice a0 m0 c0, .slice a1 m1 c1, .slice a2 m2 c2] 34) := ⟨_, rfl⟩
        have f1 : Fr No wr W1 := by rw [hW1]; exact (Fr.refl No wr).alloc _
        have bx : W1.heap[wr.heap.size]? = some (.cells #[.string f.1, .slice pa f.2.1.length pc, .int .i64 kA, .int .i64 nA, .string xA, .string yA, .slice a0 m0 c0, .slice a1 m1 c1, .slice a2 m2 c2] 34 (0, 0)) := by rw [hW1]; exact heap_alloc_new wr _
        have RFK : Hid (∀ W, Fr No wr W → RF k w3.heap.size W (.string f.1 :: .slice pa f.2.1.length pc :: [.int .i64 kA, .int .i64 nA, .string xA, .string yA, .slice a0 m0 c0, .slice a1 m1 c1, .slice a2 m2 c2]) f) := fun W hW => by
          obtain ⟨pv, b, e1, h1, h2, h4, h5⟩ := hrf
          have ho := hW.old (B := w3.heap.size) (by omega) (fun _ _ e => e)
          exact ⟨pv, b, e1, h1, h2.kept ho (Nat.le_refl _) hW.size, h4, h5.kept ho (Nat.le_refl _) hW.size⟩
        have hwt : Pu.wt k f.2.2 ≤ 4194304 := by have : wf f = 1 + f.2.1.length + Pu.wt k f.2.2 := rfl; omega
        have CF := hide (ownFnQ_any 4194304 (by decide) k f hpq w3.heap.size W1 _ (RFK.out W1 f1) (by have := f1.size; omega) hwf)
        have HW1 := hide hW1
        have HF1 := hide f1
        have HF := hide hf
        have BX := hide bx
        have HPQ := hide hpq
        have HWT := hide hwt
        clear hrf hwf hpq hcell hW1 f1 bx hf hwt
        go_wp2_with fail
        rw [← HW1.out]
        refine CF.out.mono ?_
        rintro e w4 ⟨pg, qc, kG, nG, xG, yG, r0, p0, d0, r1, p1, d1, r2, p2, d2, rfl, hf4, hng, hcw⟩
        obtain ⟨W5, hW5⟩ : ∃ W5, W5 = w4.alloc (.cells #[.string f.1, .slice pg f.2.1.length qc, .int .i64 kG, .int .i64 nG, .string xG, .string yG, .slice r0 p0 d0, .slice r1 p1 d1, .slice r2 p2 d2] 34) := ⟨_, rfl⟩
        have f5 : Fr No w4 W5 := by rw [hW5]; exact (Fr.refl No w4).alloc _
        have bg : W5.heap[w4.heap.size]? = some (.cells #[.string f.1, .slice pg f.2.1.length qc, .int .i64 kG, .int .i64 nG, .string xG, .string yG, .slice r0 p0 d0, .slice r1 p1 d1, .slice r2 p2 d2] 34 (0, 0)) := by rw [hW5]; exact heap_alloc_new w4 _
        have bf5 := fr_heap (fr_heap BX.out hf4 (fun e => e)) f5 (fun e => e)
        have fr5 : Fr No wr W5 := (HF1.out.trans hf4).trans f5
        have hs4 := hf4.size
        have hs1 := HF1.out.size
        have SN : Hid (∀ W, Fr No W5 W → Calls Tryz.prog 15 #[.slice pg f.2.1.length qc, .slice pa f.2.1.length pc] W fun e w' => e = .returned (.bool true) ∧ Fr No W w') := fun W hW => by
          obtain ⟨pv, b, e1, h1, h2, h4, h5⟩ := RFK.out W (fr5.trans hW)
          injection e1 with _ e1
          injection e1 with e1 _
          subst e1
          have hn : Names W.heap.size W (.slice pg f.2.1.length qc) f.2.1 := by
            have h := hng.kept (stays_of_fr (f5.trans hW))
            exact ⟨h.1.row (fun g hg => Nat.lt_of_lt_of_le hg.2 (f5.trans hW).size), h.2⟩
          refine (sameNames_any W.heap.size w3.heap.size _ _ _ _ W hn h2).mono fun e w' ⟨he, h⟩ => ⟨by rw [he, decide_eq_true rfl], h⟩
        have ER : Hid (∀ W, Fr No W5 W → Calls Tryz.prog 17 #[.agg #[.int .i64 kG, .int .i64 nG, .string xG, .string yG, .slice r0 p0 d0, .slice r1 p1 d1, .slice r2 p2 d2]] W fun e w' => ∃ kH nH xH yH s0 u0 v0 s1 u1 v1 s2 u2 v2, e = .returned (.agg #[.int .i64 kH, .int .i64 nH, .string xH, .string yH, .slice s0 u0 v0, .slice s1 u1 v1, .slice s2 u2 v2]) ∧ Fr No W w' ∧ RT k w'.heap.size w' [.int .i64 kH, .int .i64 nH, .string xH, .string yH, .slice s0 u0 v0, .slice s1 u1 v1, .slice s2 u2 v2] f.2.2) := fun W hW => by
          refine (ownEraseD_any (4 * 4194304) k (2 * 4194304) f.2.2 (Pq.pl HPQ.out) w4.heap.size W _ ⟨by have := HWT.out; omega, New W1 w4, fun g hg => hg.2, hcw.kept (stays_of_fr (f5.trans hW))⟩ (f5.trans hW).size).mono fun e w' ⟨cs', he, h1, h2⟩ => ?_
          have h3 := h2.rts.rt (B := w'.heap.size) (fun g hg => hg.2)
          obtain ⟨kH, nH, xH, yH, s0, u0, v0, s1, u1, v1, s2, u2, v2, rfl⟩ := h3.form
          exact ⟨kH, nH, xH, yH, s0, u0, v0, s1, u1, v1, s2, u2, v2, he, h1, h3⟩
        have SM : Hid (∀ W kH nH xH yH s0 u0 v0 s1 u1 v1 s2 u2 v2, Fr No W5 W → RT k W.heap.size W [.int .i64 kH, .int .i64 nH, .string xH, .string yH, .slice s0 u0 v0, .slice s1 u1 v1, .slice s2 u2 v2] f.2.2 → Calls Tryz.prog 16 #[.agg #[.int .i64 kH, .int .i64 nH, .string xH, .string yH, .slice s0 u0 v0, .slice s1 u1 v1, .slice s2 u2 v2], .agg #[.int .i64 kA, .int .i64 nA, .string xA, .string yA, .slice a0 m0 c0, .slice a1 m1 c1, .slice a2 m2 c2]] W fun e w' => e = .returned (.bool true) ∧ Fr No W w') := fun W kH nH xH yH s0 u0 v0 s1 u1 v1 s2 u2 v2 hW hr => by
          obtain ⟨pv, b, e1, h1, h2, h4, h5⟩ := RFK.out W (fr5.trans hW)
          injection e1 with _ e1
          injection e1 with _ e1
          subst e1
          exact (rsame_all k W.heap.size w3.heap.size W _ _ f.2.2 f.2.2 hr h5 (Nat.le_refl _) (by have := hW.size; have := f5.size; omega)).mono fun e w' ⟨he, h⟩ => ⟨by rw [he, Pu.same_refl], h⟩
        have SCX : Hid (∀ W, Fr No W5 W → (W.cell? ⟨wr.heap.size, 0, none⟩ = some (.string f.1) ∧ W.cell? ⟨wr.heap.size, 1, none⟩ = some (.slice pa f.2.1.length pc) ∧ W.cell? ⟨wr.heap.size, 2, none⟩ = some (.int .i64 kA) ∧ W.cell? ⟨wr.heap.size, 2 + 1, none⟩ = some (.int .i64 nA) ∧ W.cell? ⟨wr.heap.size, 2 + 2, none⟩ = some (.string xA) ∧ W.cell? ⟨wr.heap.size, 2 + 3, none⟩ = some (.string yA) ∧ W.cell? ⟨wr.heap.size, 2 + 4, none⟩ = some (.slice a0 m0 c0) ∧ W.cell? ⟨wr.heap.size, 2 + 5, none⟩ = some (.slice a1 m1 c1) ∧ W.cell? ⟨wr.heap.size, 2 + 6, none⟩ = some (.slice a2 m2 c2) ∧ W.cell? ⟨w4.heap.size, 0, none⟩ = some (.string f.1) ∧ W.cell? ⟨w4.heap.size, 1, none⟩ = some (.slice pg f.2.1.length qc) ∧ W.cell? ⟨w4.heap.size, 2, none⟩ = some (.int .i64 kG) ∧ W.cell? ⟨w4.heap.size, 2 + 1, none⟩ = some (.int .i64 nG) ∧ W.cell? ⟨w4.heap.size, 2 + 2, none⟩ = some (.string xG) ∧ W.cell? ⟨w4.heap.size, 2 + 3, none⟩ = some (.string yG) ∧ W.cell? ⟨w4.heap.size, 2 + 4, none⟩ = some (.slice r0 p0 d0) ∧ W.cell? ⟨w4.heap.size, 2 + 5, none⟩ = some (.slice r1 p1 d1) ∧ W.cell? ⟨w4.heap.size, 2 + 6, none⟩ = some (.slice r2 p2 d2) ∧ Fr No W5 W)) := fun W hW => by
          have ca := cell_of_heap (fr_heap bf5 hW (fun e => e))
          have cb := cell_of_heap (fr_heap bg hW (fun e => e))
          exact ⟨ca 0, ca 1, ca 2, ca 3, ca 4, ca 5, ca 6, ca 7, ca 8, cb 0, cb 1, cb 2, cb 3, cb 4, cb 5, cb 6, cb 7, cb 8, hW⟩
        have HZ := hide (SCX.out W5.drew (Fr.refl No W5).drew)
        have HF5 := hide (HF.out.trans fr5)
        have HW5 := hide hW5
        clear hf4 hng hcw hW5 f5 bg bf5 fr5 CF RFK q0 q1 q2 q3 q4 q5 q6 q7 q8
        go_wp2_with fail
        rw [← HW5.out]
        go_region_held3 (fun w' : World => w'.cell? ⟨wr.heap.size, 0, none⟩ = some (.string f.1) ∧ w'.cell? ⟨wr.heap.size, 1, none⟩ = some (.slice pa f.2.1.length pc) ∧ w'.cell? ⟨wr.heap.size, 2, none⟩ = some (.int .i64 kA) ∧ w'.cell? ⟨wr.heap.size, 2 + 1, none⟩ = some (.int .i64 nA) ∧ w'.cell? ⟨wr.heap.size, 2 + 2, none⟩ = some (.string xA) ∧ w'.cell? ⟨wr.heap.size, 2 + 3, none⟩ = some (.string yA) ∧ w'.cell? ⟨wr.heap.size, 2 + 4, none⟩ = some (.slice a0 m0 c0) ∧ w'.cell? ⟨wr.heap.size, 2 + 5, none⟩ = some (.slice a1 m1 c1) ∧ w'.cell? ⟨wr.heap.size, 2 + 6, none⟩ = some (.slice a2 m2 c2) ∧ w'.cell? ⟨w4.heap.size, 0, none⟩ = some (.string f.1) ∧ w'.cell? ⟨w4.heap.size, 1, none⟩ = some (.slice pg f.2.1.length qc) ∧ w'.cell? ⟨w4.heap.size, 2, none⟩ = some (.int .i64 kG) ∧ w'.cell? ⟨w4.heap.size, 2 + 1, none⟩ = some (.int .i64 nG) ∧ w'.cell? ⟨w4.heap.size, 2 + 2, none⟩ = some (.string xG) ∧ w'.cell? ⟨w4.heap.size, 2 + 3, none⟩ = some (.string yG) ∧ w'.cell? ⟨w4.heap.size, 2 + 4, none⟩ = some (.slice r0 p0 d0) ∧ w'.cell? ⟨w4.heap.size, 2 + 5, none⟩ = some (.slice r1 p1 d1) ∧ w'.cell? ⟨w4.heap.size, 2 + 6, none⟩ = some (.slice r2 p2 d2) ∧ Fr No W5 w') (first | with_reducible assumption | with_reducible exact HZ.out | exact SCX.out _ (Fr.drew (by assumption)))
          (first
          | (go_at_call 15; refine (SN.out _ ?_).mono ?_; (first | exact HZ.out.2.2.2.2.2.2.2.2.2.2.2.2.2.2.2.2.2.2 | (rename_i hz; exact hz.2.2.2.2.2.2.2.2.2.2.2.2.2.2.2.2.2.2)); rintro e w6 ⟨rfl, hf6⟩; have hz6 := SCX.out w6 (HZ.out.2.2.2.2.2.2.2.2.2.2.2.2.2.2.2.2.2.2.trans hf6); have F6 := hide hf6; clear hf6)
          | (go_at_call 17; refine (ER.out _ (HZ.out.2.2.2.2.2.2.2.2.2.2.2.2.2.2.2.2.2.2.trans F6.out)).mono ?_; rintro e w7 ⟨kH, nH, xH, yH, s0, u0, v0, s1, u1, v1, s2, u2, v2, rfl, hf7, hr7⟩; have hz7 := SCX.out w7 ((HZ.out.2.2.2.2.2.2.2.2.2.2.2.2.2.2.2.2.2.2.trans F6.out).trans hf7); have F7 := hide hf7; have R7 := hide hr7; clear hf7 hr7)
          | (go_at_call 16; refine (SM.out _ kH nH xH yH s0 u0 v0 s1 u1 v1 s2 u2 v2 ((HZ.out.2.2.2.2.2.2.2.2.2.2.2.2.2.2.2.2.2.2.trans F6.out).trans F7.out) R7.out).mono ?_; rintro e w8 ⟨rfl, hf8⟩; have hz8 := SCX.out w8 (((HZ.out.2.2.2.2.2.2.2.2.2.2.2.2.2.2.2.2.2.2.trans F6.out).trans F7.out).trans hf8); have F8 := hide hf8; clear hf8))
        all_goals
          go_wp2_with fail
          go_roundw
          case rel => exact ⟨i + 1, by omega, by go_num, HF5.out.trans (((HZ.out.2.2.2.2.2.2.2.2.2.2.2.2.2.2.2.2.2.2.trans F6.out).trans F7.out).trans F8.out)⟩
          case measure => simp [intOf]; omega
      · have hil : i = p.length := by omega
        have HF := hide hf
        clear hf
        subst hil
        go_wp2_with fail
        go_ret
        exact ⟨rfl, F3.out.trans HF.out⟩
  · have hc1 : (ck != 0) = true := by simpa using hc0
    go_wp2_with fail
    go_ret
    exact ⟨rfl, F2.out⟩
end Go.Proofs.YtomahbdidlglfacGreatDoor
