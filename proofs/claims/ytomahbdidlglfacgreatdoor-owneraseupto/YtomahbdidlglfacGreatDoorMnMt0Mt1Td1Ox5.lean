/- own: 'namesIn', walked: what it answers is a row of its own. -/
import Derived.Test.YtomahbdidlglfacGreatDoorOt6Ot8Ot9Le0
import Derived.Test.YtomahbdidlglfacGreatDoorLe2Cb1
import Derived.Test.YtomahbdidlglfacGreatDoorOw3
import Derived.Test.YtomahbdidlglfacGreatDoorOt7
import Derived.Test.YtomahbdidlglfacGreatDoorOt1Er2Er3Td0
import Derived.Test.YtomahbdidlglfacGreatDoorPn6ObOx1Ox2Ox3Pn7
namespace Go.Proofs.YtomahbdidlglfacGreatDoor
open Go.RowKit Go.Maps Go.WideMaps
set_option maxRecDepth 100000 in
set_option maxHeartbeats 4000000 in
theorem namesInO_any (k B : Nat) (v : Value) (acs : List Value) (l : List (Pu.TT k)) (w : World) (hr : Row B w v l.length acs) (he : Each 7 (RT k B w) acs l) (hB : B ≤ w.heap.size) (hn : l.length ≤ 1073741824) :
    Calls Tryz.prog 109 #[v] w fun e w' => ∃ a c, e = .returned (.slice a (namesOf k l).length c) ∧ Fr No w w' ∧ w'.ownsRow w.heap.size 9 1 (.slice a (namesOf k l).length c) (namesOf k l).length ((namesOf k l).map .string) ∧ Short (namesOf k l) := by
  obtain ⟨a0, cp0, rfl, hcp1, hcp2⟩ := hr.form
  obtain ⟨i0, hif, hz0, hz1, hz2⟩ := info_parts Tryz.info9
  have HR := hide hr
  have HE := hide he
  have HB := hide hB
  have HN := hide hn
  clear hr he hB hn
  go_enter Tryz.func109, Tryz.ntmps109
  go_wp2_with fail
  go_loopw [3, 8] (fun r i wr => ∃ j : Nat, j ≤ l.length ∧ i = .int .i64 j ∧ Fr No w wr ∧ wr.ownsRow w.heap.size 9 1 r (namesOf k (l.take j)).length ((namesOf k (l.take j)).map .string) ∧ Short (namesOf k (l.take j))) (fun _ i _ => l.length - (intOf i).toNat)
  case atStart => exact ⟨0, Nat.zero_le _, rfl, Fr.refl _ _, World.ownsRow_nil _ _ _ _, fun y hy => by simp [namesOf] at hy⟩
  case round =>
    obtain ⟨j, hj, rfl, hf, hrow, hsh⟩ := hrel
    obtain ⟨ra, rc, rfl⟩ := row_form hrow
    by_cases hlt : j < l.length
    · have ho : Old B w wr := hf.old HB.out (fun _ _ e => e)
      obtain ⟨g, o, cap1, kd', n', x', y', b0, n0, e0, b1, n1, e1, b2, n2, e2, hav, hcap, hg, hgw, hrt, hcell⟩ := args_at HR.out HE.out j hlt
      injection hav with hav1 _ hav2
      subst hav1 hav2
      obtain ⟨hk1, hk2, hk3⟩ := RT.kn hrt
      have hcw : ∀ q, q < 7 → wr.cell? ⟨g, o + j * 7 + q, none⟩ = [Value.int .i64 kd', .int .i64 n', .string x', .string y', .slice b0 n0 e0, .slice b1 n1 e1, .slice b2 n2 e2][q]? := fun q hq => by
        rw [ho.cell (a := ⟨g, o + j * 7 + q, none⟩) hg]; exact hcell q hq
      have q0 : wr.cell? ⟨g, o + j * 7, none⟩ = some (.int .i64 kd') := hcw 0 (by omega)
      have q1 := hcw 1 (by omega)
      have q2 := hcw 2 (by omega)
      have q3 := hcw 3 (by omega)
      have q4 := hcw 4 (by omega)
      have q5 := hcw 5 (by omega)
      have q6 := hcw 6 (by omega)
      have hgl : g < wr.heap.size := Nat.lt_of_lt_of_le hgw hf.size
      have hsn := namesOf_succ k l j hlt
      rw [← hk1, ← hk2] at hsn
      have hnl := namesOf_le k (l.take j)
      rw [List.length_take] at hnl
      obtain ⟨acc, hacc⟩ : ∃ acc, acc = namesOf k (l.take j) := ⟨_, rfl⟩
      rw [← hacc] at hrow hsh hsn hnl ⊢
      have HF := hide hf
      have HSH := hide hsh
      have HK3 := hide hk3
      have hn2 := HN.out
      have hal : acc.length ≤ 1073741824 := by omega
      have fa : ∀ o', Fr No wr (wr.alloc o') := fun o' => (Fr.refl No wr).alloc o'
      have hrow0 : ∀ o', (wr.alloc o').ownsRow w.heap.size 9 1 (.slice ra acc.length rc) acc.length (acc.map .string) := fun o' => hrow.alloc o'
      have HR1 := hide hrow
      have s1 := hf.size
      clear hcw hcell hrt hf ho hk1 hk2 hk3 hacc hsh hrow hnl
      have i1 : (j : Int) < (l.length : Int) := by omega
      have i0' : (0 : Int) ≤ (j : Int) := by omega
      unfold maxLen at hcp2
      by_cases hkd : kd' = 1
      · subst hkd
        rw [if_pos (by decide)] at hsn
        have HSN := hide hsn
        clear hsn
        go_wp2_with (first
          | (at_builtin; refine wpList_append_own_at _ rfl _ _ 28 rfl w.heap.size 9 i0 (.string ⟨#[]⟩) 1 16 Tryz.underlying28 hif hz0 hz1 hz2 rfl (by decide) _ _ _ rfl ((hrow0 _).alloc _) ⟨wr.heap.size + 1, 0, none⟩ 1 1 [.string x'] rfl rfl (by have h := cell_one_new (wr.alloc (.cells #[.int .i64 1, .int .i64 n', .string x', .string y', .slice b0 n0 e0, .slice b1 n1 e1, .slice b2 n2 e2] 32)) (.string x') 9; rw [World.size_alloc] at h; exact h) (by simp [Value.oneCell']) (by unfold maxLen; omega) (by omega) (by simp; omega) ?_; intro v' w2 hown' hgrow2 hnil hloc; obtain ⟨a', c', rfl⟩ := row_form hown')
          | fail)
        go_wp2_with fail
        go_roundw
        case rel =>
          refine ⟨j + 1, by omega, by go_num, ?_, ?_, ?_⟩
          · exact ((HF.out.alloc _).alloc _).grown hgrow2 (fun q hq => .inr ((HR1.out.lt q hq).1))
          · rw [HSN.out, List.length_append, List.map_append]
            simpa using hown'
          · rw [HSN.out]
            intro y hy
            rcases List.mem_append.1 hy with h | h
            · exact HSH.out y h
            · rw [List.mem_singleton.1 h]; exact HK3.out
        case measure => simp [intOf]; omega
      · have hkd' : (kd' == 1) = false := by simpa using hkd
        rw [hkd', if_neg (by decide), List.append_nil] at hsn
        have HSN := hide hsn
        clear hsn hkd
        go_wp2_with fail
        go_roundw
        case rel =>
          refine ⟨j + 1, by omega, by go_num, HF.out.alloc _, ?_, ?_⟩
          · rw [HSN.out]; exact hrow0 _
          · rw [HSN.out]; exact HSH.out
        case measure => simp [intOf]; omega
    · have hil : j = l.length := by omega
      subst hil
      rw [List.take_length] at hrow hsh ⊢
      have HF := hide hf
      have HRW := hide hrow
      have HSH := hide hsh
      clear hf hrow hsh
      go_wp2_with fail
      go_ret
      exact ⟨_, _, rfl, HF.out, HRW.out, HSH.out⟩
end Go.Proofs.YtomahbdidlglfacGreatDoor

/- The cases of a match, stored in one by one: no walk in it. -/
namespace Go.Proofs.YtomahbdidlglfacGreatDoor
open Go.RowKit Go.Maps Go.WideMaps

/-- Between two rounds: the first i cases count, the others are as they were. -/
structure StSc (M k : Nat) (av : Value) (l : List (Int × List ByteArray × Pu.TT k)) (V1 V2 : Nat → Prop) (b i : Nat) (w : World) : Prop where
  ex : ∃ (Z1 Z2 : Nat → Prop) (xs1 xs2 : List Value), (∀ g, Z1 g → V2 g ∨ (b ≤ g ∧ g < w.heap.size)) ∧ Sub Z2 V2 ∧ Dis Z1 Z2 ∧ RowS V1 w av l.length (xs1 ++ xs2) ∧ EachD 9 (RCD (CW M k M w) w) Z1 xs1 (l.take i) ∧ EachD 9 (RCD (RTD k w) w) Z2 xs2 (l.drop i)
theorem StSc.no {M k : Nat} {av : Value} {l : List (Int × List ByteArray × Pu.TT k)} {V1 V2 : Nat → Prop} {b i : Nat} {w w' : World} (h : StSc M k av l V1 V2 b i w) (hf : Fr No w w') : StSc M k av l V1 V2 b i w' := by
  obtain ⟨Z1, Z2, xs1, xs2, h1, h2, h3, h4, h5, h6⟩ := h
  exact ⟨Z1, Z2, xs1, xs2, fun g hg => (h1 g hg).imp (fun h => h) (fun h => ⟨h.1, Nat.lt_of_lt_of_le h.2 hf.size⟩), h2, h3, h4.kept (stays_of_fr hf), h5.mono fun U _ _ _ h => RCD.mono (stays_of_fr hf) (fun _ _ _ _ h => CW.kept (stays_of_fr hf) h) h, h6.mono fun U _ _ _ h => RCD.mono (stays_of_fr hf) (fun _ _ _ _ h => RTD.kept (stays_of_fr hf) h) h⟩
/-- One case's turn. -/
theorem StSc.at {M k : Nat} {av : Value} {l : List (Int × List ByteArray × Pu.TT k)} {V1 V2 : Nat → Prop} {b i : Nat} {w : World} (h : StSc M k av l V1 V2 b i w) (hi : i < l.length) (hd : Dis V1 V2) (hV1 : ∀ g, V1 g → g < b) (hV2 : ∀ g, V2 g → g < b) (hb : b ≤ w.heap.size) :
    ∃ g o cap tg va vc kd n x y a0 n0 c0 a1 n1 c1 a2 n2 c2 A, av = .slice (some ⟨g, o, none⟩) l.length cap ∧ V1 g ∧ g < w.heap.size ∧ Sub A V2 ∧
      RTD k w A [.int .i64 kd, .int .i64 n, .string x, .string y, .slice a0 n0 c0, .slice a1 n1 c1, .slice a2 n2 c2] l[i].2.2 ∧ NamesX A w (.slice va l[i].2.1.length vc) l[i].2.1 ∧ (∀ j, j < 9 → w.frozen? ⟨g, o + i * 9 + j, none⟩ = false) ∧
      (∀ j, j < 9 → w.cell? ⟨g, o + i * 9 + j, none⟩ = [Value.int .i64 tg, .slice va l[i].2.1.length vc, .int .i64 kd, .int .i64 n, .string x, .string y, .slice a0 n0 c0, .slice a1 n1 c1, .slice a2 n2 c2][j]?) ∧
      ∀ (w' : World) (us : List Value), Fr A w w' → us.length = 7 → CW M k M w' (fun x => A x ∨ New w w' x) us l[i].2.2 → StSc M k av l V1 V2 b (i + 1) (setsAt w' g (o + i * 9 + 2) us) ∧ Fr (· = g) w' (setsAt w' g (o + i * 9 + 2) us) := by
  obtain ⟨Z1, Z2, xs1, xs2, hz1, hz2, hz, hrow, he1, he2⟩ := h
  rw [List.drop_eq_getElem_cons hi] at he2
  obtain ⟨U, B, cc, rest, rfl, hcl, hU, hB, hUB, hcw, hrest⟩ := he2
  obtain ⟨vv, bb, A0, A, rfl, hpt, hnm, hbl, hcw⟩ := hcw
  obtain ⟨a, cap, rfl, hr2, hr3, hr4⟩ := id hrow
  obtain ⟨g, o, rfl, hS, hg, hzz, hcell⟩ := hr4 (by omega)
  have hx1 := he1.length
  rw [List.length_take, Nat.min_eq_left (Nat.le_of_lt hi)] at hx1
  obtain ⟨kd, n, x, y, a0, n0, c0, a1, n1, c1, a2, n2, c2, rfl⟩ := hcw.form
  obtain ⟨va, vc, rfl, hn1, hn2, hn3⟩ := id hnm.1
  have hAU : Sub A U := hpt.1 A (by simp)
  have hA0U : Sub A0 U := hpt.1 A0 (by simp)
  have hA0A : Dis A0 A := by have := hpt.2; simpa using this
  refine ⟨g, o, cap, l[i].1, va, vc, kd, n, x, y, a0, n0, c0, a1, n1, c1, a2, n2, c2, A, rfl, hS, hg, fun q hq => hz2 q (hU q (hAU q hq)), hcw, ?_, fun j hj => ?_, fun j hj => ?_, fun w' us hf hus hrt => ?_⟩
  · refine ⟨⟨va, vc, rfl, hn1, hn2, fun h0 => ?_⟩, hnm.2⟩
    obtain ⟨g1, o1, e1, e2, e3, e4, e5⟩ := hn3 h0
    exact ⟨g1, o1, e1, hA0A g1 e2, e3, e5⟩
  · rw [Nat.add_assoc]; exact hzz _ (by simp; omega)
  · rw [Nat.add_assoc, hcell _ (by simp; omega), List.getElem?_append_right (by omega), hx1, Nat.add_sub_cancel_left, List.getElem?_append_left (by simpa using hj)]
  · have dV1A : Dis V1 A := fun q h1 h2 => hd q h1 (hz2 q (hU q (hAU q h2)))
    have hrow' := hrow.kept (st_of hf dV1A)
    rw [show xs1 ++ ((Value.int .i64 l[i].1 :: .slice va l[i].2.1.length vc :: [.int .i64 kd, .int .i64 n, .string x, .string y, .slice a0 n0 c0, .slice a1 n1 c1, .slice a2 n2 c2]) ++ rest) = (xs1 ++ [Value.int .i64 l[i].1, .slice va l[i].2.1.length vc]) ++ [.int .i64 kd, .int .i64 n, .string x, .string y, .slice a0 n0 c0, .slice a1 n1 c1, .slice a2 n2 c2] ++ rest from by simp] at hrow'
    have hp := row_put (us := us) hrow' (by omega) (by rw [hus]; rfl) (by simp)
    rw [show (xs1 ++ [Value.int .i64 l[i].1, .slice va l[i].2.1.length vc]).length = i * 9 + 2 from by simp [hx1], ← Nat.add_assoc] at hp
    have hgb := hV1 g hS
    have hgV : ∀ U : Nat → Prop, (∀ q, U q → V2 q ∨ b ≤ q) → Dis U (· = g) := fun U hU q hq e => by
      have e : q = g := e
      subst e
      exact (hU q hq).elim (hd q hS) (fun h => by omega)
    have hsz := hf.size
    have hss : (setsAt w' g (o + i * 9 + 2) us).heap.size = w'.heap.size := setsAt_size _ _ _ _
    refine ⟨⟨fun q => Z1 q ∨ (U q ∨ New w w' q), B, xs1 ++ (.int .i64 l[i].1 :: .slice va l[i].2.1.length vc :: us), rest, fun q h => ?_, fun q h => hz2 q (hB q h), fun q h hb => ?_, ?_, ?_, ?_⟩, hp.2⟩
    · rcases h with h | h | h
      · exact (hz1 q h).imp (fun h => h) (fun h => ⟨h.1, by omega⟩)
      · exact .inl (hz2 q (hU q h))
      · exact .inr ⟨by have := h.1; omega, by have := h.2; omega⟩
    · rcases h with h | h | h
      · exact hz q h (hB q hb)
      · exact hUB q h hb
      · have := hV2 q (hz2 q (hB q hb)); have := h.1; omega
    · have := hp.1
      rw [show (xs1 ++ [Value.int .i64 l[i].1, .slice va l[i].2.1.length vc]) ++ us ++ rest = xs1 ++ (.int .i64 l[i].1 :: .slice va l[i].2.1.length vc :: us) ++ rest from by simp] at this
      exact this
    · rw [List.take_succ_eq_append_getElem hi]
      have p1 : Part (fun q => U q ∨ New w w' q) [A0, fun q => A q ∨ New w w' q] := part_two (fun q h => .inl (hA0U q h)) (fun q h => h.imp (fun h => hAU q h) (fun h => h)) (fun q h h' => h'.elim (hA0A q h) (fun h' => by have := hV2 q (hz2 q (hU q (hA0U q h))); have := h'.1; omega))
      have p2 := (hnm.kept (st_of hf hA0A)).kept (st_of hp.2 (hgV A0 (fun q h => .inl (hz2 q (hU q (hA0U q h))))))
      have p3 := hrt.kept (st_of hp.2 (hgV _ (fun q h => h.imp (fun h => hz2 q (hU q (hAU q h))) (fun h => by have := h.1; omega))))
      have p4 : Dis Z1 (fun q => U q ∨ New w w' q) := fun q h1 h2 => by
        rcases h2 with h2 | h2
        · exact hz q h1 (hU q h2)
        · rcases hz1 q h1 with h | h
          · have := hV2 q h; have := h2.1; omega
          · have := h.2; have := h2.1; omega
      exact EachD.snoc (U := fun q => U q ∨ New w w' q) (by simp [hus]) ⟨_, us, A0, fun q => A q ∨ New w w' q, rfl, p1, p2, hus, p3⟩ p4 (he1.mono fun W _ _ hW h =>
        have d1 : Dis W A := fun q h1 h2 => hz q (hW q h1) (hU q (hAU q h2))
        have d2 : Dis W (· = g) := hgV W (fun q h => (hz1 q (hW q h)).imp (fun h => h) (fun h => h.1))
        RCD.mono (st_of hp.2 d2) (fun _ _ _ hU' h => CW.kept (st_of hp.2 (fun q h1 h2 => d2 q (hU' q h1) h2)) h)
          (RCD.mono (st_of hf d1) (fun _ _ _ hU' h => CW.kept (st_of hf (fun q h1 h2 => d1 q (hU' q h1) h2)) h) h))
    · refine hrest.mono fun W _ _ hW h => ?_
      have d1 : Dis W A := fun q h1 h2 => hUB q (hAU q h2) (hW q h1)
      have d2 : Dis W (· = g) := hgV W (fun q h => .inl (hz2 q (hB q (hW q h))))
      exact RCD.mono (st_of hp.2 d2) (fun _ _ _ hU' h => RTD.kept (st_of hp.2 (fun q h1 h2 => d2 q (hU' q h1) h2)) h)
          (RCD.mono (st_of hf d1) (fun _ _ _ hU' h => RTD.kept (st_of hf (fun q h1 h2 => d1 q (hU' q h1) h2)) h) h)
/-- A store into a box that is none of theirs. -/
theorem StSc.box {M k : Nat} {av : Value} {l : List (Int × List ByteArray × Pu.TT k)} {V1 V2 : Nat → Prop} {b i r : Nat} {w w' : World} (h : StSc M k av l V1 V2 b i w) (hf : Fr (· = r) w w') (h1 : ¬ V1 r) (h2 : ¬ V2 r) (hb : r < b) : StSc M k av l V1 V2 b i w' := by
  obtain ⟨Z1, Z2, xs1, xs2, g1, g2, g3, g4, g5, g6⟩ := h
  have st : ∀ U : Nat → Prop, (∀ g, U g → V2 g ∨ b ≤ g) → Stays U U w w' := fun U hU => st_of hf (fun g hg e => by
    have e : g = r := e
    subst e
    exact (hU g hg).elim h2 (fun h => by omega))
  exact ⟨Z1, Z2, xs1, xs2, fun g hg => (g1 g hg).imp (fun h => h) (fun h => ⟨h.1, Nat.lt_of_lt_of_le h.2 hf.size⟩), g2, g3, g4.kept (st_of hf (fun g hg e => by
      have e : g = r := e
      subst e
      exact h1 hg)),
    g5.mono fun U _ _ hU h => RCD.mono (st U (fun g hg => (g1 g (hU g hg)).imp (fun h => h) (fun h => h.1))) (fun _ _ _ hU' h => CW.kept (st _ (fun g hg => (g1 g (hU g (hU' g hg))).imp (fun h => h) (fun h => h.1))) h) h,
    g6.mono fun U _ _ hU h => RCD.mono (st U (fun g hg => .inl (g2 g (hU g hg)))) (fun _ _ _ hU' h => RTD.kept (st _ (fun g hg => .inl (g2 g (hU g (hU' g hg))))) h) h⟩
end Go.Proofs.YtomahbdidlglfacGreatDoor

/- own: 'step' at a match. -/
namespace Go.Proofs.YtomahbdidlglfacGreatDoor
open Go.RowKit Go.Maps Go.WideMaps

set_option maxRecDepth 100000 in
set_option maxHeartbeats 8000000 in
theorem step_matchD (Q : Nat) (hQ : Q ≤ 1073741824) (k : Nat) (nd : Pu.Node (Pu.TT k)) (hk : nd.kind = 7) (hC : ∀ c, c ∈ nd.cases → TermD Q k c.2.2) : StepD Q (k + 1) nd := by
  intro S w cs ov l hT hS hl hq
  obtain ⟨oa, oc, rfl⟩ := hl.form
  obtain ⟨vv, av, cv, acs, ccs, V0, V1, V2, V3, V4, rfl, hnm, hwf, hpt, h4, h5, h6, h7, h8⟩ := hT
  obtain ⟨va, vc, rfl, _, _⟩ := id h4.1
  obtain ⟨aa, ac, rfl, _, hac, _⟩ := id h5
  obtain ⟨ca, cc, rfl, _, hcc, _⟩ := id h7
  have hpd := hpt.2
  simp only [List.pairwise_cons, List.mem_cons, List.not_mem_nil, or_false, forall_eq_or_imp, forall_eq, List.Pairwise.nil, and_true, false_imp_iff, implies_true] at hpd
  obtain ⟨⟨d01, d02, d03, d04⟩, ⟨d12, d13, d14⟩, ⟨d23, d24⟩, d34⟩ := hpd
  have hwt : Pu.wt (k + 1) nd = 1 + nd.vars.length + (nd.args.map (Pu.wt k)).sum + (nd.cases.map fun c => 1 + c.2.1.length + Pu.wt k c.2.2).sum := rfl
  have hla := len_le (Pu.wt k) (wt_pos k) nd.args
  have hlc := len_le (fun c : Int × List ByteArray × Pu.TT k => 1 + c.2.1.length + Pu.wt k c.2.2) (fun c => by omega) nd.cases
  have hlw : ∀ V, V ∈ [V0, V1, V2, V3, V4] → ∀ g, V g → g < w.heap.size := fun V hV g hg => hS g (hpt.1 V hV g hg)
  have hkd := hk
  obtain ⟨W0, hW0⟩ : ∃ W0, W0 = ((w.alloc (.cells #[.int .i64 nd.kind, .int .i64 nd.n, .string nd.name, .string nd.token, .slice va nd.vars.length vc, .slice aa nd.args.length ac, .slice ca nd.cases.length cc] 32)).alloc (.cells tz 32)) := ⟨_, rfl⟩
  have f0 : Fr No w W0 := by rw [hW0]; exact ((Fr.refl No w).alloc _).alloc _
  have b0 : W0.heap[w.heap.size]? = some (.cells #[.int .i64 nd.kind, .int .i64 nd.n, .string nd.name, .string nd.token, .slice va nd.vars.length vc, .slice aa nd.args.length ac, .slice ca nd.cases.length cc] 32 (0, 0)) := by rw [hW0]; exact fr_heap (heap_alloc_new w _) ((Fr.refl No _).alloc _) (fun e => e)
  have b1 : W0.heap[w.heap.size + 1]? = some (.cells tz 32 (0, 0)) := by
    have h := heap_alloc_new (w.alloc (.cells #[.int .i64 nd.kind, .int .i64 nd.n, .string nd.name, .string nd.token, .slice va nd.vars.length vc, .slice aa nd.args.length ac, .slice ca nd.cases.length cc] 32)) (.cells tz 32)
    rw [World.size_alloc] at h
    rw [hW0]; exact h
  have st : ∀ W, Fr No w W → ∀ U : Nat → Prop, Stays U U w W := fun W hW U => stays_of_fr hW
  have CNI : Hid (Calls Tryz.prog 109 #[.slice aa nd.args.length ac] W0 fun e w' => ∃ a c, e = .returned (.slice a (namesOf k nd.args).length c) ∧ Fr No W0 w' ∧ NamesX S w' (.slice a (namesOf k nd.args).length c) (namesOf k nd.args)) :=
    (namesInO_any k w.heap.size _ acs nd.args W0 ((h5.kept (stays_of_fr f0)).row (hlw V1 (by simp))) (h6.eachM fun U c a _ hU h => (RTD.rts (h.kept (stays_of_fr f0))).rt (fun g hg => hlw V2 (by simp) g (hU g hg))) f0.size (by omega)).mono fun e w' ⟨a, c, he, hf, ho, hs⟩ =>
      ⟨a, c, he, hf, own_namesX ho rfl hs (fun g hg h => by have := hS g h; have := f0.size; omega)⟩
  have CCB : Hid (∀ (c : Int × List ByteArray × Pu.TT k) (A : Nat → Prop) (W : World) (tg : Int) (v mv : Value) (ms : List ByteArray) (kd n : Int) (x y : ByteArray) a0 n0 c0 a1 n1 c1 a2 n2 c2, c ∈ nd.cases → Sub A V4 → Fr (fun g => V3 g ∨ V4 g) w W → RTD k W A [.int .i64 kd, .int .i64 n, .string x, .string y, .slice a0 n0 c0, .slice a1 n1 c1, .slice a2 n2 c2] c.2.2 → NamesX A W v c.2.1 → NamesX S W mv ms → ms.length ≤ nd.args.length →
      Calls Tryz.prog 111 #[.agg #[.int .i64 tg, v, .int .i64 kd, .int .i64 n, .string x, .string y, .slice a0 n0 c0, .slice a1 n1 c1, .slice a2 n2 c2], mv, .slice oa l.length oc] W fun e w' => ∃ kd' n' x' y' a0' n0' c0' a1' n1' c1' a2' n2' c2', e = .returned (.agg #[.int .i64 kd', .int .i64 n', .string x', .string y', .slice a0' n0' c0', .slice a1' n1' c1', .slice a2' n2' c2']) ∧ Fr A W w' ∧
        CW (4 * Q) k (4 * Q) w' (fun g => A g ∨ New W w' g) [.int .i64 kd', .int .i64 n', .string x', .string y', .slice a0' n0' c0', .slice a1' n1' c1', .slice a2' n2' c2'] c.2.2) := fun c A W tg v mv ms kd n x y a0 n0 c0 a1 n1 c1 a2 n2 c2 hc hA hW hr hv hm hml => by
    have hw2 := wt_case hc
    have hAS : Sub A S := fun g hg => hpt.1 V4 (by simp) g (hA g hg)
    have hlX : NamesX A W (.slice oa l.length oc) l := (hl.fr (hW.mono (fun g _ h => h.elim (hpt.1 V3 (by simp) g) (hpt.1 V4 (by simp) g)))).sub hAS
    have hmX : NamesX A W mv ms := hm.sub hAS
    refine (case_any Q hQ k c.2.2 (hC c hc) A W _ tg v mv _ c.2.1 ms l hr (fun g hg => Nat.lt_of_lt_of_le (hS g (hAS g hg)) hW.size) hv hmX hlX (by omega) (by omega)).mono fun e w' ⟨cs', he, hf, hr⟩ => ?_
    obtain ⟨_, _, _, _, _, _, _, _, _, _, _, _, _, rfl⟩ := hr.form
    exact ⟨_, _, _, _, _, _, _, _, _, _, _, _, _, he, hf, hr⟩
  have HW0 := hide hW0
  have F0 := hide f0
  have B0 := hide b0
  have B1 := hide b1
  have HSS := hide hS
  have HLW := hide hlw
  have D34 := hide d34
  have hnl := namesOf_le k nd.args
  have HNL := hide hnl
  have S0 : Hid (∀ W, Fr No w W → StSc (4 * Q) k (.slice ca nd.cases.length cc) nd.cases V3 V4 W.heap.size 0 W) := fun W hW => ⟨⟨fun _ => False, V4, [], ccs, fun _ h => h.elim, fun _ h => h, fun _ h => h.elim, h7.kept (stays_of_fr hW), rfl, h8.mono fun U _ _ _ h => RCD.mono (stays_of_fr hW) (fun _ _ _ _ h => RTD.kept (stays_of_fr hW) h) h⟩⟩
  have HV3 := hide (hlw V3 (by simp))
  have HV4 := hide (hlw V4 (by simp))
  have FIN : Hid (∀ W b, w.heap.size ≤ b → Fr (fun g => V3 g ∨ V4 g) w W → StSc (4 * Q) k (.slice ca nd.cases.length cc) nd.cases V3 V4 b nd.cases.length W → CW (4 * Q) (k + 1) Q W (fun g => S g ∨ New w W g) [.int .i64 nd.kind, .int .i64 nd.n, .string nd.name, .string nd.token, .slice va nd.vars.length vc, .slice aa nd.args.length ac, .slice ca nd.cases.length cc] nd) := fun W b hb hW ⟨⟨Z1, Z2, xs1, xs2, z1, z2, z3, hrow, he1, he2⟩⟩ => by
    rw [List.drop_length] at he2
    rw [List.take_length] at he1
    have he2 : xs2 = [] := he2
    subst he2
    rw [List.append_nil] at hrow
    have stx : ∀ U : Nat → Prop, Dis U V3 → Dis U V4 → Stays U U w W := fun U h1 h2 => st_fr hW (fun g hg _ h => h.elim (h1 g hg) (h2 g hg))
    have old : ∀ U : Nat → Prop, U ∈ [V0, V1, V2, V3, V4] → Dis U V4 → Dis U Z1 := fun U hU hd g hg hz => (z1 g hz).elim (hd g hg) (fun h => by have := hlw U hU g hg; omega)
    refine ⟨[], Nat.zero_le _, _, _, _, acs, xs1, V0, V1, V2, V3, Z1, rfl, hnm, hwf, ⟨?_, ?_⟩, h4.kept (stx V0 d03 d04), h5.kept (stx V1 d13 d14), h6.mono fun U _ _ hU h => RTD.cw (RTD.kept (stx U (fun g h => d23 g (hU g h)) (fun g h => d24 g (hU g h))) h), hrow, he1⟩
    · intro U hU g hg
      simp only [List.mem_cons, List.not_mem_nil, or_false] at hU
      rcases hU with rfl | rfl | rfl | rfl | rfl
      · exact .inl (hpt.1 _ (by simp) g hg)
      · exact .inl (hpt.1 _ (by simp) g hg)
      · exact .inl (hpt.1 _ (by simp) g hg)
      · exact .inl (hpt.1 _ (by simp) g hg)
      · exact (z1 g hg).imp (hpt.1 V4 (by simp) g) (fun h => ⟨by omega, h.2⟩)
    · have o0 := old V0 (by simp) d04
      have o1 := old V1 (by simp) d14
      have o2 := old V2 (by simp) d24
      have o3 := old V3 (by simp) d34
      simp only [List.pairwise_cons, List.mem_cons, List.not_mem_nil, or_false, forall_eq_or_imp, forall_eq, List.Pairwise.nil, and_true, false_imp_iff, implies_true]
      exact ⟨⟨d01, d02, d03, o0⟩, ⟨d12, d13, o1⟩, ⟨d23, o2⟩, o3⟩
  have HVS := hide (show ∀ g, V3 g ∨ V4 g → S g from fun g h => h.elim (hpt.1 V3 (by simp) g) (hpt.1 V4 (by simp) g))
  obtain ⟨kd, hkd'⟩ : ∃ kd, kd = nd.kind := ⟨_, rfl⟩
  have hkd7 : kd = 7 := hkd'.trans hk
  rw [← hkd'] at B0 HW0 FIN
  clear hpt hS hl hq hC hlw hnm hwf h4 h5 h6 h7 h8 d01 d02 d03 d04 d12 d13 d14 d23 d24 d34 hW0 f0 b0 b1 st hwt hla hnl hk hkd
  show Calls Tryz.prog 75 #[.agg #[.int .i64 nd.kind, .int .i64 nd.n, .string nd.name, .string nd.token, .slice va nd.vars.length vc, .slice aa nd.args.length ac, .slice ca nd.cases.length cc], .slice oa l.length oc] w _
  rw [← hkd']
  clear hkd'
  subst hkd7
  go_enter Tryz.func75, Tryz.ntmps75
  go_wp2_with fail
  rw [← HW0.out]
  refine CNI.out.mono ?_
  rintro e w1 ⟨a3, c3, rfl, hf1, hn1⟩
  have F1 := hide (F0.out.trans hf1)
  have N1 := hide hn1
  have G0 := hide (fr_heap B0.out hf1 (fun e => e))
  have G1 := hide (fr_heap B1.out hf1 (fun e => e))
  clear hf1 hn1 CNI
  have k0 := cell_of_heap G0.out
  have l0 := lt_of_heap G0.out
  obtain ⟨ml, hml⟩ : ∃ ml, ml = namesOf k nd.args := ⟨_, rfl⟩
  rw [← hml] at N1 HNL
  rw [← hml]
  clear hml
  unfold maxLen at hcc
  go_wp2_with fail
  clear k0 l0
  go_loopw [33] (fun q wr => ∃ i : Nat, i ≤ nd.cases.length ∧ q = .int .i64 i ∧ Fr (fun g => V3 g ∨ V4 g) w1 wr ∧ StSc (4 * Q) k (.slice ca nd.cases.length cc) nd.cases V3 V4 w1.heap.size i wr) (fun q _ => nd.cases.length - (intOf q).toNat)
  case atStart => exact ⟨0, Nat.zero_le _, rfl, Fr.refl _ _, S0.out w1 F1.out⟩
  case round =>
    clear S0
    obtain ⟨i, hi, rfl, hf, hst⟩ := hrel
    have hTn : ∀ g, (V3 g ∨ V4 g) → g < w.heap.size := fun g h => h.elim (HV3.out g) (HV4.out g)
    have hb2 := fr_heap G0.out hf (fun e => by have := hTn _ e; omega)
    have hr2 := fr_heap G1.out hf (fun e => by have := hTn _ e; omega)
    have k0 := cell_of_heap hb2
    have z0 := frozen_of_heap hb2
    have l0 := lt_of_heap hb2
    have HB2 := hide hb2
    have HR2 := hide hr2
    have hwr : w1.heap.size ≤ wr.heap.size := hf.size
    have hw1 : w.heap.size ≤ w1.heap.size := F1.out.size
    by_cases hlt : i < nd.cases.length
    · obtain ⟨g, o, cap, tg, va9, vc9, kd2, n2, x2, y2, f0, r0, s0, f1, r1, s1, f2, r2, s2, A, hav, hVg, hgl, hAV, hrt, hvx, hzz, hcell, hnext⟩ := hst.at hlt D34.out (fun g h => Nat.lt_of_lt_of_le (HV3.out g h) hw1) (fun g h => Nat.lt_of_lt_of_le (HV4.out g h) hw1) hwr
      injection hav with hav1 _ hav2
      subst hav1 hav2
      have q0 : wr.cell? ⟨g, o + i * 9, none⟩ = some (.int .i64 tg) := hcell 0 (by omega)
      have q1 := hcell 1 (by omega)
      have q2 := hcell 2 (by omega)
      have q3 := hcell 3 (by omega)
      have q4 := hcell 4 (by omega)
      have q5 := hcell 5 (by omega)
      have q6 := hcell 6 (by omega)
      have q7 := hcell 7 (by omega)
      have q8 := hcell 8 (by omega)
      have hgA : ¬ A g := fun h => D34.out g hVg (hAV g h)
      have hAw : ∀ g, A g → g < w.heap.size := fun g h => HV4.out g (hAV g h)
      have hgw : g < w.heap.size := HV3.out g hVg
      have hww : w.heap.size < wr.heap.size := l0
      have hwW : Fr (fun g => V3 g ∨ V4 g) w wr := (F1.out.mono (fun _ _ e => e.elim)).trans hf
      have CE : Hid (∀ W, Fr No wr W → Calls Tryz.prog 111 #[.agg #[.int .i64 tg, .slice va9 nd.cases[i].2.1.length vc9, .int .i64 kd2, .int .i64 n2, .string x2, .string y2, .slice f0 r0 s0, .slice f1 r1 s1, .slice f2 r2 s2], .slice a3 ml.length c3, .slice oa l.length oc] W fun e w' => ∃ kd3 n3 x3 y3 h0 p0 t0 h1 p1 t1 h2 p2 t2, e = .returned (.agg #[.int .i64 kd3, .int .i64 n3, .string x3, .string y3, .slice h0 p0 t0, .slice h1 p1 t1, .slice h2 p2 t2]) ∧ Fr A W w' ∧ CW (4 * Q) k (4 * Q) w' (fun g => A g ∨ New W w' g) [.int .i64 kd3, .int .i64 n3, .string x3, .string y3, .slice h0 p0 t0, .slice h1 p1 t1, .slice h2 p2 t2] nd.cases[i].2.2 ∧ (w'.heap[w.heap.size]? = wr.heap[w.heap.size]? ∧ (∀ j, j < 9 → w'.cell? ⟨g, o + i * 9 + j, none⟩ = [Value.int .i64 tg, .slice va9 nd.cases[i].2.1.length vc9, .int .i64 kd2, .int .i64 n2, .string x2, .string y2, .slice f0 r0 s0, .slice f1 r1 s1, .slice f2 r2 s2][j]?) ∧ (∀ j, j < 9 → w'.frozen? ⟨g, o + i * 9 + j, none⟩ = false))) := fun W hW =>
        (CCB.out nd.cases[i] A W tg _ _ ml kd2 n2 x2 y2 f0 r0 s0 f1 r1 s1 f2 r2 s2 (List.getElem_mem hlt) hAV (hwW.no hW) (hrt.kept (stays_of_fr hW)) (hvx.no hW) ((N1.out.fr (hf.mono (fun g _ h => HVS.out g h))).no hW) HNL.out).mono fun e w' ⟨kd3, n3, x3, y3, h0, p0, t0, h1, p1, t1, h2, p2, t2, he, hf', hr'⟩ => by
          have f2 : Fr A wr w' := (hW.mono (fun _ _ e => e.elim)).trans hf'
          have hb := f2.block g hgl hgA
          exact ⟨kd3, n3, x3, y3, h0, p0, t0, h1, p1, t1, h2, p2, t2, he, hf', hr', f2.block _ hww (fun e => by have := hAw _ e; omega), fun j hj => by rw [show w'.cell? ⟨g, o + i * 9 + j, none⟩ = wr.cell? ⟨g, o + i * 9 + j, none⟩ from by simp only [World.cell?, hb]]; exact hcell j hj, fun j hj => by rw [show w'.frozen? ⟨g, o + i * 9 + j, none⟩ = wr.frozen? ⟨g, o + i * 9 + j, none⟩ from by simp only [World.frozen?, hb]]; exact hzz j hj⟩
      have HF3 := hide hf
      have HI := hide hi
      have HNX := hide hnext
      have HVG := hide hVg
      have HAV := hide hAV
      clear hcell hf hzz hb2 hr2 hi hnext hrt hvx hst hVg hAV hgA hAw hTn hwW
      have i1 : (i : Int) < (nd.cases.length : Int) := by omega
      have i0 : (0 : Int) ≤ (i : Int) := by omega
      go_wp2_with fail
      go_region_with (first
        | (go_at_call 111; refine (CE.out _ (by first | exact ((Fr.refl No wr).alloc _).drew | exact (Fr.refl No wr).alloc _)).mono ?_; rintro e w5 ⟨kd3, n3, x3, y3, h0, p0, t0, h1, p1, t1, h2, p2, t2, rfl, hf5, hr5, hb5, hc5, hz5⟩; have F5 := hide hf5; have R5 := hide hr5; have B5 := hb5.trans HB2.out; have k5 := cell_of_heap B5; have l5 := lt_of_heap B5; have c50 : w5.cell? ⟨g, o + i * 9, none⟩ = some (.int .i64 tg) := hc5 0 (by omega); have c51 := hc5 1 (by omega); have c52 := hc5 2 (by omega); have c53 := hc5 3 (by omega); have c54 := hc5 4 (by omega); have c55 := hc5 5 (by omega); have c56 := hc5 6 (by omega); have c57 := hc5 7 (by omega); have c58 := hc5 8 (by omega); have z52 := hz5 2 (by omega); have z53 := hz5 3 (by omega); have z54 := hz5 4 (by omega); have z55 := hz5 5 (by omega); have z56 := hz5 6 (by omega); have z57 := hz5 7 (by omega); have z58 := hz5 8 (by omega); clear hf5 hr5 hb5 hc5 hz5 B5))
      all_goals
        go_wp2_with fail
        have FA0 : Fr No wr ((wr.alloc (.cells #[.int .i64 tg, .slice va9 nd.cases[i].2.1.length vc9, .int .i64 kd2, .int .i64 n2, .string x2, .string y2, .slice f0 r0 s0, .slice f1 r1 s1, .slice f2 r2 s2] 58)).drew) := ((Fr.refl No wr).alloc _).drew
        have FA : Fr A wr w5 := (FA0.mono (fun _ _ e => e.elim)).trans F5.out
        obtain ⟨nx1, nx2⟩ := HNX.out w5 [.int .i64 kd3, .int .i64 n3, .string x3, .string y3, .slice h0 p0 t0, .slice h1 p1 t1, .slice h2 p2 t2] FA rfl (R5.out.sub (fun q h => h.imp (fun h => h) (fun h => ⟨Nat.le_trans FA0.size h.1, h.2⟩)))
        go_roundw
        case rel => exact ⟨i + 1, by omega, by go_num, (HF3.out.trans (FA.mono (fun q _ h => .inr (HAV.out q h)))).trans (nx2.mono (fun q _ e => .inl (by have e : q = g := e; rw [e]; exact HVG.out))), nx1⟩
        case measure => simp [intOf]; omega
    · have hil : i = nd.cases.length := by omega
      subst hil
      have k4 := cell_of_heap hr2
      have z4 := frozen_of_heap hr2
      have l4 := lt_of_heap hr2
      have HF3 := hide hf
      have HST := hide hst
      have HTN := hide hTn
      clear hb2 hr2 hf hst hTn
      go_wp2_with fail
      obtain ⟨t1, t2⟩ := set7 HR2.out (.int .i64 7) (.int .i64 nd.n) (.string nd.name) (.string nd.token) (.slice va nd.vars.length vc) (.slice aa nd.args.length ac) (.slice ca nd.cases.length cc)
      have g1 : Fr (fun g => V3 g ∨ V4 g) w wr := (F1.out.mono (fun _ _ e => e.elim)).trans HF3.out
      refine bodyPost_ret (retT rfl _ _ (w.heap.size + 1) _ _ _ _ _ _ _ (0, 0) rfl t1) rfl ⟨_, rfl, ?_, ?_⟩
      · exact (g1.mono (fun g _ h => HVS.out g h)).trans' t2 (fun j hj e => by have e : j = w.heap.size + 1 := e; omega)
      · have hrb := lt_of_heap G1.out
        exact FIN.out _ w1.heap.size hw1 (g1.trans' t2 (fun j hj e => by have e : j = w.heap.size + 1 := e; omega)) (HST.out.box t2 (fun h => by have := HV3.out _ h; omega) (fun h => by have := HV4.out _ h; omega) hrb)
end Go.Proofs.YtomahbdidlglfacGreatDoor

/- own: 'term' at any term of the kinds that a program has. -/
namespace Go.Proofs.YtomahbdidlglfacGreatDoor
open Go.RowKit Go.Maps Go.WideMaps

theorem termD_all (Q : Nat) (hQ : Q ≤ 1073741824) : ∀ (k : Nat) (t : Pu.TT k), Pq k t → TermD Q k t
  | 0, _, _ => fun _ _ _ _ _ h => h.elim
  | k + 1, t, h => by
    refine term_of_stepD Q hQ (k + 1) t ?_
    obtain ⟨nd, hnd⟩ : ∃ nd : Pu.Node (Pu.TT k), nd = t := ⟨_, rfl⟩
    subst hnd
    have hkd : kindOf (k + 1) nd = nd.kind := rfl
    by_cases h6 : nd.kind = 6
    · exact step_letD Q hQ k nd h6 (h.1.2 h6) (fun a ha => termD_all Q hQ k a (h.2.1 a ha))
    by_cases h7 : nd.kind = 7
    · exact step_matchD Q hQ k nd h7 (fun c hc => termD_all Q hQ k c.2.2 (h.2.2 c hc))
    by_cases h3 : nd.kind = 3 ∨ nd.kind = 4 ∨ nd.kind = 5
    · exact step_conD Q hQ k nd (by rw [hkd]; exact h3)
    · exact step_leafD Q (k + 1) nd (by rw [hkd]; omega) (by rw [hkd]; omega) (by rw [hkd]; omega) (by rw [hkd]; exact h6) (by rw [hkd]; exact h7)
end Go.Proofs.YtomahbdidlglfacGreatDoor

/- own: 'Fn' in general, walked. -/
namespace Go.Proofs.YtomahbdidlglfacGreatDoor
open Go.RowKit Go.Maps Go.WideMaps

theorem namesX_of {U V : Nat → Prop} {w : World} {v : Value} {l : List ByteArray} (h : NamesS U w v l) (hd : Dis U V) : NamesX V w v l := by
  obtain ⟨⟨a, c, h1, h2, h3, h4⟩, h5⟩ := h
  refine ⟨⟨a, c, h1, h2, h3, fun h0 => ?_⟩, h5⟩
  obtain ⟨g, o, e1, e2, e3, _, e4⟩ := h4 h0
  exact ⟨g, o, e1, hd g e2, e3, e4⟩
/-- What Fns lays of one function. -/
structure OneD (k : Nat) (S U0 U1 : Nat → Prop) (w : World) (g o : Nat) (cap : Nat) (pa : Option Addr) (pc : Nat) (kd n : Int) (x y : ByteArray) (a0 : Option Addr) (n0 c0 : Nat) (a1 : Option Addr) (n1 c1 : Nat) (a2 : Option Addr) (n2 c2 : Nat) (f : Pu.Fn k) : Prop where
  cap : cap ≤ maxLen
  lt : g < w.heap.size
  names : NamesS U0 w (.slice pa f.2.1.length pc) f.2.1
  s0 : Sub U0 S
  s1 : Sub U1 S
  dis : Dis U0 U1
  term : RTD k w U1 [.int .i64 kd, .int .i64 n, .string x, .string y, .slice a0 n0 c0, .slice a1 n1 c1, .slice a2 n2 c2] f.2.2
  cells : ∀ j, j < 9 → w.cell? ⟨g, o + j, none⟩ = [Value.string f.1, .slice pa f.2.1.length pc, .int .i64 kd, .int .i64 n, .string x, .string y, .slice a0 n0 c0, .slice a1 n1 c1, .slice a2 n2 c2][j]?

theorem fnsOneD_any (k B : Nat) (v : Value) (f : Pu.Fn k) (w : World) (hl : Fns k B w v [f]) (hB : B ≤ w.heap.size) (hw : wf f ≤ 1073741824) :
    Calls Tryz.prog 37 #[v] w fun e w' => ∃ U0 U1 g o cap pa pc kd n x y a0 n0 c0 a1 n1 c1 a2 n2 c2, e = .returned (.slice (some ⟨g, o, none⟩) 1 cap) ∧ Fr No w w' ∧ OneD k (New w w') U0 U1 w' g o cap pa pc kd n x y a0 n0 c0 a1 n1 c1 a2 n2 c2 f :=
  (fnsCopyD_any k B v [f] w hl hB (by simpa using hw)).mono fun e w' ⟨a, c, he, hf, acs, V1, V2, hpt, hr, hea⟩ => by
    obtain ⟨a', cap, hv, _, hcap, hrow⟩ := hr
    injection hv with hv1 _ hv2
    subst hv1 hv2
    obtain ⟨g, o, rfl, _, hg, _, hcell⟩ := hrow (by simp)
    obtain ⟨A, B', ck, rest, rfl, hlen, hA, _, _, hfs, hrest⟩ := hea
    have hrest' : rest = [] := hrest
    subst hrest'
    obtain ⟨pv, b, U0, U1, rfl, h1, hp2, h2, h3, h4⟩ := hfs
    obtain ⟨pa, pc, rfl, _⟩ := rowS_form h2.1
    obtain ⟨kd, n, x, y, a0, n0, c0, a1, n1, c1, a2, n2, c2, rfl⟩ := h4.form
    have hAn : Sub A (New w w') := fun x hx => hpt.1 V2 (by simp) x (hA x hx)
    exact ⟨U0, U1, g, o, c, pa, pc, kd, n, x, y, a0, n0, c0, a1, n1, c1, a2, n2, c2, he, hf, hcap, hg, h2, fun x hx => hAn x (hp2.1 U0 (by simp) x hx), fun x hx => hAn x (hp2.1 U1 (by simp) x hx), by simpa using hp2.2, h4, fun j hj => by rw [hcell j (by simpa using hj)]; simp⟩

set_option maxRecDepth 100000 in
set_option maxHeartbeats 4000000 in
theorem ownFnQ_any (Q : Nat) (hQ : Q ≤ 1073741824) (k : Nat) (f : Pu.Fn k) (hst : Pq k f.2.2) (B : Nat) (w : World) (cs : List Value) (hf : RF k B w cs f) (hB : B ≤ w.heap.size) (hw : wf f ≤ Q) :
    Calls Tryz.prog 14 #[.agg cs.toArray] w fun e w' => ∃ pa pc kd n x y a0 n0 c0 a1 n1 c1 a2 n2 c2, e = .returned (.agg #[.string f.1, .slice pa f.2.1.length pc, .int .i64 kd, .int .i64 n, .string x, .string y, .slice a0 n0 c0, .slice a1 n1 c1, .slice a2 n2 c2]) ∧ Fr No w w' ∧ NamesS (New w w') w' (.slice pa f.2.1.length pc) f.2.1 ∧ CW (4 * Q) k (2 * Q) w' (New w w') [.int .i64 kd, .int .i64 n, .string x, .string y, .slice a0 n0 c0, .slice a1 n1 c1, .slice a2 n2 c2] f.2.2 := by
  have hlen : cs.length = 9 := by obtain ⟨_, _, _, _, _, _, _, _, _, _, _, _, _, _, _, h⟩ := hf.form9; rw [h]; rfl
  obtain ⟨W0, hW0⟩ : ∃ W0, W0 = ((w.alloc (.cells cs.toArray 34)).alloc (.cells fnZero 34)) := ⟨_, rfl⟩
  have f0 : Fr No w W0 := by rw [hW0]; exact ((Fr.refl No w).alloc _).alloc _
  have b0 : W0.heap[w.heap.size]? = some (.cells cs.toArray 34 (0, 0)) := by rw [hW0]; exact fr_heap (heap_alloc_new w _) ((Fr.refl No _).alloc _) (fun e => e)
  have b1 : W0.heap[w.heap.size + 1]? = some (.cells fnZero 34 (0, 0)) := by
    have h := heap_alloc_new (w.alloc (.cells cs.toArray 34)) (.cells fnZero 34)
    rw [World.size_alloc] at h
    rw [hW0]; exact h
  have hs0 : W0.heap.size = w.heap.size + 2 := by rw [hW0]; simp
  have hf0 : RF k B W0 cs f := hf.kept (f0.old hB (fun _ _ e => e)) (Nat.le_refl _) f0.size
  have CF : Hid (Calls Tryz.prog 37 #[.slice (some ⟨w.heap.size + 1 + 1, 0, none⟩) 1 1] (W0.alloc (.cells cs.toArray 34)) fun e w' => ∃ U0 U1 g o cap pa pc kd n x y a0 n0 c0 a1 n1 c1 a2 n2 c2, e = .returned (.slice (some ⟨g, o, none⟩) 1 cap) ∧ Fr No (W0.alloc (.cells cs.toArray 34)) w' ∧ OneD k (New (W0.alloc (.cells cs.toArray 34)) w') U0 U1 w' g o cap pa pc kd n x y a0 n0 c0 a1 n1 c1 a2 n2 c2 f) :=
    by
      have h := fnsOneD_any k (W0.heap.size + 1) _ f _ (fns_one hf0 hlen (Nat.le_trans hB f0.size)) (by rw [World.size_alloc]; exact Nat.le_refl _) (Nat.le_trans hw hQ)
      rw [hs0] at h
      exact h
  have CT : Hid (∀ W S ov d0 d1 d2 d3 d4 d5 d6, RTD k W S [d0, d1, d2, d3, d4, d5, d6] f.2.2 → (∀ g, S g → g < W.heap.size) → NamesX S W ov f.2.1 → Calls Tryz.prog 38 #[.agg #[d0, d1, d2, d3, d4, d5, d6], ov] W fun e w' => ∃ kd' n' x' y' a0' n0' c0' a1' n1' c1' a2' n2' c2', e = .returned (.agg #[.int .i64 kd', .int .i64 n', .string x', .string y', .slice a0' n0' c0', .slice a1' n1' c1', .slice a2' n2' c2']) ∧ Fr S W w' ∧ CW (4 * Q) k (2 * Q) w' (fun g => S g ∨ New W w' g) [.int .i64 kd', .int .i64 n', .string x', .string y', .slice a0' n0' c0', .slice a1' n1' c1', .slice a2' n2' c2'] f.2.2) := fun W S ov d0 d1 d2 d3 d4 d5 d6 hr hS hl =>
    (termD_all Q hQ k f.2.2 hst S W _ ov _ hr hS hl (by unfold wf at hw; omega)).mono fun e w' ⟨cs', he, hf, hr⟩ => by
      obtain ⟨_, _, _, _, _, _, _, _, _, _, _, _, _, rfl⟩ := hr.form
      exact ⟨_, _, _, _, _, _, _, _, _, _, _, _, _, he, hf, hr⟩
  obtain ⟨pa0, pc0, kd0, n0, x0, y0, a00, n00, c00, a10, n10, c10, a20, n20, c20, rfl⟩ := hf.form9
  have HW0 := hide hW0
  have HF0 := hide f0
  have HB1 := hide b1
  have k0 := cell_of_heap b0
  rw [hW0] at k0
  clear hf hst hW0 f0 b0 b1 hf0 hlen hw hB
  show Calls Tryz.prog 14 #[.agg #[.string f.1, .slice pa0 f.2.1.length pc0, .int .i64 kd0, .int .i64 n0, .string x0, .string y0, .slice a00 n00 c00, .slice a10 n10 c10, .slice a20 n20 c20]] w _
  go_enter Tryz.func14, Tryz.ntmps14
  go_wp2_with fail
  rw [← HW0.out]
  clear k0
  obtain ⟨W1, hW1⟩ : ∃ W1, W1 = W0.alloc (.cells #[.string f.1, .slice pa0 f.2.1.length pc0, .int .i64 kd0, .int .i64 n0, .string x0, .string y0, .slice a00 n00 c00, .slice a10 n10 c10, .slice a20 n20 c20] 34) := ⟨_, rfl⟩
  have hCF := CF.out
  rw [← hW1] at hCF ⊢
  have f01 : Fr No W0 W1 := by rw [hW1]; exact (Fr.refl No W0).alloc _
  clear CF
  refine hCF.mono ?_
  clear hCF hW1
  rintro e w1 ⟨U0, U1, g, o, cap, pa, pc, kd, n, x, y, a0, m0, c0, a1, m1, c1, a2, m2, c2, rfl, hf1, h1⟩
  have q0 : w1.cell? ⟨g, o, none⟩ = some (.string f.1) := h1.cells 0 (by omega)
  have q1 := h1.cells 1 (by omega)
  have q2 := h1.cells 2 (by omega)
  have q3 := h1.cells 3 (by omega)
  have q4 := h1.cells 4 (by omega)
  have q5 := h1.cells 5 (by omega)
  have q6 := h1.cells 6 (by omega)
  have q7 := h1.cells 7 (by omega)
  have q8 := h1.cells 8 (by omega)
  have hgl := h1.lt
  have hcp := h1.cap
  unfold maxLen at hcp
  have H1 := hide h1
  have F01 := hide (f01.trans hf1)
  have hs1 : W0.heap.size ≤ W1.heap.size := f01.size
  have hs2 : W1.heap.size ≤ w1.heap.size := hf1.size
  clear h1 hf1 f01
  go_wp2_with fail
  obtain ⟨W2, hW2⟩ : ∃ W2, W2 = w1.alloc (.cells #[.string f.1, .slice pa f.2.1.length pc, .int .i64 kd, .int .i64 n, .string x, .string y, .slice a0 m0 c0, .slice a1 m1 c1, .slice a2 m2 c2] 34) := ⟨_, rfl⟩
  rw [← hW2]
  have f12 : Fr No w1 W2 := by rw [hW2]; exact (Fr.refl No w1).alloc _
  have o2 : W2.heap[w1.heap.size]? = some (.cells #[.string f.1, .slice pa f.2.1.length pc, .int .i64 kd, .int .i64 n, .string x, .string y, .slice a0 m0 c0, .slice a1 m1 c1, .slice a2 m2 c2] 34 (0, 0)) := by rw [hW2]; exact heap_alloc_new w1 _
  have hs3 : W2.heap.size = w1.heap.size + 1 := by rw [hW2]; simp
  have hnm2 : NamesS U0 W2 (.slice pa f.2.1.length pc) f.2.1 := H1.out.names.kept (stays_of_fr f12)
  clear hW2
  have hU1 : ∀ g, U1 g → W1.heap.size ≤ g ∧ g < w1.heap.size := fun g h => H1.out.s1 g h
  have hU0 : ∀ g, U0 g → W1.heap.size ≤ g ∧ g < w1.heap.size := fun g h => H1.out.s0 g h
  refine (CT.out W2 U1 _ _ _ _ _ _ _ _ (H1.out.term.kept (stays_of_fr f12)) (fun g h => by have := (hU1 g h).2; omega) (namesX_of hnm2 H1.out.dis)).mono ?_
  rintro e w2 ⟨kd', n', x', y', a0', n0', c0', a1', n1', c1', a2', n2', c2', rfl, hf2, hr2⟩
  have o3 := fr_heap o2 hf2 (fun e => by have := (hU1 _ e).2; omega)
  have r3 := fr_heap (fr_heap HB1.out (F01.out.trans f12) (fun e => e)) hf2 (fun e => by have := (hU1 _ e).1; have := HF0.out.size; omega)
  have k5 := cell_of_heap o3
  have z5 := frozen_of_heap o3
  have l5 := lt_of_heap o3
  have k6 := cell_of_heap r3
  have z6 := frozen_of_heap r3
  have l6 := lt_of_heap r3
  have hne1 : ¬ w1.heap.size = w.heap.size + 1 := by have := HF0.out.size; omega
  have hne2 : ¬ w.heap.size + 1 = w1.heap.size := by omega
  have O3 := hide o3
  have R3 := hide r3
  have HR2 := hide hr2
  have F2 : Hid (Fr No w w2) := (((HF0.out.trans F01.out).trans f12).trans' hf2 (fun i hi e => by have := (hU1 i e).1; have := HF0.out.size; omega))
  have HN2 := hide (hnm2.kept (stays_fr hf2 (fun g hg _ h => H1.out.dis g hg h) (fun _ h => h)))
  have HU0 := hide hU0
  have HU1 := hide hU1
  have hs4 := hf2.size
  clear o2 o3 r3 hr2 hf2 f12 hnm2 hU0 hU1 q0 q1 q2 q3 q4 q5 q6 q7 q8 CT
  go_wp2_with fail
  obtain ⟨s1, s2⟩ := set9b O3.out (.int .i64 kd') (.int .i64 n') (.string x') (.string y') (.slice a0' n0' c0') (.slice a1' n1' c1') (.slice a2' n2' c2')
  obtain ⟨Z1, hZ1⟩ : ∃ Z1, Z1 = (((((((w2.setCell ⟨w1.heap.size, 2, none⟩ (.int .i64 kd')).setCell ⟨w1.heap.size, 3, none⟩ (.int .i64 n')).setCell ⟨w1.heap.size, 4, none⟩ (.string x')).setCell ⟨w1.heap.size, 5, none⟩ (.string y')).setCell ⟨w1.heap.size, 6, none⟩ (.slice a0' n0' c0')).setCell ⟨w1.heap.size, 7, none⟩ (.slice a1' n1' c1')).setCell ⟨w1.heap.size, 8, none⟩ (.slice a2' n2' c2')) := ⟨_, rfl⟩
  rw [← hZ1] at s1 s2 ⊢
  clear hZ1
  have r4 := fr_heap R3.out s2 (fun e => hne2 e)
  obtain ⟨t1, t2⟩ := set9f r4 (.string f.1) (.slice pa f.2.1.length pc) (.int .i64 kd') (.int .i64 n') (.string x') (.string y') (.slice a0' n0' c0') (.slice a1' n1' c1') (.slice a2' n2' c2')
  obtain ⟨Z2, hZ2⟩ : ∃ Z2, Z2 = (((((((((Z1.setCell ⟨w.heap.size + 1, 0, none⟩ (.string f.1)).setCell ⟨w.heap.size + 1, 1, none⟩ (.slice pa f.2.1.length pc)).setCell ⟨w.heap.size + 1, 2, none⟩ (.int .i64 kd')).setCell ⟨w.heap.size + 1, 3, none⟩ (.int .i64 n')).setCell ⟨w.heap.size + 1, 4, none⟩ (.string x')).setCell ⟨w.heap.size + 1, 5, none⟩ (.string y')).setCell ⟨w.heap.size + 1, 6, none⟩ (.slice a0' n0' c0')).setCell ⟨w.heap.size + 1, 7, none⟩ (.slice a1' n1' c1')).setCell ⟨w.heap.size + 1, 8, none⟩ (.slice a2' n2' c2')) := ⟨_, rfl⟩
  rw [← hZ2] at t1 t2 ⊢
  clear hZ2
  have hfz := HF0.out.size
  have u1 := s2.size
  have u2 := t2.size
  have hst : ∀ S : Nat → Prop, (∀ g, S g → w.heap.size + 2 ≤ g ∧ g ≠ w1.heap.size ∧ g < w2.heap.size) → Stays S (New w Z2) w2 Z2 := fun S hS => by
    refine ⟨Nat.le_trans u1 u2, fun g hg hl => ⟨⟨by have := hS g hg; omega, by have := hS g hg; omega⟩, ?_⟩⟩
    exact (t2.block g (Nat.lt_of_lt_of_le hl u1) (fun e => by have e : g = w.heap.size + 1 := e; have := hS g hg; omega)).trans (s2.block g hl (fun e => (hS g hg).2.1 e))
  have P1 : Fr No w Z2 := (F2.out.trans' s2 (fun i hi e => by have e : i = w1.heap.size := e; omega)).trans' t2 (fun i hi e => by have e : i = w.heap.size + 1 := e; omega)
  have P2 := HN2.out.kept (hst _ (fun g hg => by have a1 := HU0.out g hg; exact ⟨by omega, by omega, by omega⟩))
  have P3 := (HR2.out.kept ⟨(hst (fun g => U1 g ∨ New W2 w2 g) (fun g hg => by
    rcases hg with h | h
    · have a1 := HU1.out g h; exact ⟨by omega, by omega, by omega⟩
    · exact ⟨by have := h.1; omega, by have := h.1; omega, h.2⟩)).1, fun g hg hl => ⟨hg, ((hst (fun g => U1 g ∨ New W2 w2 g) (fun g hg => by
    rcases hg with h | h
    · have a1 := HU1.out g h; exact ⟨by omega, by omega, by omega⟩
    · exact ⟨by have := h.1; omega, by have := h.1; omega, h.2⟩)).2 g hg hl).2⟩⟩).sub (V' := New w Z2) (fun g hg => by
    rcases hg with h | h
    · have a1 := HU1.out g h; exact ⟨by omega, by omega⟩
    · have := h.1; have := h.2; exact ⟨by omega, by omega⟩)
  refine bodyPost_ret (retF rfl _ _ (w.heap.size + 1) _ _ _ _ _ _ _ _ _ (0, 0) rfl t1) rfl ?_
  exact ⟨pa, pc, kd', n', x', y', a0', n0', c0', a1', n1', c1', a2', n2', c2', rfl, P1, P2, P3⟩
end Go.Proofs.YtomahbdidlglfacGreatDoor
