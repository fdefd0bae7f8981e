/- own: 'erased' at what counts, and then makes of names, walked. -/
import Derived.Test.YtdcdegeeaakekacDoorOc4
import Derived.Test.YtdcdegeeaakekacDoorOt1
namespace Go.Proofs.YtdcdegeeaakekacDoor
open Go.RowKit Go.Maps Go.WideMaps

/-- Storing what is there is nothing. -/
theorem setCell_id {w : World} {b o : Nat} {v : Value} (h : w.cell? ⟨b, o, none⟩ = some v) : w.setCell ⟨b, o, none⟩ v = w := by
  have hb : ∃ c e z, w.heap[b]? = some (.cells c e z) ∧ c[o]? = some v := by
    unfold World.cell? at h
    dsimp only at h
    split at h
    · rename_i c e z heq
      exact ⟨c, e, z, heq, by simpa using h⟩
    · cases h
  obtain ⟨c, e, z, hb, hc⟩ := hb
  have hm : ∀ f : Obj → Obj, f (.cells c e z) = .cells c e z → w.heap.modify b f = w.heap := fun f hf => by
    apply Array.ext
    · simp
    · intro i h1 h2
      rw [Array.getElem_modify]
      by_cases e1 : b = i
      · subst e1
        rw [if_pos rfl]
        have : w.heap[b] = .cells c e z := by
          have := Array.getElem?_eq_getElem h2
          rw [hb] at this
          exact (Option.some.inj this).symm
        rw [this]; exact hf
      · rw [if_neg e1]
  unfold World.setCell
  rw [hm _ (by
    have : c.setIfInBounds o v = c := by
      apply Array.ext
      · simp
      · intro i h1 h2
        rw [Array.getElem_setIfInBounds]
        by_cases e1 : o = i
        · subst e1
          rw [if_pos rfl]
          have := Array.getElem?_eq_getElem h2
          rw [hc] at this
          exact (Option.some.inj this)
        · rw [if_neg e1]
    simp [this])]

theorem counts_any (kd : Int) (b : Bool) (h : (kd = 1 ∧ b = false) ∨ (kd = 3 ∧ b = false) ∨ (kd = 8 ∧ b = true) ∨ (kd = 9 ∧ b = true)) (w : World) : Calls Tryd.prog 57 #[.int .i64 kd] w fun e w' => e = .returned (.bool b) ∧ w' = w := by
  rcases h with ⟨rfl, rfl⟩ | ⟨rfl, rfl⟩ | ⟨rfl, rfl⟩ | ⟨rfl, rfl⟩
  all_goals
    go_enter Tryd.func57, Tryd.ntmps57
    go_wp2_with fail
    go_ret
    exact ⟨rfl, rfl⟩

/-- 'erased' at t answers t'; what lay lies as it lay. -/
def ErC (k : Nat) (t : Pu.TT k) (t' : Tm) : Prop := ∀ (S : Nat → Prop) (w : World) (cs : List Value), RTS k S w cs t → (∀ g, S g → g < w.heap.size) →
  Calls Tryd.prog 38 #[.agg cs.toArray] w fun e w' => ∃ cs', e = .returned (.agg cs'.toArray) ∧ Fr No w w' ∧ RS S w' cs' t'

/-- What counts, around a term. -/
def spine (s : List (Int × ByteArray)) (t : Tm) : Tm := s.foldr (fun p t => wrap p.1 p.2 t) t
end Go.Proofs.YtdcdegeeaakekacDoor

/- own: 'erased' at a spine of what counts around a term of names, walked. -/
namespace Go.Proofs.YtdcdegeeaakekacDoor
open Go.RowKit Go.Maps Go.WideMaps

theorem RS.wrap_inv {S : Nat → Prop} {w : World} {cs : List Value} {kd : Int} {x : ByteArray} {t : Tm} (h : RS S w cs (wrap kd x t)) :
    ∃ a0 c0 g o c1 a2 c2 kd' n' x' y' b0 m0 e0 b1 m1 e1 b2 m2 e2, cs = [.int .i64 kd, .int .i64 0, .string x, .string ⟨#[]⟩, .slice a0 0 c0, .slice (some ⟨g, o, none⟩) 1 c1, .slice a2 0 c2] ∧ S g ∧ g < w.heap.size ∧ c1 ≤ maxLen ∧
      RS S w [.int .i64 kd', .int .i64 n', .string x', .string y', .slice b0 m0 e0, .slice b1 m1 e1, .slice b2 m2 e2] t ∧ ∀ j, j < 7 → w.cell? ⟨g, o + j, none⟩ = [Value.int .i64 kd', .int .i64 n', .string x', .string y', .slice b0 m0 e0, .slice b1 m1 e1, .slice b2 m2 e2][j]? := by
  obtain ⟨vv, av, cv, acs, ccs, h1, h2, h3, h4, h5, h6, h7, h8⟩ := h
  obtain ⟨a0, c0, rfl, _, _⟩ := h4.1
  obtain ⟨a2, c2, rfl, _, _⟩ := h7
  obtain ⟨a1, c1, rfl, _, hc1, hrow⟩ := h5
  obtain ⟨g, o, rfl, hS, hg, _, hcell⟩ := hrow (by show 0 < 1; decide)
  obtain ⟨ck, rest, rfl, hl, hr, hrest⟩ := h6
  have hrest' : rest = [] := hrest
  subst hrest'
  obtain ⟨kd', n', x', y', b0, m0, e0, b1, m1, e1, b2, m2, e2, rfl⟩ := hr.form
  exact ⟨a0, c0, g, o, c1, a2, c2, kd', n', x', y', b0, m0, e0, b1, m1, e1, b2, m2, e2, h1, hS, hg, hc1, hr, fun j hj => by rw [hcell j (by simpa using hj)]; simp⟩

/-- 'erased' answers what it was handed. -/
def ErSame (k : Nat) (t : Pu.TT k) : Prop := ∀ (S : Nat → Prop) (w : World) (cs : List Value), RTS k S w cs t → (∀ g, S g → g < w.heap.size) →
  Calls Tryd.prog 38 #[.agg cs.toArray] w fun e w' => e = .returned (.agg cs.toArray) ∧ Fr No w w'

theorem tb_new' (w : World) (cs : Array Value) : TB w cs ((w.alloc (.cells cs 31)).alloc (.cells #[.int .i64 0, .int .i64 0, .string ⟨#[]⟩, .string ⟨#[]⟩, .slice none 0 0, .slice none 0 0, .slice none 0 0] 31)) := by
  refine ⟨((Fr.refl No w).alloc _).alloc _, fr_heap (heap_alloc_new w _) ((Fr.refl No _).alloc _) (fun e => e), ?_⟩
  have h := heap_alloc_new (w.alloc (.cells cs 31)) (.cells #[.int .i64 0, .int .i64 0, .string ⟨#[]⟩, .string ⟨#[]⟩, .slice none 0 0, .slice none 0 0, .slice none 0 0] 31)
  rw [World.size_alloc] at h
  exact h

theorem args_atS {k : Nat} {S : Nat → Prop} {w : World} {av : Value} {acs : List Value} {args : List (Pu.TT k)} (hr : RowS S w av args.length acs) (he : Each 7 (RTS k S w) acs args) (i : Nat) (hi : i < args.length) :
    ∃ g o cap kd n x y a0 n0 c0 a1 n1 c1 a2 n2 c2, av = .slice (some ⟨g, o, none⟩) args.length cap ∧ cap ≤ maxLen ∧ S g ∧ g < w.heap.size ∧
      RTS k S w [.int .i64 kd, .int .i64 n, .string x, .string y, .slice a0 n0 c0, .slice a1 n1 c1, .slice a2 n2 c2] args[i] ∧ (∀ j, j < 7 → w.frozen? ⟨g, o + i * 7 + j, none⟩ = false) ∧
      ∀ j, j < 7 → w.cell? ⟨g, o + i * 7 + j, none⟩ = [Value.int .i64 kd, .int .i64 n, .string x, .string y, .slice a0 n0 c0, .slice a1 n1 c1, .slice a2 n2 c2][j]? := by
  obtain ⟨a, cap, rfl, _, hcap, hrow⟩ := hr
  obtain ⟨g, o, rfl, hS, hg, hz, hcell⟩ := hrow (by omega)
  obtain ⟨ck, h1, h2, h3⟩ := he.get i args[i] (List.getElem?_eq_getElem hi)
  have hl := he.length
  obtain ⟨kd, n, x, y, a0, n0, c0, a1, n1, c1, a2, n2, c2, rfl⟩ := h2.form
  refine ⟨g, o, cap, kd, n, x, y, a0, n0, c0, a1, n1, c1, a2, n2, c2, rfl, hcap, hS, hg, h2, fun j hj => ?_, fun j hj => ?_⟩
  · rw [Nat.add_assoc]; exact hz _ (by rw [hl]; have : i * 7 + 7 ≤ args.length * 7 := by omega
                                       omega)
  · rw [Nat.add_assoc, hcell _ (by rw [hl]; have : i * 7 + 7 ≤ args.length * 7 := by omega
                                   omega)]
    exact h3 j hj

set_option maxRecDepth 100000 in
set_option maxHeartbeats 8000000 in
theorem er_flat (k : Nat) (nd : Pu.Node (Pu.TT k)) (hk : nd.kind = 1 ∨ nd.kind = 3) (hcl : nd.cases.length = 0) (ha : ∀ i (h : i < nd.args.length), ErSame k nd.args[i]) (hal : nd.args.length ≤ 1000) (s : List (Int × ByteArray)) (hs : ∀ p ∈ s, p.1 = 8 ∨ p.1 = 9) (S : Nat → Prop) (w : World) (cs : List Value) (hT : RS S w cs (spine s ⟨k + 1, nd⟩)) (hS : ∀ g, S g → g < w.heap.size) :
    Calls Tryd.prog 38 #[.agg cs.toArray] w fun e w' => ∃ cs', e = .returned (.agg cs'.toArray) ∧ Fr No w w' ∧ RS S w' cs' ⟨k + 1, nd⟩ ∧ (s = [] → cs' = cs) := by
  obtain ⟨kd, n, x, y, a0, n0, c0, a1, n1, c1, a2, n2, c2, rfl⟩ := hT.form
  have hTB := tb_new' w #[.int .i64 kd, .int .i64 n, .string x, .string y, .slice a0 n0 c0, .slice a1 n1 c1, .slice a2 n2 c2]
  obtain ⟨W0, hW0⟩ : ∃ W0, W0 = ((w.alloc (.cells #[.int .i64 kd, .int .i64 n, .string x, .string y, .slice a0 n0 c0, .slice a1 n1 c1, .slice a2 n2 c2] 31)).alloc (.cells #[.int .i64 0, .int .i64 0, .string ⟨#[]⟩, .string ⟨#[]⟩, .slice none 0 0, .slice none 0 0, .slice none 0 0] 31)) := ⟨_, rfl⟩
  rw [← hW0] at hTB
  have HT := hide hT
  have T0 := hide hTB
  have HSS := hide hS
  have HS := hide hs
  have HA := hide ha
  have HK := hide hk
  have HAL := hide hal
  clear hT hTB hS hs ha hk hal
  show Calls Tryd.prog 38 #[.agg #[.int .i64 kd, .int .i64 n, .string x, .string y, .slice a0 n0 c0, .slice a1 n1 c1, .slice a2 n2 c2]] w _
  go_enter Tryd.func38, Tryd.ntmps38
  go_wp2_with fail
  rw [← hW0]
  clear hW0
  go_loopg [] (s.length + 1) (fun gn wr => ∃ done rest kd' n' x' y' b0 m0 e0 b1 m1 e1 b2 m2 e2, s = done ++ rest ∧ gn = rest.length + 1 ∧ wr.heap[w.heap.size]? = some (.cells #[.int .i64 kd', .int .i64 n', .string x', .string y', .slice b0 m0 e0, .slice b1 m1 e1, .slice b2 m2 e2] 31 (0, 0)) ∧ RS S wr [.int .i64 kd', .int .i64 n', .string x', .string y', .slice b0 m0 e0, .slice b1 m1 e1, .slice b2 m2 e2] (spine rest ⟨k + 1, nd⟩) ∧ Fr (· = w.heap.size) W0 wr ∧ (done = [] → [Value.int .i64 kd', .int .i64 n', .string x', .string y', .slice b0 m0 e0, .slice b1 m1 e1, .slice b2 m2 e2] = [.int .i64 kd, .int .i64 n, .string x, .string y, .slice a0 n0 c0, .slice a1 n1 c1, .slice a2 n2 c2]))
  case atStart => exact ⟨[], s, kd, n, x, y, a0, n0, c0, a1, n1, c1, a2, n2, c2, rfl, rfl, T0.out.t, HT.out.kept (stays_of_fr T0.out.fr), Fr.refl _ _, fun _ => rfl⟩
  case round =>
    obtain ⟨done, rest, kd', n', x', y', b0, m0, e0, b1, m1, e1, b2, m2, e2, hse, hgn, hbx, hrs, hfr, hsame⟩ := hrel
    have k0 := cell_of_heap hbx
    have z0 := frozen_of_heap hbx
    have l0 := lt_of_heap hbx
    cases rest with
    | cons p rest =>
      have hp := HS.out p (by rw [hse]; exact List.mem_append_right _ (List.mem_cons_self ..))
      obtain ⟨d0, dc0, g, o, dc1, d2, dc2, kd2, n2', x2, y2, f0, r0, s0, f1, r1, s1, f2, r2, s2, he, hSg, hg, hc1, hr2, hcell⟩ := RS.wrap_inv (t := spine rest ⟨k + 1, nd⟩) (kd := p.1) (x := p.2) hrs
      simp only [List.cons.injEq, Value.int.injEq, Value.string.injEq, Value.slice.injEq, and_true, true_and] at he
      obtain ⟨rfl, rfl, rfl, rfl, ⟨rfl, rfl, rfl⟩, ⟨rfl, rfl, rfl⟩, ⟨rfl, rfl, rfl⟩⟩ := he
      have CC : Hid (∀ u, Calls Tryd.prog 57 #[.int .i64 p.1] u fun e w' => e = .returned (.bool true) ∧ w' = u) := fun u => counts_any p.1 true (by rcases hp with h | h <;> simp [h]) u
      have hgw : g ≠ w.heap.size := by have := HSS.out g hSg; omega
      have q0 : wr.cell? ⟨g, o, none⟩ = some (.int .i64 kd2) := hcell 0 (by omega)
      have q1 := hcell 1 (by omega)
      have q2 := hcell 2 (by omega)
      have q3 := hcell 3 (by omega)
      have q4 := hcell 4 (by omega)
      have q5 := hcell 5 (by omega)
      have q6 := hcell 6 (by omega)
      unfold maxLen at hc1
      have HBX := hide hbx
      have HR2 := hide hr2
      have HFR := hide hfr
      have HGN := hide hgn
      have HSE := hide hse
      clear hcell hbx hr2 hfr hrs hsame hse hgn hp
      go_wp2_with fail
      refine (CC.out _).mono ?_
      rintro e w1 ⟨rfl, hw1⟩
      rw [hw1]
      clear hw1
      go_wp2_with fail
      go_roundg (rest.length + 1)
      case measure => have := HGN.out; simp only [List.length_cons] at this; omega
      case rel =>
        obtain ⟨t1, t2⟩ := set7 HBX.out (.int .i64 kd2) (.int .i64 n2') (.string x2) (.string y2) (.slice f0 r0 s0) (.slice f1 r1 s1) (.slice f2 r2 s2)
        exact ⟨done ++ [p], rest, kd2, n2', x2, y2, f0, r0, s0, f1, r1, s1, f2, r2, s2, by rw [HSE.out, List.append_assoc]; rfl, rfl, t1, HR2.out.kept (stays_fr t2 (fun g hg _ e => by have e : g = w.heap.size := e; have := HSS.out g hg; omega) (fun _ h => h)), HFR.out.trans t2, fun h => by simp at h⟩
    | nil =>
      have hrn : RNS (RTS k S wr) S wr [.int .i64 kd', .int .i64 n', .string x', .string y', .slice b0 m0 e0, .slice b1 m1 e1, .slice b2 m2 e2] nd := hrs
      obtain ⟨vv, av, cv, acs, ccs, h1, _, _, h4, h5, h6, h7, _⟩ := hrn
      obtain ⟨va, vc, rfl, _, _⟩ := h4.1
      obtain ⟨aa, ac, rfl, _, hac, _⟩ := id h5
      obtain ⟨ca, cc, rfl, _, _⟩ := h7
      simp only [List.cons.injEq, Value.int.injEq, Value.string.injEq, Value.slice.injEq, and_true, true_and] at h1
      obtain ⟨rfl, rfl, rfl, rfl, ⟨rfl, rfl, rfl⟩, ⟨rfl, rfl, rfl⟩, ⟨rfl, rfl, rfl⟩⟩ := h1
      have CC : Hid (∀ u, Calls Tryd.prog 57 #[.int .i64 nd.kind] u fun e w' => e = .returned (.bool false) ∧ w' = u) := fun u => counts_any nd.kind false (by rcases HK.out with h | h <;> simp [h]) u
      have n12 : (nd.kind == 12) = false := by rcases HK.out with h | h <;> rw [h] <;> decide
      obtain ⟨W1, hW1⟩ : ∃ W1, W1 = wr := ⟨_, rfl⟩
      rw [← hW1] at hbx hrs hfr h5 h6 k0 z0 l0 ⊢
      clear hW1 h4
      have HBX := hide hbx
      have HRS := hide hrs
      have HFR := hide (And.intro hfr (And.intro hsame hse))
      have H5 := hide h5
      have H6 := hide h6
      have HCL := hide hcl
      have hal := HAL.out
      clear hbx hrs hfr hsame hse h5 h6 hgn
      go_wp2_with fail
      refine (CC.out _).mono ?_
      rintro e w1 ⟨rfl, hw1⟩
      rw [hw1]
      clear hw1 CC
      go_wp2_with fail
      go_loopw [28] (fun q wr' => ∃ i : Nat, i ≤ nd.args.length ∧ q = .int .i64 i ∧ Fr No W1 wr') (fun q _ => nd.args.length - (intOf q).toNat)
      case atStart => exact ⟨0, Nat.zero_le _, rfl, Fr.refl _ _⟩
      case round =>
        obtain ⟨i, hi, rfl, hf⟩ := hrel
        have hb2 := fr_heap HBX.out hf (fun e => e)
        clear k0 z0 l0
        have k0 := cell_of_heap hb2
        have z0 := frozen_of_heap hb2
        have l0 := lt_of_heap hb2
        have HB2 := hide hb2
        by_cases hlt : i < nd.args.length
        · obtain ⟨g, o, cap, kd2, n2, x2, y2, f0, r0, s0, f1, r1, s1, f2, r2, s2, hav, hcap, hSg, hgw, hrt, hzz, hcell⟩ := args_atS H5.out H6.out i hlt
          injection hav with hav1 _ hav2
          subst hav1 hav2
          have hcw : ∀ j, j < 7 → wr.cell? ⟨g, o + i * 7 + j, none⟩ = [Value.int .i64 kd2, .int .i64 n2, .string x2, .string y2, .slice f0 r0 s0, .slice f1 r1 s1, .slice f2 r2 s2][j]? := fun j hj => by
            rw [show wr.cell? ⟨g, o + i * 7 + j, none⟩ = W1.cell? ⟨g, o + i * 7 + j, none⟩ from by simp only [World.cell?, hf.block g hgw (fun e => e)]]; exact hcell j hj
          have q0 : wr.cell? ⟨g, o + i * 7, none⟩ = some (.int .i64 kd2) := hcw 0 (by omega)
          have q1 := hcw 1 (by omega)
          have q2 := hcw 2 (by omega)
          have q3 := hcw 3 (by omega)
          have q4 := hcw 4 (by omega)
          have q5 := hcw 5 (by omega)
          have q6 := hcw 6 (by omega)
          have hgl : g < wr.heap.size := Nat.lt_of_lt_of_le hgw hf.size
          have CE : Hid (∀ W, Fr No W1 W → Calls Tryd.prog 38 #[.agg #[.int .i64 kd2, .int .i64 n2, .string x2, .string y2, .slice f0 r0 s0, .slice f1 r1 s1, .slice f2 r2 s2]] W fun e w' => e = .returned (.agg #[.int .i64 kd2, .int .i64 n2, .string x2, .string y2, .slice f0 r0 s0, .slice f1 r1 s1, .slice f2 r2 s2]) ∧ Fr No W w' ∧ (w'.heap[w.heap.size]? = W1.heap[w.heap.size]? ∧ (∀ j, j < 7 → w'.cell? ⟨g, o + i * 7 + j, none⟩ = [Value.int .i64 kd2, .int .i64 n2, .string x2, .string y2, .slice f0 r0 s0, .slice f1 r1 s1, .slice f2 r2 s2][j]?) ∧ (∀ j, j < 7 → w'.frozen? ⟨g, o + i * 7 + j, none⟩ = false))) := fun W hW =>
            (HA.out i hlt S W _ (hrt.kept (stays_of_fr hW)) (fun g hg => Nat.lt_of_lt_of_le (HSS.out g hg) (by have := HFR.out.1.size; have := T0.out.fr.size; have := hW.size; omega))).mono fun e w' ⟨he, hf'⟩ => by
              have hb := (hW.trans hf').block g hgw (fun e => e)
              exact ⟨he, hf', (hW.trans hf').block _ (lt_of_heap HBX.out) (fun e => e), fun j hj => by rw [show w'.cell? ⟨g, o + i * 7 + j, none⟩ = W1.cell? ⟨g, o + i * 7 + j, none⟩ from by simp only [World.cell?, hb]]; exact hcell j hj, fun j hj => by rw [show w'.frozen? ⟨g, o + i * 7 + j, none⟩ = W1.frozen? ⟨g, o + i * 7 + j, none⟩ from by simp only [World.frozen?, hb]]; exact hzz j hj⟩
          have HF := hide hf
          have HI := hide hi
          clear hcw hcell hrt hf hzz hb2 hi
          have i1 : (i : Int) < (nd.args.length : Int) := by omega
          have i0 : (0 : Int) ≤ (i : Int) := by omega
          unfold maxLen at hac
          go_wp2_with fail
          go_region_with (first
            | (go_at_call 38; refine (CE.out _ (by first | exact (HF.out.alloc _).drew | exact HF.out.alloc _)).mono ?_; rintro e w5 ⟨rfl, hf5, hb5, hc5, hz5⟩; have F5 := hide hf5; have B5 := hb5.trans HBX.out; have k5 := cell_of_heap B5; have l5 := lt_of_heap B5; have c50 : w5.cell? ⟨g, o + i * 7, none⟩ = some (.int .i64 kd2) := hc5 0 (by omega); have c51 := hc5 1 (by omega); have c52 := hc5 2 (by omega); have c53 := hc5 3 (by omega); have c54 := hc5 4 (by omega); have c55 := hc5 5 (by omega); have c56 := hc5 6 (by omega); have z50 : w5.frozen? ⟨g, o + i * 7, none⟩ = false := hz5 0 (by omega); have z51 := hz5 1 (by omega); have z52 := hz5 2 (by omega); have z53 := hz5 3 (by omega); have z54 := hz5 4 (by omega); have z55 := hz5 5 (by omega); have z56 := hz5 6 (by omega); have HC5 := hide hc5; clear hf5 hb5 hc5 hz5 B5))
          all_goals
            rw [setCell_id c50, setCell_id c51, setCell_id c52, setCell_id c53, setCell_id c54, setCell_id c55, setCell_id c56]
            go_wp2_with fail
            go_roundw
            case rel => exact ⟨i + 1, by omega, by go_num, ((HF.out.alloc _).drew).trans F5.out⟩
            case measure => simp [intOf]; omega
        · have hil : i = nd.args.length := by omega
          subst hil
          have HF := hide hf
          clear hf hb2
          rw [hcl] at k0
          go_wp2_with fail
          obtain ⟨W2, hW2⟩ : ∃ W2, W2 = wr := ⟨_, rfl⟩
          rw [← hW2] at HB2 HF ⊢
          clear k0 z0 l0 hW2
          go_loopw [43] (fun q wr' => q = .int .i64 0 ∧ Fr No W2 wr') (fun _ _ => 0)
          case atStart => exact ⟨rfl, Fr.refl _ _⟩
          case round =>
            obtain ⟨rfl, hf3⟩ := hrel
            have hb3 := fr_heap HB2.out hf3 (fun e => e)
            rw [hcl] at hb3
            have hr3 := fr_heap (fr_heap T0.out.r HFR.out.1 (fun e => by have e : w.heap.size + 1 = w.heap.size := e; omega)) (HF.out.trans hf3) (fun e => e)
            have k3 := cell_of_heap hb3
            have k4 := cell_of_heap hr3
            have z4 := frozen_of_heap hr3
            have l3 := lt_of_heap hb3
            have l4 := lt_of_heap hr3
            have HR3 := hide hr3
            have HF3 := hide (HF.out.trans hf3)
            clear hb3 hr3 hf3
            go_wp2_with fail
            obtain ⟨t1, t2⟩ := set7 HR3.out (.int .i64 nd.kind) (.int .i64 nd.n) (.string nd.name) (.string nd.token) (.slice b0 nd.vars.length e0) (.slice b1 nd.args.length e1) (.slice b2 0 e2)
            refine bodyPost_ret (retT rfl _ _ (w.heap.size + 1) _ _ _ _ _ _ _ (0, 0) rfl t1) rfl ⟨_, rfl, ?_, ?_, ?_⟩
            · exact ((T0.out.fr.trans' HFR.out.1 (fun i hi e => by have e : i = w.heap.size := e; omega)).trans HF3.out).trans' t2 (fun i hi e => by have e : i = w.heap.size + 1 := e; omega)
            · have hr := HRS.out
              rw [hcl] at hr
              have hsz := T0.out.fr.size
              have hsz2 := HFR.out.1.size
              exact (hr.kept (stays_of_fr HF3.out)).kept (stays_fr t2 (fun g hg _ e => by have e : g = w.heap.size + 1 := e; have := HSS.out g hg; omega) (fun _ h => h))
            · intro hs0
              obtain ⟨_, hsame, hse⟩ := HFR.out
              rw [hs0] at hse
              have hd : done = [] := by
                cases done with
                | nil => rfl
                | cons a l => simp at hse
              have := hsame hd
              rw [hcl] at this
              exact this
end Go.Proofs.YtdcdegeeaakekacDoor
