/- The document's Plain terms, walked: kinds 3, 4, 5. -/
import Derived.Test.YtomahbdidlglfacGreatDoorPw1Pw2Pw3
namespace Go.Proofs.YtomahbdidlglfacGreatDoor
open Go.RowKit Go.Maps Go.WideMaps

/-- What is there behind atoms. -/
theorem AT.fin {k wb : Nat} {S : Nat → Prop} {w : World} {l : List Nat} {va : Option Addr} {vc : Nat} {ba : Option Addr} {j bc K' : Nat} {W : World} (h : AT k wb S w l l.length va vc ba j bc K' W) (hS : ∀ g, w.heap.size ≤ g → S g) :
    ∃ kb bs xb ws xs, kb + k + 1 ≤ kb + k + 1 ∧ bs.length = j ∧ ws.length = l.length ∧ j ≤ l.length ∧ ws.sum + (bs.map (1 + ·)).sum ≤ 4 * l.sum ∧ RowP S W (.slice ba j bc) j xb ∧ Each 8 (RB (PT kb S W)) xb bs ∧ RowP S W (.slice va l.length vc) l.length xs ∧ Each 7 (PT (k + 1) S W) xs ws := by
  obtain ⟨xs, ws, r1, r2, r3, kb, xb, bs, b1, b2, b3, b4, b5⟩ := h.vs
  rw [List.take_length] at b5
  exact ⟨kb, bs, xb, ws, xs, Nat.le_refl _, b3, r3, b4, b5, rowP_own b1 (fun g hg => hS g (b1.lt g hg).1), b2.mono fun c a hp => hp.mono fun _ _ hp => hp.kept (stays_self fun g hg => hg.1.1), rowP_own r1 (fun g hg => hS g (r1.lt g hg).1), r2.mono fun c a hp => hp.kept (stays_self fun g hg => hg.1.1)⟩
/-- A term made of such rows. -/
theorem mk_pt {k : Nat} {S : Nat → Prop} {w : World} {kd n : Int} {x : ByteArray} {av cv : Value} {xs ys : List Value} {ws : List Nat} {cl : List (Int × List ByteArray × Nat)} (h1 : 1 ≤ kd ∧ kd ≤ 7) (h6 : kd = 6 → ws.length = 2) (hx : x.size ≤ maxLen) (hn : (Lit.int .i64 n).wf = true) (ha : RowP S w av ws.length xs) (he : Each 7 (PT k S w) xs ws) (hc : RowP S w cv cl.length ys) (hf : Each 9 (RCP (PT k S w) S w) ys cl) :
    PT (k + 1) S w [.int .i64 kd, .int .i64 n, .string x, .string ⟨#[]⟩, .slice none 0 0, av, cv] (1 + ws.sum + (cl.map fun c => 1 + c.2.1.length + c.2.2).sum) :=
  ⟨⟨kd, n, x, ⟨#[]⟩, [], ws, cl⟩, ⟨h1, h6⟩, by simp [wtN], .slice none 0 0, av, cv, xs, ys, rfl, hx, hn, ⟨⟨none, 0, rfl, Nat.le_refl _, Nat.zero_le _, fun h => absurd h (by simp)⟩, fun y hy => absurd hy (by simp)⟩, ha, he, hc, hf⟩

set_option maxRecDepth 100000 in
set_option maxHeartbeats 8000000 in
theorem wterm_con (k : Nat) (ih : WTerm k) (wb K : Nat) (S : Nat → Prop) (w : World) (cs : List Value) (nd : Pu.Node Nat) (hS : ∀ g, w.heap.size ≤ g → S g) (hSn : ¬ S wb) (hn : w.heap[wb]? = some (.cells #[.int .i64 (K : Int)] 71 (0, 0))) (h3 : 3 ≤ wb) (henv : Env w) (hr : RNP (PT k S w) S w cs nd) (hk : nd.kind = 3 ∨ nd.kind = 4 ∨ nd.kind = 5) (hK : K + wtN nd ≤ 1073741824) :
    Calls Tryz.prog 36 #[.pointer (some ⟨wb, 0, none⟩), .agg cs.toArray] w fun e w' => ∃ cs', e = .returned (.agg cs'.toArray) ∧ Fr (· = wb) w w' ∧ (∃ K' : Nat, w'.heap[wb]? = some (.cells #[.int .i64 (K' : Int)] 71 (0, 0)) ∧ K' + 1 ≤ K + wtN nd) ∧ ∃ k' m', PT k' S w' cs' m' ∧ m' + 2 ≤ 4 * wtN nd := by
  obtain ⟨vv, av, cv, acs, ccs, rfl, hnm, hwf, h4, h5, h6, h7, h8⟩ := hr
  obtain ⟨va, vc, rfl, _, _⟩ := h4.1.form
  obtain ⟨aa0, ac0, rfl, hac1, hac2⟩ := h5.form
  obtain ⟨ca, cc, rfl, hcc1, hcc2⟩ := h7.form
  have hnw := lt_of_heap hn
  have hlen := each_len h6
  have hwt : wtN nd = 1 + nd.vars.length + nd.args.sum + (nd.cases.map fun c => 1 + c.2.1.length + c.2.2).sum := rfl
  obtain ⟨kd, hkd⟩ : ∃ kd, kd = nd.kind := ⟨_, rfl⟩
  rw [← hkd] at hk ⊢
  have d3 : kd ≠ 1 ∧ kd ≠ 2 ∧ kd ≠ 6 ∧ kd ≠ 7 := by rcases hk with h | h | h <;> (rw [h]; decide)
  have hkb : (1 : Int) ≤ kd ∧ kd ≤ 7 := by omega
  have HKB := hide (And.intro hkb d3.2.2.1)
  have HNM := hide (And.intro hnm hwf)
  have HWT := hide hwt
  have HKK := hide hK
  have HS := hide (And.intro hS hSn)
  have HARG := hide (And.intro h5 h6)
  have HENV := hide henv
  have HN := hide hn
  have HIH := hide ih
  obtain ⟨S', hS'⟩ : ∃ S' : Nat → Prop, S' = fun g => S g ∧ g ≠ w.heap.size + 1 := ⟨_, rfl⟩
  have st0 : ∀ W, Fr No w W → Stays S S' w W := fun W hW => ⟨hW.size, fun g hg hl => ⟨by rw [hS']; exact ⟨hg, by omega⟩, hW.block g hl (fun e => e)⟩⟩
  have HS2 : Hid (∀ g, w.heap.size + 2 ≤ g → S' g) := fun g hg => by rw [hS']; exact ⟨hS g (by omega), by omega⟩
  have HSE : Hid (∀ g, S' g → S g ∧ g ≠ w.heap.size + 1) := fun g hg => by rw [hS'] at hg; exact hg
  have CAT : Hid (∀ W, Fr No w W → W.heap.size = w.heap.size + 2 → Calls Tryz.prog 65 #[.pointer (some ⟨wb, 0, none⟩), .slice aa0 nd.args.length ac0] W fun e w' => ∃ va vc ba j bc, e = .returned (.tuple #[.slice va nd.args.length vc, .slice ba j bc]) ∧ ∃ K', K' ≤ K + nd.args.sum ∧ AT k wb S' W nd.args nd.args.length va vc ba j bc K' w') := fun W hW hz =>
    atoms_any k ih wb K S' W _ acs nd.args (fun g hg => HS2.out g (by omega)) (fun h => hSn (HSE.out _ h).1) (fr_heap hn hW (fun e => e)) h3 (henv.fr hW (by omega) (fun _ _ e => e)) (h5.kept (st0 W hW)) (h6.mono fun c a h => h.kept (st0 W hW)) (by omega)
  clear st0 hS' ih hS hSn hn henv h4 h5 h6 h7 h8 hnm hwf hwt hK
  rcases hk with rfl | rfl | rfl
  · clear hkd
    go_enter Tryz.func36, Tryz.ntmps36
    obtain ⟨W0, hW0⟩ : ∃ W0, W0 = ((w.alloc (.cells #[.int .i64 3, .int .i64 nd.n, .string nd.name, .string nd.token, .slice va nd.vars.length vc, .slice aa0 nd.args.length ac0, .slice ca nd.cases.length cc] 32)).alloc (.cells tz 32)) := ⟨_, rfl⟩
    have f0 : Fr No w W0 := by rw [hW0]; exact ((Fr.refl No w).alloc _).alloc _
    have b0 : W0.heap[w.heap.size]? = some (.cells #[.int .i64 3, .int .i64 nd.n, .string nd.name, .string nd.token, .slice va nd.vars.length vc, .slice aa0 nd.args.length ac0, .slice ca nd.cases.length cc] 32 (0, 0)) := by rw [hW0]; exact fr_heap (heap_alloc_new w _) ((Fr.refl No _).alloc _) (fun e => e)
    have b1 : W0.heap[w.heap.size + 1]? = some (.cells tz 32 (0, 0)) := by
      have h := heap_alloc_new (w.alloc (.cells #[.int .i64 3, .int .i64 nd.n, .string nd.name, .string nd.token, .slice va nd.vars.length vc, .slice aa0 nd.args.length ac0, .slice ca nd.cases.length cc] 32)) (.cells tz 32)
      rw [World.size_alloc] at h
      rw [hW0]; exact h
    have HW0 := hide hW0
    have F0 := hide f0
    have B0 := hide b0
    have B1 := hide b1
    have hs0 : W0.heap.size = w.heap.size + 2 := by rw [hW0]; simp
    have CA1 := hide (CAT.out W0 f0 hs0)
    have HS0 := hide hs0
    clear hW0 f0 b0 b1 CAT hs0
    go_wp2_with fail
    rw [← HW0.out]
    refine CA1.out.mono ?_
    rintro e w2 ⟨va2, vc2, ba, j, bc, rfl, K', hK', hat⟩
    have g0 := fr_heap B0.out hat.fr (fun e => by have e : w.heap.size = wb := e; omega)
    have g1 := fr_heap B1.out hat.fr (fun e => by have e : w.heap.size + 1 = wb := e; omega)
    have kg0 := cell_of_heap g0
    have lg0 := lt_of_heap g0
    have kg1 := cell_of_heap g1
    have zg1 := frozen_of_heap g1
    have lg1 := lt_of_heap g1
    obtain ⟨kb, bs, xb, ws, xs, _, e1, e2, e3, e4, r1, r2, r3, r4⟩ := hat.fin (fun g hg => HS2.out g (by have := HS0.out; omega))
    subst e1
    have hsz2 : w.heap.size + 2 ≤ w2.heap.size := by have := HS0.out; have := hat.fr.size; omega
    have CAR : Hid (Calls Tryz.prog 66 #[.slice ba bs.length bc, .agg #[.int .i64 3, .int .i64 nd.n, .string nd.name, .string ⟨#[]⟩, .slice none 0 0, .slice va2 nd.args.length vc2, .slice none 0 0]] w2 fun e w' => ∃ kC nC xC yC u0 p0 d0 u1 p1 d1 u2 p2 d2, e = .returned (.agg #[.int .i64 kC, .int .i64 nC, .string xC, .string yC, .slice u0 p0 d0, .slice u1 p1 d1, .slice u2 p2 d2]) ∧ Fr No w2 w' ∧ ∃ k' m', PT k' S' w' [.int .i64 kC, .int .i64 nC, .string xC, .string yC, .slice u0 p0 d0, .slice u1 p1 d1, .slice u2 p2 d2] m' ∧ m' ≤ 1 + 4 * nd.args.sum) := by
      have pt := mk_pt (k := k + 1) (S := S') (w := w2) (kd := 3) (n := nd.n) (x := nd.name) (av := .slice va2 nd.args.length vc2) (cv := .slice none 0 0) (xs := xs) (ys := []) (ws := ws) (cl := []) (by decide) (fun h => absurd h (by decide)) HNM.out.1 HNM.out.2 (by rw [e2]; exact r3) r4 ⟨none, 0, rfl, Nat.le_refl _, Nat.zero_le _, fun h => absurd h (by simp)⟩ rfl
      refine (around_any kb (kb + (k + 1 + 1)) _ (Nat.le_add_right _ _) S' w2 _ xb _ bs (fun g hg => HS2.out g (by omega)) r1 r2 (pt.upTo (Nat.le_add_left _ _)) (by have := HKK.out; have := HWT.out; omega)).mono fun e w' ⟨cs', he, hf, hp⟩ => ?_
      obtain ⟨kC, nC, xC, yC, u0, p0, d0, u1, p1, d1, u2, p2, d2, rfl⟩ := hp.form
      exact ⟨kC, nC, xC, yC, u0, p0, d0, u1, p1, d1, u2, p2, d2, he, hf, _, _, hp, by simp only [List.map_nil, List.sum_nil, Nat.add_zero]; omega⟩
    have HAT := hide (And.intro hat.fr hat.nbx)
    have G1 := hide g1
    have HK' := hide hK'
    clear hat g0 g1 CA1 r1 r2 r3 r4 e2 e3 e4 hK'
    go_wp2_with fail
    refine CAR.out.mono ?_
    rintro e w3 ⟨kC, nC, xC, yC, u0, p0, d0, u1, p1, d1, u2, p2, d2, rfl, hf3, k', m', hp, hm⟩
    have g1 := fr_heap G1.out hf3 (fun e => e)
    have kg3 := cell_of_heap g1
    have zg3 := frozen_of_heap g1
    have lg3 := lt_of_heap g1
    have G3 := hide g1
    have F3 := hide hf3
    have HP := hide (And.intro hp hm)
    clear hp hm hf3 g1 kg1 zg1 CAR
    go_wp2_with fail
    obtain ⟨s1, s2⟩ := set7 G3.out (.int .i64 kC) (.int .i64 nC) (.string xC) (.string yC) (.slice u0 p0 d0) (.slice u1 p1 d1) (.slice u2 p2 d2)
    have hnb3 := fr_heap HAT.out.2 F3.out (fun e => e)
    refine bodyPost_ret (retT rfl _ _ (w.heap.size + 1) _ _ _ _ _ _ _ (0, 0) rfl s1) rfl ⟨_, rfl, ?_, ⟨K', fr_heap hnb3 s2 (fun e => by have e : wb = w.heap.size + 1 := e; omega), ?_⟩, k', m', ?_, ?_⟩
    · exact ((F0.out.mono fun _ _ e => e.elim).trans (HAT.out.1.trans (F3.out.mono fun _ _ e => e.elim))).trans' s2 (fun q hq e => by have e : q = w.heap.size + 1 := e; omega)
    · have := HK'.out; have := HWT.out; omega
    · exact HP.out.1.kept (stays_fr s2 (fun g hg _ e => (HSE.out g hg).2 e) (fun g hg => (HSE.out g hg).1))
    · have := HP.out.2; have := HWT.out; omega
  · clear hkd
    go_enter Tryz.func36, Tryz.ntmps36
    obtain ⟨W0, hW0⟩ : ∃ W0, W0 = ((w.alloc (.cells #[.int .i64 4, .int .i64 nd.n, .string nd.name, .string nd.token, .slice va nd.vars.length vc, .slice aa0 nd.args.length ac0, .slice ca nd.cases.length cc] 32)).alloc (.cells tz 32)) := ⟨_, rfl⟩
    have f0 : Fr No w W0 := by rw [hW0]; exact ((Fr.refl No w).alloc _).alloc _
    have b0 : W0.heap[w.heap.size]? = some (.cells #[.int .i64 4, .int .i64 nd.n, .string nd.name, .string nd.token, .slice va nd.vars.length vc, .slice aa0 nd.args.length ac0, .slice ca nd.cases.length cc] 32 (0, 0)) := by rw [hW0]; exact fr_heap (heap_alloc_new w _) ((Fr.refl No _).alloc _) (fun e => e)
    have b1 : W0.heap[w.heap.size + 1]? = some (.cells tz 32 (0, 0)) := by
      have h := heap_alloc_new (w.alloc (.cells #[.int .i64 4, .int .i64 nd.n, .string nd.name, .string nd.token, .slice va nd.vars.length vc, .slice aa0 nd.args.length ac0, .slice ca nd.cases.length cc] 32)) (.cells tz 32)
      rw [World.size_alloc] at h
      rw [hW0]; exact h
    have HW0 := hide hW0
    have F0 := hide f0
    have B0 := hide b0
    have B1 := hide b1
    have hs0 : W0.heap.size = w.heap.size + 2 := by rw [hW0]; simp
    have CA1 := hide (CAT.out W0 f0 hs0)
    have HS0 := hide hs0
    clear hW0 f0 b0 b1 CAT hs0
    go_wp2_with fail
    rw [← HW0.out]
    refine CA1.out.mono ?_
    rintro e w2 ⟨va2, vc2, ba, j, bc, rfl, K', hK', hat⟩
    have g0 := fr_heap B0.out hat.fr (fun e => by have e : w.heap.size = wb := e; omega)
    have g1 := fr_heap B1.out hat.fr (fun e => by have e : w.heap.size + 1 = wb := e; omega)
    have kg0 := cell_of_heap g0
    have lg0 := lt_of_heap g0
    have kg1 := cell_of_heap g1
    have zg1 := frozen_of_heap g1
    have lg1 := lt_of_heap g1
    obtain ⟨kb, bs, xb, ws, xs, _, e1, e2, e3, e4, r1, r2, r3, r4⟩ := hat.fin (fun g hg => HS2.out g (by have := HS0.out; omega))
    subst e1
    have hsz2 : w.heap.size + 2 ≤ w2.heap.size := by have := HS0.out; have := hat.fr.size; omega
    have CAR : Hid (Calls Tryz.prog 66 #[.slice ba bs.length bc, .agg #[.int .i64 4, .int .i64 nd.n, .string nd.name, .string ⟨#[]⟩, .slice none 0 0, .slice va2 nd.args.length vc2, .slice none 0 0]] w2 fun e w' => ∃ kC nC xC yC u0 p0 d0 u1 p1 d1 u2 p2 d2, e = .returned (.agg #[.int .i64 kC, .int .i64 nC, .string xC, .string yC, .slice u0 p0 d0, .slice u1 p1 d1, .slice u2 p2 d2]) ∧ Fr No w2 w' ∧ ∃ k' m', PT k' S' w' [.int .i64 kC, .int .i64 nC, .string xC, .string yC, .slice u0 p0 d0, .slice u1 p1 d1, .slice u2 p2 d2] m' ∧ m' ≤ 1 + 4 * nd.args.sum) := by
      have pt := mk_pt (k := k + 1) (S := S') (w := w2) (kd := 4) (n := nd.n) (x := nd.name) (av := .slice va2 nd.args.length vc2) (cv := .slice none 0 0) (xs := xs) (ys := []) (ws := ws) (cl := []) (by decide) (fun h => absurd h (by decide)) HNM.out.1 HNM.out.2 (by rw [e2]; exact r3) r4 ⟨none, 0, rfl, Nat.le_refl _, Nat.zero_le _, fun h => absurd h (by simp)⟩ rfl
      refine (around_any kb (kb + (k + 1 + 1)) _ (Nat.le_add_right _ _) S' w2 _ xb _ bs (fun g hg => HS2.out g (by omega)) r1 r2 (pt.upTo (Nat.le_add_left _ _)) (by have := HKK.out; have := HWT.out; omega)).mono fun e w' ⟨cs', he, hf, hp⟩ => ?_
      obtain ⟨kC, nC, xC, yC, u0, p0, d0, u1, p1, d1, u2, p2, d2, rfl⟩ := hp.form
      exact ⟨kC, nC, xC, yC, u0, p0, d0, u1, p1, d1, u2, p2, d2, he, hf, _, _, hp, by simp only [List.map_nil, List.sum_nil, Nat.add_zero]; omega⟩
    have HAT := hide (And.intro hat.fr hat.nbx)
    have G1 := hide g1
    have HK' := hide hK'
    clear hat g0 g1 CA1 r1 r2 r3 r4 e2 e3 e4 hK'
    go_wp2_with fail
    refine CAR.out.mono ?_
    rintro e w3 ⟨kC, nC, xC, yC, u0, p0, d0, u1, p1, d1, u2, p2, d2, rfl, hf3, k', m', hp, hm⟩
    have g1 := fr_heap G1.out hf3 (fun e => e)
    have kg3 := cell_of_heap g1
    have zg3 := frozen_of_heap g1
    have lg3 := lt_of_heap g1
    have G3 := hide g1
    have F3 := hide hf3
    have HP := hide (And.intro hp hm)
    clear hp hm hf3 g1 kg1 zg1 CAR
    go_wp2_with fail
    obtain ⟨s1, s2⟩ := set7 G3.out (.int .i64 kC) (.int .i64 nC) (.string xC) (.string yC) (.slice u0 p0 d0) (.slice u1 p1 d1) (.slice u2 p2 d2)
    have hnb3 := fr_heap HAT.out.2 F3.out (fun e => e)
    refine bodyPost_ret (retT rfl _ _ (w.heap.size + 1) _ _ _ _ _ _ _ (0, 0) rfl s1) rfl ⟨_, rfl, ?_, ⟨K', fr_heap hnb3 s2 (fun e => by have e : wb = w.heap.size + 1 := e; omega), ?_⟩, k', m', ?_, ?_⟩
    · exact ((F0.out.mono fun _ _ e => e.elim).trans (HAT.out.1.trans (F3.out.mono fun _ _ e => e.elim))).trans' s2 (fun q hq e => by have e : q = w.heap.size + 1 := e; omega)
    · have := HK'.out; have := HWT.out; omega
    · exact HP.out.1.kept (stays_fr s2 (fun g hg _ e => (HSE.out g hg).2 e) (fun g hg => (HSE.out g hg).1))
    · have := HP.out.2; have := HWT.out; omega
  · clear hkd
    go_enter Tryz.func36, Tryz.ntmps36
    obtain ⟨W0, hW0⟩ : ∃ W0, W0 = ((w.alloc (.cells #[.int .i64 5, .int .i64 nd.n, .string nd.name, .string nd.token, .slice va nd.vars.length vc, .slice aa0 nd.args.length ac0, .slice ca nd.cases.length cc] 32)).alloc (.cells tz 32)) := ⟨_, rfl⟩
    have f0 : Fr No w W0 := by rw [hW0]; exact ((Fr.refl No w).alloc _).alloc _
    have b0 : W0.heap[w.heap.size]? = some (.cells #[.int .i64 5, .int .i64 nd.n, .string nd.name, .string nd.token, .slice va nd.vars.length vc, .slice aa0 nd.args.length ac0, .slice ca nd.cases.length cc] 32 (0, 0)) := by rw [hW0]; exact fr_heap (heap_alloc_new w _) ((Fr.refl No _).alloc _) (fun e => e)
    have b1 : W0.heap[w.heap.size + 1]? = some (.cells tz 32 (0, 0)) := by
      have h := heap_alloc_new (w.alloc (.cells #[.int .i64 5, .int .i64 nd.n, .string nd.name, .string nd.token, .slice va nd.vars.length vc, .slice aa0 nd.args.length ac0, .slice ca nd.cases.length cc] 32)) (.cells tz 32)
      rw [World.size_alloc] at h
      rw [hW0]; exact h
    have HW0 := hide hW0
    have F0 := hide f0
    have B0 := hide b0
    have B1 := hide b1
    have hs0 : W0.heap.size = w.heap.size + 2 := by rw [hW0]; simp
    have CA1 := hide (CAT.out W0 f0 hs0)
    have HS0 := hide hs0
    clear hW0 f0 b0 b1 CAT hs0
    go_wp2_with fail
    rw [← HW0.out]
    refine CA1.out.mono ?_
    rintro e w2 ⟨va2, vc2, ba, j, bc, rfl, K', hK', hat⟩
    have g0 := fr_heap B0.out hat.fr (fun e => by have e : w.heap.size = wb := e; omega)
    have g1 := fr_heap B1.out hat.fr (fun e => by have e : w.heap.size + 1 = wb := e; omega)
    have kg0 := cell_of_heap g0
    have lg0 := lt_of_heap g0
    have kg1 := cell_of_heap g1
    have zg1 := frozen_of_heap g1
    have lg1 := lt_of_heap g1
    obtain ⟨kb, bs, xb, ws, xs, _, e1, e2, e3, e4, r1, r2, r3, r4⟩ := hat.fin (fun g hg => HS2.out g (by have := HS0.out; omega))
    subst e1
    have hsz2 : w.heap.size + 2 ≤ w2.heap.size := by have := HS0.out; have := hat.fr.size; omega
    have CAR : Hid (Calls Tryz.prog 66 #[.slice ba bs.length bc, .agg #[.int .i64 5, .int .i64 nd.n, .string nd.name, .string ⟨#[]⟩, .slice none 0 0, .slice va2 nd.args.length vc2, .slice none 0 0]] w2 fun e w' => ∃ kC nC xC yC u0 p0 d0 u1 p1 d1 u2 p2 d2, e = .returned (.agg #[.int .i64 kC, .int .i64 nC, .string xC, .string yC, .slice u0 p0 d0, .slice u1 p1 d1, .slice u2 p2 d2]) ∧ Fr No w2 w' ∧ ∃ k' m', PT k' S' w' [.int .i64 kC, .int .i64 nC, .string xC, .string yC, .slice u0 p0 d0, .slice u1 p1 d1, .slice u2 p2 d2] m' ∧ m' ≤ 1 + 4 * nd.args.sum) := by
      have pt := mk_pt (k := k + 1) (S := S') (w := w2) (kd := 5) (n := nd.n) (x := nd.name) (av := .slice va2 nd.args.length vc2) (cv := .slice none 0 0) (xs := xs) (ys := []) (ws := ws) (cl := []) (by decide) (fun h => absurd h (by decide)) HNM.out.1 HNM.out.2 (by rw [e2]; exact r3) r4 ⟨none, 0, rfl, Nat.le_refl _, Nat.zero_le _, fun h => absurd h (by simp)⟩ rfl
      refine (around_any kb (kb + (k + 1 + 1)) _ (Nat.le_add_right _ _) S' w2 _ xb _ bs (fun g hg => HS2.out g (by omega)) r1 r2 (pt.upTo (Nat.le_add_left _ _)) (by have := HKK.out; have := HWT.out; omega)).mono fun e w' ⟨cs', he, hf, hp⟩ => ?_
      obtain ⟨kC, nC, xC, yC, u0, p0, d0, u1, p1, d1, u2, p2, d2, rfl⟩ := hp.form
      exact ⟨kC, nC, xC, yC, u0, p0, d0, u1, p1, d1, u2, p2, d2, he, hf, _, _, hp, by simp only [List.map_nil, List.sum_nil, Nat.add_zero]; omega⟩
    have HAT := hide (And.intro hat.fr hat.nbx)
    have G1 := hide g1
    have HK' := hide hK'
    clear hat g0 g1 CA1 r1 r2 r3 r4 e2 e3 e4 hK'
    go_wp2_with fail
    refine CAR.out.mono ?_
    rintro e w3 ⟨kC, nC, xC, yC, u0, p0, d0, u1, p1, d1, u2, p2, d2, rfl, hf3, k', m', hp, hm⟩
    have g1 := fr_heap G1.out hf3 (fun e => e)
    have kg3 := cell_of_heap g1
    have zg3 := frozen_of_heap g1
    have lg3 := lt_of_heap g1
    have G3 := hide g1
    have F3 := hide hf3
    have HP := hide (And.intro hp hm)
    clear hp hm hf3 g1 kg1 zg1 CAR
    go_wp2_with fail
    obtain ⟨s1, s2⟩ := set7 G3.out (.int .i64 kC) (.int .i64 nC) (.string xC) (.string yC) (.slice u0 p0 d0) (.slice u1 p1 d1) (.slice u2 p2 d2)
    have hnb3 := fr_heap HAT.out.2 F3.out (fun e => e)
    refine bodyPost_ret (retT rfl _ _ (w.heap.size + 1) _ _ _ _ _ _ _ (0, 0) rfl s1) rfl ⟨_, rfl, ?_, ⟨K', fr_heap hnb3 s2 (fun e => by have e : wb = w.heap.size + 1 := e; omega), ?_⟩, k', m', ?_, ?_⟩
    · exact ((F0.out.mono fun _ _ e => e.elim).trans (HAT.out.1.trans (F3.out.mono fun _ _ e => e.elim))).trans' s2 (fun q hq e => by have e : q = w.heap.size + 1 := e; omega)
    · have := HK'.out; have := HWT.out; omega
    · exact HP.out.1.kept (stays_fr s2 (fun g hg _ e => (HSE.out g hg).2 e) (fun g hg => (HSE.out g hg).1))
    · have := HP.out.2; have := HWT.out; omega
end Go.Proofs.YtomahbdidlglfacGreatDoor

/- The document's Plain terms, walked: a let. -/
namespace Go.Proofs.YtomahbdidlglfacGreatDoor
open Go.RowKit Go.Maps Go.WideMaps

/-- Two loads, by names of their own: a walk takes them as they come up. -/
def ldLa : Op := Op.load 29 (.tmp 48)
def ldLb : Op := Op.load 32 (.tmp 50)
theorem ldLa_eq : ldLa = Op.load 29 (.tmp 48) := rfl
theorem ldLb_eq : ldLb = Op.load 32 (.tmp 50) := rfl
attribute [local go_sem] ldLa_eq ldLb_eq

set_option maxRecDepth 100000 in
set_option maxHeartbeats 8000000 in
theorem wterm_let (k : Nat) (ih : WTerm k) (wb K : Nat) (S : Nat → Prop) (w : World) (cs : List Value) (nd : Pu.Node Nat) (hS : ∀ g, w.heap.size ≤ g → S g) (hSn : ¬ S wb) (hn : w.heap[wb]? = some (.cells #[.int .i64 (K : Int)] 71 (0, 0))) (h3 : 3 ≤ wb) (henv : Env w) (hr : RNP (PT k S w) S w cs nd) (hk : nd.kind = 6) (ha : nd.args.length = 2) (hK : K + wtN nd ≤ 1073741824) :
    Calls Tryz.prog 36 #[.pointer (some ⟨wb, 0, none⟩), .agg cs.toArray] w fun e w' => ∃ cs', e = .returned (.agg cs'.toArray) ∧ Fr (· = wb) w w' ∧ (∃ K' : Nat, w'.heap[wb]? = some (.cells #[.int .i64 (K' : Int)] 71 (0, 0)) ∧ K' + 1 ≤ K + wtN nd) ∧ ∃ k' m', PT k' S w' cs' m' ∧ m' + 2 ≤ 4 * wtN nd := by
  obtain ⟨vv, av, cv, acs, ccs, rfl, hnm, hwf, h4, h5, h6, h7, h8⟩ := hr
  obtain ⟨va, vc, rfl, _, _⟩ := h4.1.form
  obtain ⟨ca, cc, rfl, hcc1, hcc2⟩ := h7.form
  have hnw := lt_of_heap hn
  have hwt : wtN nd = 1 + nd.vars.length + nd.args.sum + (nd.cases.map fun c => 1 + c.2.1.length + c.2.2).sum := rfl
  obtain ⟨ma, mb, hab⟩ : ∃ ma mb, nd.args = [ma, mb] := by
    match hh : nd.args, ha with
    | [a, b], _ => exact ⟨a, b, rfl⟩
  rw [hab] at h5 h6 hwt
  obtain ⟨g, o, ac0, cka, hv, hacm, hSg, hgl, hla, hpa, hca⟩ := h5.el h6 0 (by simp)
  obtain ⟨g', o', ac0', ckb, hv', _, _, _, hlb, hpb, hcb⟩ := h5.el h6 1 (by simp)
  rw [hv] at hv'
  injection hv' with e1 _ e2
  injection e1 with e1
  injection e1 with e1 e3
  subst e1 e3 e2 hv
  obtain ⟨kA, nA, xA, yA, a0, m0, c0, a1, m1, c1, a2, m2, c2, rfl⟩ := hpa.form
  obtain ⟨kB, nB, xB, yB, b0, p0, d0, b1, p1, d1, b2, p2, d2, rfl⟩ := hpb.form
  have hca0 : ∀ j, j < 7 → w.cell? ⟨g, o + j, none⟩ = [.int .i64 kA, .int .i64 nA, .string xA, .string yA, .slice a0 m0 c0, .slice a1 m1 c1, .slice a2 m2 c2][j]? := fun j hj => by have := hca j hj; rwa [Nat.zero_mul, Nat.add_zero] at this
  have hcb0 : ∀ j, j < 7 → w.cell? ⟨g, o + 7 + j, none⟩ = [.int .i64 kB, .int .i64 nB, .string xB, .string yB, .slice b0 p0 d0, .slice b1 p1 d1, .slice b2 p2 d2][j]? := fun j hj => by have := hcb j hj; rwa [Nat.one_mul] at this
  have hpa0 : PT k S w [.int .i64 kA, .int .i64 nA, .string xA, .string yA, .slice a0 m0 c0, .slice a1 m1 c1, .slice a2 m2 c2] ma := hpa
  have hpb0 : PT k S w [.int .i64 kB, .int .i64 nB, .string xB, .string yB, .slice b0 p0 d0, .slice b1 p1 d1, .slice b2 p2 d2] mb := hpb
  have hgb : g ≠ wb := fun e => hSn (e ▸ hSg)
  clear hca hcb hpa hpb h5 h6 ha h7 h8 h4
  have hwt2 : wtN nd = 1 + nd.vars.length + (ma + mb) + (nd.cases.map fun c => 1 + c.2.1.length + c.2.2).sum := by rw [hwt]; simp
  obtain ⟨S', hS'⟩ : ∃ S' : Nat → Prop, S' = fun g => S g ∧ g ≠ w.heap.size + 1 := ⟨_, rfl⟩
  have HS2 : Hid (∀ g, w.heap.size + 2 ≤ g → S' g) := fun g hg => by rw [hS']; exact ⟨hS g (by omega), by omega⟩
  have HSE : Hid (∀ g, S' g → S g ∧ g ≠ w.heap.size + 1) := fun g hg => by rw [hS'] at hg; exact hg
  have st1 : ∀ W, Fr (· = wb) w W → Stays S S' w W := fun W hW => ⟨hW.size, fun g hg hl => ⟨by rw [hS']; exact ⟨hg, by omega⟩, hW.block g hl (fun e => hSn (by have e : g = wb := e; rw [← e]; exact hg))⟩⟩
  have CT : Hid (∀ W K2 kB nB xB yB b0 p0 d0 b1 p1 d1 b2 p2 d2 m, Fr (· = wb) w W → w.heap.size + 2 ≤ W.heap.size → W.heap[wb]? = some (.cells #[.int .i64 ((K2 : Nat) : Int)] 71 (0, 0)) → PT k S' W [.int .i64 kB, .int .i64 nB, .string xB, .string yB, .slice b0 p0 d0, .slice b1 p1 d1, .slice b2 p2 d2] m → K2 + m ≤ 1073741824 → Calls Tryz.prog 36 #[.pointer (some ⟨wb, 0, none⟩), .agg #[.int .i64 kB, .int .i64 nB, .string xB, .string yB, .slice b0 p0 d0, .slice b1 p1 d1, .slice b2 p2 d2]] W fun e w' => ∃ kC nC xC yC r0 q0 e0 r1 q1 e1 r2 q2 e2, e = .returned (.agg #[.int .i64 kC, .int .i64 nC, .string xC, .string yC, .slice r0 q0 e0, .slice r1 q1 e1, .slice r2 q2 e2]) ∧ Fr (· = wb) W w' ∧ (∃ K' : Nat, w'.heap[wb]? = some (.cells #[.int .i64 (K' : Int)] 71 (0, 0)) ∧ K' + 1 ≤ K2 + m) ∧ ∃ k' m', PT k' S' w' [.int .i64 kC, .int .i64 nC, .string xC, .string yC, .slice r0 q0 e0, .slice r1 q1 e1, .slice r2 q2 e2] m' ∧ m' + 2 ≤ 4 * m) := fun W K2 kB nB xB yB b0 p0 d0 b1 p1 d1 b2 p2 d2 m hW hz hb hp hk => by
    refine (ih wb K2 S' W _ m (fun g hg => HS2.out g (by omega)) (fun h => hSn (HSE.out _ h).1) hb h3 (henv.fr hW (by omega) (fun q hq e => by have e : q = wb := e; omega)) hp hk).mono fun e w' ⟨cs', he, hf, hK', k', m', hp', hm'⟩ => ?_
    obtain ⟨kC, nC, xC, yC, r0, q0, e0, r1, q1, e1, r2, q2, e2, rfl⟩ := hp'.form
    exact ⟨kC, nC, xC, yC, r0, q0, e0, r1, q1, e1, r2, q2, e2, he, hf, hK', k', m', hp', hm'⟩
  obtain ⟨W0, hW0⟩ : ∃ W0, W0 = ((w.alloc (.cells #[.int .i64 6, .int .i64 nd.n, .string nd.name, .string nd.token, .slice va nd.vars.length vc, .slice (some ⟨g, o, none⟩) 2 ac0, .slice ca nd.cases.length cc] 32)).alloc (.cells tz 32)) := ⟨_, rfl⟩
  have f0 : Fr (· = wb) w W0 := by rw [hW0]; exact ((Fr.refl _ w).alloc _).alloc _
  have b0' : W0.heap[w.heap.size]? = some (.cells #[.int .i64 6, .int .i64 nd.n, .string nd.name, .string nd.token, .slice va nd.vars.length vc, .slice (some ⟨g, o, none⟩) 2 ac0, .slice ca nd.cases.length cc] 32 (0, 0)) := by rw [hW0]; exact fr_heap (heap_alloc_new w _) ((Fr.refl No _).alloc _) (fun e => e)
  have b1' : W0.heap[w.heap.size + 1]? = some (.cells tz 32 (0, 0)) := by
    have h := heap_alloc_new (w.alloc (.cells #[.int .i64 6, .int .i64 nd.n, .string nd.name, .string nd.token, .slice va nd.vars.length vc, .slice (some ⟨g, o, none⟩) 2 ac0, .slice ca nd.cases.length cc] 32)) (.cells tz 32)
    rw [World.size_alloc] at h
    rw [hW0]; exact h
  have hnb0 : W0.heap[wb]? = some (.cells #[.int .i64 (K : Int)] 71 (0, 0)) := by rw [hW0]; exact fr_heap hn (((Fr.refl No w).alloc _).alloc _) (fun e => e)
  have hs0 : W0.heap.size = w.heap.size + 2 := by rw [hW0]; simp
  have CA1 := hide (CT.out W0 K kA nA xA yA a0 m0 c0 a1 m1 c1 a2 m2 c2 ma f0 (by omega) hnb0 (hpa0.kept (st1 W0 f0)) (by omega))
  have CB1 : Hid (∀ W, Fr (· = wb) w W → PT k S' W [.int .i64 kB, .int .i64 nB, .string xB, .string yB, .slice b0 p0 d0, .slice b1 p1 d1, .slice b2 p2 d2] mb) := fun W hW => hpb0.kept (st1 W hW)
  have SCF : Hid (∀ W, Fr (· = wb) w W → ∀ j, j < 7 → W.cell? ⟨g, o + 7 + j, none⟩ = [.int .i64 kB, .int .i64 nB, .string xB, .string yB, .slice b0 p0 d0, .slice b1 p1 d1, .slice b2 p2 d2][j]?) := fun W hW j hj => by rw [show W.cell? ⟨g, o + 7 + j, none⟩ = w.cell? ⟨g, o + 7 + j, none⟩ from by simp only [World.cell?, hW.block g hgl (fun e => hgb (by have e : g = wb := e; exact e))]]; exact hcb0 j hj
  have qa0 : W0.cell? ⟨g, o, none⟩ = some (.int .i64 kA) := by rw [show W0.cell? ⟨g, o, none⟩ = w.cell? ⟨g, o, none⟩ from by simp only [World.cell?, f0.block g hgl (fun e => hgb (by have e : g = wb := e; exact e))]]; exact hca0 0 (by omega)
  have HSN := hide hSn
  have HNM := hide (And.intro hnm hwf)
  have HWT := hide hwt2
  have HKK := hide hK
  have HW0 := hide hW0
  have F0 := hide f0
  have B0 := hide b0'
  have B1 := hide b1'
  have HS0 := hide hs0
  have HQA : Hid (∀ j, j < 7 → w.cell? ⟨g, o + j, none⟩ = [.int .i64 kA, .int .i64 nA, .string xA, .string yA, .slice a0 m0 c0, .slice a1 m1 c1, .slice a2 m2 c2][j]?) := hca0
  clear hwt hwt2 hK hnm hwf hSn hS hS' st1 hpa0 hpb0 hca0 hcb0 hW0 f0 b0' b1' hs0 hnb0 henv ih hn hSg qa0
  have qa0 : w.cell? ⟨g, o, none⟩ = some (.int .i64 kA) := HQA.out 0 (by omega)
  have qa1 := HQA.out 1 (by omega)
  have qa2 := HQA.out 2 (by omega)
  have qa3 := HQA.out 3 (by omega)
  have qa4 := HQA.out 4 (by omega)
  have qa5 := HQA.out 5 (by omega)
  have qa6 := HQA.out 6 (by omega)
  have hal : nd.args.length = 2 := by rw [hab]; rfl
  rw [hk]
  clear hab hk
  show Calls Tryz.prog 36 #[.pointer (some ⟨wb, 0, none⟩), .agg #[.int .i64 6, .int .i64 nd.n, .string nd.name, .string nd.token, .slice va nd.vars.length vc, .slice (some ⟨g, o, none⟩) 2 ac0, .slice ca nd.cases.length cc]] w _
  go_enter Tryz.func36, Tryz.ntmps36
  go_wp2_with fail
  rw [← HW0.out]
  refine CA1.out.mono ?_
  rintro e w2 ⟨kC, nC, xC, yC, r0, q0, e0, r1, q1, e1, r2, q2, e2, rfl, hf2, ⟨K2, hb2, hK2⟩, k1, m1', hp2, hm2⟩
  have fw2 : Fr (· = wb) w w2 := F0.out.trans hf2
  have hz2 : w.heap.size + 2 ≤ w2.heap.size := by have := HS0.out; have := hf2.size; omega
  have g0 := fr_heap B0.out hf2 (fun e => by have e : w.heap.size = wb := e; omega)
  have g1 := fr_heap B1.out hf2 (fun e => by have e : w.heap.size + 1 = wb := e; omega)
  have kg0 := cell_of_heap g0
  have lg0 := lt_of_heap g0
  have G1 := hide g1
  have FW2 := hide fw2
  have P2 := hide (And.intro hp2 (And.intro hm2 hK2))
  obtain ⟨W1, hW1⟩ : ∃ W1, W1 = w2.alloc (.cells #[.int .i64 kC, .int .i64 nC, .string xC, .string yC, .slice r0 q0 e0, .slice r1 q1 e1, .slice r2 q2 e2] 32) := ⟨_, rfl⟩
  have f1 : Fr No w2 W1 := by rw [hW1]; exact (Fr.refl No w2).alloc _
  have fw1 : Fr (· = wb) w W1 := fw2.trans (f1.mono fun _ _ e => e.elim)
  have ga := heap_alloc_new w2 (.cells #[.int .i64 kC, .int .i64 nC, .string xC, .string yC, .slice r0 q0 e0, .slice r1 q1 e1, .slice r2 q2 e2] 32)
  rw [← hW1] at ga
  have hb1 := fr_heap hb2 f1 (fun e => e)
  have g01 := fr_heap g0 f1 (fun e => e)
  have g11 := fr_heap g1 f1 (fun e => e)
  have hz1 : w.heap.size + 2 ≤ W1.heap.size := by have := f1.size; omega
  have CTB := hide (CT.out W1.drew K2 kB nB xB yB b0 p0 d0 b1 p1 d1 b2 p2 d2 mb fw1.drew hz1 hb1 (CB1.out W1.drew fw1.drew) (by have := HKK.out; have := HWT.out; omega))
  have SCX : Hid (∀ W, Fr (· = wb) W1 W → (W.cell? ⟨w.heap.size, 2, none⟩ = some (.string nd.name) ∧ W.cell? ⟨w2.heap.size, 0, none⟩ = some (.int .i64 kC) ∧ W.cell? ⟨w2.heap.size, 1, none⟩ = some (.int .i64 nC) ∧ W.cell? ⟨w2.heap.size, 2, none⟩ = some (.string xC) ∧ W.cell? ⟨w2.heap.size, 3, none⟩ = some (.string yC) ∧ W.cell? ⟨w2.heap.size, 4, none⟩ = some (.slice r0 q0 e0) ∧ W.cell? ⟨w2.heap.size, 5, none⟩ = some (.slice r1 q1 e1) ∧ W.cell? ⟨w2.heap.size, 6, none⟩ = some (.slice r2 q2 e2))) := fun W hW => by
    have c1 := cell_of_heap (fr_heap g01 hW (fun e => by have e : w.heap.size = wb := e; omega))
    have c2 := cell_of_heap (fr_heap ga hW (fun e => by have e : w2.heap.size = wb := e; omega))
    exact ⟨c1 2, c2 0, c2 1, c2 2, c2 3, c2 4, c2 5, c2 6⟩
  have HZ : Hid (W1.drew.cell? ⟨w.heap.size, 2, none⟩ = some (.string nd.name) ∧ W1.drew.cell? ⟨w2.heap.size, 0, none⟩ = some (.int .i64 kC) ∧ W1.drew.cell? ⟨w2.heap.size, 1, none⟩ = some (.int .i64 nC) ∧ W1.drew.cell? ⟨w2.heap.size, 2, none⟩ = some (.string xC) ∧ W1.drew.cell? ⟨w2.heap.size, 3, none⟩ = some (.string yC) ∧ W1.drew.cell? ⟨w2.heap.size, 4, none⟩ = some (.slice r0 q0 e0) ∧ W1.drew.cell? ⟨w2.heap.size, 5, none⟩ = some (.slice r1 q1 e1) ∧ W1.drew.cell? ⟨w2.heap.size, 6, none⟩ = some (.slice r2 q2 e2)) := SCX.out _ (Fr.refl _ W1).drew
  have hn1 : w.heap.size ≠ w.heap.size + 1 := by omega
  have hn2 : w2.heap.size ≠ w.heap.size + 1 := by omega
  have KC : Hid (∀ (W : World) (u0 u1 u2 u3 u4 u5 u6 : Value), (W.cell? ⟨w.heap.size, 2, none⟩ = some (.string nd.name) ∧ W.cell? ⟨w2.heap.size, 0, none⟩ = some (.int .i64 kC) ∧ W.cell? ⟨w2.heap.size, 1, none⟩ = some (.int .i64 nC) ∧ W.cell? ⟨w2.heap.size, 2, none⟩ = some (.string xC) ∧ W.cell? ⟨w2.heap.size, 3, none⟩ = some (.string yC) ∧ W.cell? ⟨w2.heap.size, 4, none⟩ = some (.slice r0 q0 e0) ∧ W.cell? ⟨w2.heap.size, 5, none⟩ = some (.slice r1 q1 e1) ∧ W.cell? ⟨w2.heap.size, 6, none⟩ = some (.slice r2 q2 e2)) → ((((((((W.setCell ⟨w.heap.size + 1, 0, none⟩ u0).setCell ⟨w.heap.size + 1, 1, none⟩ u1).setCell ⟨w.heap.size + 1, 2, none⟩ u2).setCell ⟨w.heap.size + 1, 3, none⟩ u3).setCell ⟨w.heap.size + 1, 4, none⟩ u4).setCell ⟨w.heap.size + 1, 5, none⟩ u5).setCell ⟨w.heap.size + 1, 6, none⟩ u6).cell? ⟨w.heap.size, 2, none⟩ = some (.string nd.name) ∧ (((((((W.setCell ⟨w.heap.size + 1, 0, none⟩ u0).setCell ⟨w.heap.size + 1, 1, none⟩ u1).setCell ⟨w.heap.size + 1, 2, none⟩ u2).setCell ⟨w.heap.size + 1, 3, none⟩ u3).setCell ⟨w.heap.size + 1, 4, none⟩ u4).setCell ⟨w.heap.size + 1, 5, none⟩ u5).setCell ⟨w.heap.size + 1, 6, none⟩ u6).cell? ⟨w2.heap.size, 0, none⟩ = some (.int .i64 kC) ∧ (((((((W.setCell ⟨w.heap.size + 1, 0, none⟩ u0).setCell ⟨w.heap.size + 1, 1, none⟩ u1).setCell ⟨w.heap.size + 1, 2, none⟩ u2).setCell ⟨w.heap.size + 1, 3, none⟩ u3).setCell ⟨w.heap.size + 1, 4, none⟩ u4).setCell ⟨w.heap.size + 1, 5, none⟩ u5).setCell ⟨w.heap.size + 1, 6, none⟩ u6).cell? ⟨w2.heap.size, 1, none⟩ = some (.int .i64 nC) ∧ (((((((W.setCell ⟨w.heap.size + 1, 0, none⟩ u0).setCell ⟨w.heap.size + 1, 1, none⟩ u1).setCell ⟨w.heap.size + 1, 2, none⟩ u2).setCell ⟨w.heap.size + 1, 3, none⟩ u3).setCell ⟨w.heap.size + 1, 4, none⟩ u4).setCell ⟨w.heap.size + 1, 5, none⟩ u5).setCell ⟨w.heap.size + 1, 6, none⟩ u6).cell? ⟨w2.heap.size, 2, none⟩ = some (.string xC) ∧ (((((((W.setCell ⟨w.heap.size + 1, 0, none⟩ u0).setCell ⟨w.heap.size + 1, 1, none⟩ u1).setCell ⟨w.heap.size + 1, 2, none⟩ u2).setCell ⟨w.heap.size + 1, 3, none⟩ u3).setCell ⟨w.heap.size + 1, 4, none⟩ u4).setCell ⟨w.heap.size + 1, 5, none⟩ u5).setCell ⟨w.heap.size + 1, 6, none⟩ u6).cell? ⟨w2.heap.size, 3, none⟩ = some (.string yC) ∧ (((((((W.setCell ⟨w.heap.size + 1, 0, none⟩ u0).setCell ⟨w.heap.size + 1, 1, none⟩ u1).setCell ⟨w.heap.size + 1, 2, none⟩ u2).setCell ⟨w.heap.size + 1, 3, none⟩ u3).setCell ⟨w.heap.size + 1, 4, none⟩ u4).setCell ⟨w.heap.size + 1, 5, none⟩ u5).setCell ⟨w.heap.size + 1, 6, none⟩ u6).cell? ⟨w2.heap.size, 4, none⟩ = some (.slice r0 q0 e0) ∧ (((((((W.setCell ⟨w.heap.size + 1, 0, none⟩ u0).setCell ⟨w.heap.size + 1, 1, none⟩ u1).setCell ⟨w.heap.size + 1, 2, none⟩ u2).setCell ⟨w.heap.size + 1, 3, none⟩ u3).setCell ⟨w.heap.size + 1, 4, none⟩ u4).setCell ⟨w.heap.size + 1, 5, none⟩ u5).setCell ⟨w.heap.size + 1, 6, none⟩ u6).cell? ⟨w2.heap.size, 5, none⟩ = some (.slice r1 q1 e1) ∧ (((((((W.setCell ⟨w.heap.size + 1, 0, none⟩ u0).setCell ⟨w.heap.size + 1, 1, none⟩ u1).setCell ⟨w.heap.size + 1, 2, none⟩ u2).setCell ⟨w.heap.size + 1, 3, none⟩ u3).setCell ⟨w.heap.size + 1, 4, none⟩ u4).setCell ⟨w.heap.size + 1, 5, none⟩ u5).setCell ⟨w.heap.size + 1, 6, none⟩ u6).cell? ⟨w2.heap.size, 6, none⟩ = some (.slice r2 q2 e2))) := fun W u0 u1 u2 u3 u4 u5 u6 h => ⟨by rw [cell_off hn1, cell_off hn1, cell_off hn1, cell_off hn1, cell_off hn1, cell_off hn1, cell_off hn1]; exact h.1, by rw [cell_off hn2, cell_off hn2, cell_off hn2, cell_off hn2, cell_off hn2, cell_off hn2, cell_off hn2]; exact h.2.1, by rw [cell_off hn2, cell_off hn2, cell_off hn2, cell_off hn2, cell_off hn2, cell_off hn2, cell_off hn2]; exact h.2.2.1, by rw [cell_off hn2, cell_off hn2, cell_off hn2, cell_off hn2, cell_off hn2, cell_off hn2, cell_off hn2]; exact h.2.2.2.1, by rw [cell_off hn2, cell_off hn2, cell_off hn2, cell_off hn2, cell_off hn2, cell_off hn2, cell_off hn2]; exact h.2.2.2.2.1, by rw [cell_off hn2, cell_off hn2, cell_off hn2, cell_off hn2, cell_off hn2, cell_off hn2, cell_off hn2]; exact h.2.2.2.2.2.1, by rw [cell_off hn2, cell_off hn2, cell_off hn2, cell_off hn2, cell_off hn2, cell_off hn2, cell_off hn2]; exact h.2.2.2.2.2.2.1, by rw [cell_off hn2, cell_off hn2, cell_off hn2, cell_off hn2, cell_off hn2, cell_off hn2, cell_off hn2]; exact h.2.2.2.2.2.2.2⟩
  have SAL : Hid (∀ (W : World) o', (W.cell? ⟨w.heap.size, 2, none⟩ = some (.string nd.name) ∧ W.cell? ⟨w2.heap.size, 0, none⟩ = some (.int .i64 kC) ∧ W.cell? ⟨w2.heap.size, 1, none⟩ = some (.int .i64 nC) ∧ W.cell? ⟨w2.heap.size, 2, none⟩ = some (.string xC) ∧ W.cell? ⟨w2.heap.size, 3, none⟩ = some (.string yC) ∧ W.cell? ⟨w2.heap.size, 4, none⟩ = some (.slice r0 q0 e0) ∧ W.cell? ⟨w2.heap.size, 5, none⟩ = some (.slice r1 q1 e1) ∧ W.cell? ⟨w2.heap.size, 6, none⟩ = some (.slice r2 q2 e2)) → ((W.alloc o').cell? ⟨w.heap.size, 2, none⟩ = some (.string nd.name) ∧ (W.alloc o').cell? ⟨w2.heap.size, 0, none⟩ = some (.int .i64 kC) ∧ (W.alloc o').cell? ⟨w2.heap.size, 1, none⟩ = some (.int .i64 nC) ∧ (W.alloc o').cell? ⟨w2.heap.size, 2, none⟩ = some (.string xC) ∧ (W.alloc o').cell? ⟨w2.heap.size, 3, none⟩ = some (.string yC) ∧ (W.alloc o').cell? ⟨w2.heap.size, 4, none⟩ = some (.slice r0 q0 e0) ∧ (W.alloc o').cell? ⟨w2.heap.size, 5, none⟩ = some (.slice r1 q1 e1) ∧ (W.alloc o').cell? ⟨w2.heap.size, 6, none⟩ = some (.slice r2 q2 e2))) := fun W o' h => ⟨cell_allocA o' h.1, cell_allocA o' h.2.1, cell_allocA o' h.2.2.1, cell_allocA o' h.2.2.2.1, cell_allocA o' h.2.2.2.2.1, cell_allocA o' h.2.2.2.2.2.1, cell_allocA o' h.2.2.2.2.2.2.1, cell_allocA o' h.2.2.2.2.2.2.2⟩
  have qb0 : W1.cell? ⟨g, o + 7, none⟩ = some (.int .i64 kB) := SCF.out W1 fw1 0 (by omega)
  have qb1 := SCF.out W1 fw1 1 (by omega)
  have qb2 := SCF.out W1 fw1 2 (by omega)
  have qb3 := SCF.out W1 fw1 3 (by omega)
  have qb4 := SCF.out W1 fw1 4 (by omega)
  have qb5 := SCF.out W1 fw1 5 (by omega)
  have qb6 := SCF.out W1 fw1 6 (by omega)
  have k01 := cell_of_heap g01
  have l01 := lt_of_heap g01
  have k0a := cell_of_heap ga
  have l0a := lt_of_heap ga
  have HGA := hide ga
  have G11 := hide g11
  have FW1 := hide fw1
  have F1 := hide f1
  have HW1 := hide hW1
  clear qa0 qa1 qa2 qa3 qa4 qa5 qa6 hp2 hm2 hK2 fw2 hf2 hb2 g0 g1 CT CA1 CB1 ga g01 g11 fw1 f1 hW1 hb1 kg0 lg0
  go_wp2_with fail
  rw [← HW1.out]
  rw [show Op.load 29 (.tmp 48) = ldLa from rfl, show Op.load 32 (.tmp 50) = ldLb from rfl]
  go_region_held3 (fun w' : World => w'.cell? ⟨w.heap.size, 2, none⟩ = some (.string nd.name) ∧ w'.cell? ⟨w2.heap.size, 0, none⟩ = some (.int .i64 kC) ∧ w'.cell? ⟨w2.heap.size, 1, none⟩ = some (.int .i64 nC) ∧ w'.cell? ⟨w2.heap.size, 2, none⟩ = some (.string xC) ∧ w'.cell? ⟨w2.heap.size, 3, none⟩ = some (.string yC) ∧ w'.cell? ⟨w2.heap.size, 4, none⟩ = some (.slice r0 q0 e0) ∧ w'.cell? ⟨w2.heap.size, 5, none⟩ = some (.slice r1 q1 e1) ∧ w'.cell? ⟨w2.heap.size, 6, none⟩ = some (.slice r2 q2 e2)) (first | with_reducible assumption | with_reducible exact HZ.out | with_reducible exact KC.out _ _ _ _ _ _ _ _ (by first | with_reducible assumption | with_reducible exact HZ.out) | with_reducible exact SAL.out _ _ (by first | with_reducible assumption | with_reducible exact HZ.out | with_reducible exact KC.out _ _ _ _ _ _ _ _ (by first | with_reducible assumption | with_reducible exact HZ.out)))
    (first
    | (go_at_call 36; refine CTB.out.mono ?_; rintro e w3 ⟨kD, nD, xD, yD, s0, u0, f0, s1, u1, f1, s2, u2, f2, rfl, hf3, ⟨K3, hb3, hK3⟩, k2, m2', hp3, hm3⟩; have hz3 := SCX.out w3 ((Fr.refl (· = wb) W1).drew.trans hf3); have F3 := hide hf3; have P3 := hide (And.intro hp3 (And.intro hm3 (And.intro hb3 hK3))); have G3 := hide (fr_heap (w := W1.drew) G11.out hf3 (fun e => by have e : w.heap.size + 1 = wb := e; omega)); have kg3 := cell_of_heap G3.out; have kz3 := frozen_of_heap G3.out; have kl3 := lt_of_heap G3.out; clear hf3 hp3 hm3 hb3 hK3))
  all_goals
    obtain ⟨t1, t2⟩ := set7 G3.out (.int .i64 6) (.int .i64 0) (.string nd.name) (.string ⟨#[]⟩) (.slice none 0 0) (.slice (some ⟨w3.heap.size, 0, none⟩) 2 2) (.slice none 0 0)
    obtain ⟨Z, hZ⟩ : ∃ Z, Z = (((((((w3.setCell ⟨w.heap.size + 1, 0, none⟩ (.int .i64 6)).setCell ⟨w.heap.size + 1, 1, none⟩ (.int .i64 0)).setCell ⟨w.heap.size + 1, 2, none⟩ (.string nd.name)).setCell ⟨w.heap.size + 1, 3, none⟩ (.string ⟨#[]⟩)).setCell ⟨w.heap.size + 1, 4, none⟩ (.slice none 0 0)).setCell ⟨w.heap.size + 1, 5, none⟩ (.slice (some ⟨w3.heap.size, 0, none⟩) 2 2)).setCell ⟨w.heap.size + 1, 6, none⟩ (.slice none 0 0)) := ⟨_, rfl⟩
    rw [← hZ] at t1 t2 ⊢
    have hzs : Z.heap.size = w3.heap.size := by rw [hZ]; simp [World.setCell]
    clear hZ
    have fz : Fr No Z (Z.alloc (.cells #[.int .i64 kC, .int .i64 nC, .string xC, .string yC, .slice r0 q0 e0, .slice r1 q1 e1, .slice r2 q2 e2, .int .i64 kD, .int .i64 nD, .string xD, .string yD, .slice s0 u0 f0, .slice s1 u1 f1, .slice s2 u2 f2] 32)) := (Fr.refl No Z).alloc _
    have hnew := heap_alloc_new Z (.cells #[.int .i64 kC, .int .i64 nC, .string xC, .string yC, .slice r0 q0 e0, .slice r1 q1 e1, .slice r2 q2 e2, .int .i64 kD, .int .i64 nD, .string xD, .string yD, .slice s0 u0 f0, .slice s1 u1 f1, .slice s2 u2 f2] 32)
    rw [hzs] at hnew
    obtain ⟨V, hV⟩ : ∃ V, V = Z.alloc (.cells #[.int .i64 kC, .int .i64 nC, .string xC, .string yC, .slice r0 q0 e0, .slice r1 q1 e1, .slice r2 q2 e2, .int .i64 kD, .int .i64 nD, .string xD, .string yD, .slice s0 u0 f0, .slice s1 u1 f1, .slice s2 u2 f2] 32) := ⟨_, rfl⟩
    rw [← hV] at fz hnew ⊢
    clear hV
    have tV := fr_heap t1 fz (fun e => e)
    have HTV := hide tV
    have kgV := cell_of_heap tV
    have zgV := frozen_of_heap tV
    have lgV := lt_of_heap tV
    have hnbV : V.heap[wb]? = some (.cells #[.int .i64 (K3 : Int)] 71 (0, 0)) := fr_heap (fr_heap P3.out.2.2.1 t2 (fun e => by have e : wb = w.heap.size + 1 := e; omega)) fz (fun e => e)
    have f3V : Fr (· = w.heap.size + 1) w3 V := t2.trans (fz.mono fun _ _ e => e.elim)
    have st3 : Stays S' S' w3 V := stays_fr f3V (fun g hg _ e => (HSE.out g hg).2 e) (fun _ h => h)
    have st2 : Stays S' S' w2 w3 := stays_fr ((F1.out.mono fun _ _ e => e.elim).trans ((Fr.refl (· = wb) W1).drew.trans F3.out)) (fun g hg _ e => HSN.out (by have e : g = wb := e; rw [← e]; exact (HSE.out g hg).1)) (fun _ h => h)
    have hz3' : w.heap.size + 2 ≤ w3.heap.size := Nat.le_trans hz1 F3.out.size
    have hlet := let_pt (((P2.out.1.kept st2).kept st3).upTo (Nat.le_add_right k1 k2)) ((P3.out.1.kept st3).upTo (Nat.le_add_left k2 k1)) HNM.out.1 hnew (HS2.out _ hz3') rfl rfl
    have HLET := hide (And.intro hlet (And.intro hnbV f3V))
    clear tV hnbV f3V st3 st2 hlet t1 t2 fz hnew kg3 kz3 kl3
    go_wp2_with fail
    have fVw : Fr (· = wb) w V := (FW1.out.drew.trans F3.out).trans' HLET.out.2.2 (fun q hq e => by have e : q = w.heap.size + 1 := e; omega)
    refine bodyPost_ret (retT rfl _ _ (w.heap.size + 1) _ _ _ _ _ _ _ (0, 0) rfl HTV.out) rfl ⟨_, rfl, fVw, ⟨K3, HLET.out.2.1, ?_⟩, _, _, HLET.out.1.kept (stays_self fun g hg => (HSE.out g hg).1), ?_⟩
    · have := P2.out.2.2; have := P3.out.2.2.2; have := HWT.out; omega
    · have := P2.out.2.1; have := P3.out.2.1; have := HWT.out; omega
end Go.Proofs.YtomahbdidlglfacGreatDoor
