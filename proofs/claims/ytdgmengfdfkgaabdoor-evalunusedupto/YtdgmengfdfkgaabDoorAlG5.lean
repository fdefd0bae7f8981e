/- The closed fact: the function that 'alive' runs, as plain functions. -/
import Derived.Test.YtdgmengfdfkgaabDoorPm
import Derived.Test.YtdgmengfdfkgaabDoorFaG4
import Derived.Test.YtdgmengfdfkgaabDoorF1
namespace Go.Proofs.YtdgmengfdfkgaabDoor
open Go.RowKit Go.Maps Go.WideMaps

/-- The term (+ x 2), and the function f of x. -/
def addT : Pu.TT 2 := (⟨5, 1, ⟨#[]⟩, ⟨#[]⟩, [], [(⟨1, 0, ⟨#[120]⟩, ⟨#[]⟩, [], [], []⟩ : Pu.Node (Pu.TT 0)), (⟨2, 2, ⟨#[]⟩, ⟨#[]⟩, [], [], []⟩ : Pu.Node (Pu.TT 0))], []⟩ : Pu.Node (Pu.TT 1))
def addF : Pu.Fn 2 := (⟨#[102]⟩, [⟨#[120]⟩], addT)
theorem w5 : RowKit.wrap32 5 = 5 := by first | decide | simp [RowKit.wrap32]
theorem w7 : RowKit.wrap32 (RowKit.wrap64 7) = 7 := by first | decide | simp [RowKit.wrap32, RowKit.wrap64]
theorem call_addF : Pu.call [addF] 9 40 ⟨#[102]⟩ [⟨false, 5, []⟩] 0 = ⟨⟨false, 7, []⟩, 0, 1⟩ := by
  simp [Pu.call, Pu.pick, addF, addT, Pu.ev, Pu.evN, Pu.evOf, Pu.evL, Pu.evPrim, Pu.prim, Pu.num, Pu.Env.bind, w7, List.findIdx?_cons]
theorem nodes_7 : (⟨false, 7, []⟩ : Pu.V).nodes = 1 := by simp [Pu.V.nodes]
theorem run_addF : Pu.run [addF] ⟨#[102]⟩ [5] 9 = (⟨false, 7, []⟩, 0) := by
  have h : ([5] : List Int).map Pu.num = [⟨false, 5, []⟩] := by simp [Pu.num, w5]
  unfold Pu.run
  rw [h, show (9 : Int).toNat = 9 from rfl, call_addF]
  simp [nodes_7]
end Go.Proofs.YtdgmengfdfkgaabDoor

/- The closed fact that is asked first: its text, read. -/
namespace Go.Proofs.YtdgmengfdfkgaabDoor
open Go.RowKit Go.Maps Go.WideMaps

theorem RTS.rt {S : Nat → Prop} {B : Nat} {w : World} (hS : ∀ g, S g → g < B) : ∀ {k : Nat} {cs : List Value} {t : Pu.TT k}, RTS k S w cs t → RT k B w cs t
  | 0, _, _, h => h.elim
  | _ + 1, _, _, h => by
    obtain ⟨vv, av, cv, acs, ccs, h1, h2, h3, h4, h5, h6, h7, h8⟩ := h
    exact ⟨vv, av, cv, acs, ccs, h1, h2, h3, ⟨h4.1.row hS, h4.2⟩, h5.row hS, h6.mono (fun _ _ h => RTS.rt hS h), h7.row hS, h8.mono (fun _ _ h => by
      obtain ⟨vv, b, e1, e2, e3, e4⟩ := h
      exact ⟨vv, b, e1, ⟨e2.1.row hS, e2.2⟩, e3, RTS.rt hS e4⟩)⟩
theorem RFS.fns {S : Nat → Prop} {B K : Nat} {w : World} {v : Value} {cs : List Value} {f : Pu.Fn K} (hS : ∀ g, S g → g < B) (hr : RowS S w v 1 cs) (hc : cs.length = 9) (h : RFS K S w cs f) : Fns K B w v [f] := by
  obtain ⟨pv, b, e1, e2, e3, e4, e5⟩ := h
  exact ⟨cs, hr.row hS, Each.snoc (l := []) (xs := []) hc ⟨pv, b, e1, e2, ⟨e3.1.row hS, e3.2⟩, e4, e5.rt hS⟩ rfl⟩

/-- The text of the function f of x. -/
def addS : ByteArray := ⟨#[40, 102, 110, 32, 102, 32, 40, 120, 41, 32, 40, 43, 32, 120, 32, 50, 41, 41]⟩
theorem add_size : addS.size = 18 := rfl
theorem add_term (pb : Nat) : RdT 2 pb addS 9 17 0 addT :=
  rd_plus 1 pb addS 9 10 11 14 16 16 0 (lname 0 ⟨#[120]⟩) (lnum 0 2) (by rw [add_size]; decide) (by decide +kernel) (by decide +kernel) (by decide +kernel) (by decide +kernel) (by rw [add_size]; decide)
    (rd_name 0 pb addS ⟨#[120]⟩ 12 13 14 1 (by rw [add_size]; decide) (by decide +kernel) (by decide) (by rw [add_size]; decide) (by decide +kernel) (by decide +kernel) number_x (by decide +kernel) (by decide))
    (rd_num 0 pb addS ⟨#[50]⟩ 2 14 15 16 1 (by rw [add_size]; decide) (by decide +kernel) (by decide) (by rw [add_size]; decide) (by decide +kernel) (by decide +kernel) number_2 rfl (by decide))
    (by decide +kernel) (by decide +kernel) (by rw [add_size]; decide) (by decide)
theorem add_one : One addS ⟨#[102]⟩ ⟨#[120]⟩ 2 0 1 4 6 7 8 0 17 17 addT where
  size := by rw [add_size]; decide
  p0 := by decide +kernel
  x0 := by decide +kernel
  p1 := by decide +kernel
  x1 := by decide +kernel
  p2 := by decide +kernel
  x2 := by decide +kernel
  n2 := by decide +kernel
  m2 := by decide
  p3 := by decide +kernel
  x3 := by decide +kernel
  p4 := by decide +kernel
  x4 := by decide +kernel
  n4 := by decide +kernel
  m4 := by decide
  q4 := by decide +kernel
  p5 := by decide +kernel
  x5 := by decide +kernel
  t6 := add_term
  p7 := by decide +kernel
  x7 := by decide +kernel
  p8 := by decide +kernel
  x8 := by decide +kernel

set_option maxRecDepth 100000 in
set_option maxHeartbeats 1000000 in
theorem fns3_any {S nm x : ByteArray} {K b0 b1 b2 b3 b4 b5 b6 c7 b7 : Nat} {t : Pu.TT K} (o : One S nm x K b0 b1 b2 b3 b4 b5 b6 c7 b7 t) (w : World) (henv : Env w) (h3 : 3 ≤ w.heap.size) :
    Calls Tryd.prog 20 #[.string S] w fun e w' => ∃ a cap cs, e = .returned (.slice a 1 cap) ∧ Fr No w w' ∧ RowS (New w w') w' (.slice a 1 cap) 1 cs ∧ cs.length = 9 ∧ RFS K (New w w') w' cs (nm, [x], t) := by
  have C := hide (parse_one o w henv h3)
  clear o henv
  go_enter Tryd.func20, Tryd.ntmps20
  go_wp2_with fail
  refine C.out.mono ?_
  rintro e w1 ⟨v, cs, rfl, hf, hr, hc, hrf⟩
  obtain ⟨a, cap, rfl, _, _⟩ := hr.form
  have H := hide (And.intro hf (And.intro hr (And.intro hc hrf)))
  clear hf hr hc hrf
  go_wp2_with fail
  go_ret
  exact ⟨a, cap, cs, rfl, H.out⟩

set_option maxRecDepth 100000 in
set_option maxHeartbeats 1000000 in
theorem alive_any : AliveC := by
  intro w henv h3
  have CF := hide (fns3_any add_one w henv h3)
  rw [show addS = ⟨#[40, 102, 110, 32, 102, 32, 40, 120, 41, 32, 40, 43, 32, 120, 32, 50, 41, 41]⟩ from rfl] at CF
  go_enter Tryd.func8, Tryd.ntmps8
  go_wp2_with fail
  refine CF.out.mono ?_
  rintro e w1 ⟨a, cap, cs, rfl, hf1, hr, hc, hrf⟩
  have H1 := hide (And.intro hf1 (And.intro hr (And.intro hc hrf)))
  clear hf1 hr hc hrf
  have CR : Hid (∀ W, Fr No w1 W → W.heap[w1.heap.size]? = some (.cells #[.int .i64 5] 3 (0, 0)) → Calls Tryd.prog 10 #[.slice a 1 cap, .string ⟨#[102]⟩, .slice (some ⟨w1.heap.size, 0, none⟩) 1 1, .int .i64 9] W fun e w' => ∃ k va vc, e = .returned (.tuple #[.agg #[.bool false, .int .i64 7, .slice va 0 vc], .int .i64 0]) ∧ RV k Any w' [.bool false, .int .i64 7, .slice va 0 vc] ⟨false, 7, []⟩ ∧ Fr No W w') := fun W hW hi => by
    obtain ⟨hf1, hr, hc, hrf⟩ := H1.out
    have st : Stays (New w w1) (New w w1) w1 W := ⟨hW.size, fun g hg hl => ⟨hg, hW.block g hl (fun e => e)⟩⟩
    have hs := hW.size
    have hF : Fns 2 W.heap.size W (.slice a 1 cap) [addF] := RFS.fns (S := New w w1) (fun g hg => by have := hg.2; omega) (hr.kept st) hc (hrf.kept st)
    have hI : Ints W.heap.size W (.slice (some ⟨w1.heap.size, 0, none⟩) 1 1) [5] := ⟨some ⟨w1.heap.size, 0, none⟩, 1, rfl, Nat.le_refl _, by unfold maxLen; decide, fun _ => ⟨w1.heap.size, 0, rfl, lt_of_heap hi, lt_of_heap hi, fun i h0 => by
      have e : i = 0 := by simpa using h0
      subst e
      rw [Nat.zero_add, cell_of_heap hi 0]
      rfl⟩⟩
    have hR := run_any 2 W.heap.size W (.slice a 1 cap) (.slice (some ⟨w1.heap.size, 0, none⟩) 1 1) [addF] ⟨#[102]⟩ [5] 9 hF hI (Nat.le_refl _) (by decide) (fun f hf => by
      have e : f = addF := by simpa using hf
      subst e
      decide)
    rw [run_addF] at hR
    refine hR.mono ?_
    rintro e w' ⟨⟨cs, he, k, hv⟩, hf⟩
    obtain ⟨va, vc, rfl⟩ := hv.form
    exact ⟨k, va, vc, he, hv, hf⟩
  have HI := hide (heap_alloc_new w1 (.cells #[.int .i64 5] 3))
  go_wp2_with fail
  refine (CR.out _ ((Fr.refl No w1).alloc _) HI.out).mono ?_
  rintro e w2 ⟨k, va, vc, rfl, hv, hf2⟩
  have F2 := hide ((H1.out.1.alloc _).no hf2)
  have HV := hide hv
  clear hf2 hv
  have CPR : Hid (∀ W, Calls Tryd.prog 21 #[.int .i64 4, .int .i64 1, .int .i64 2] W fun e w' => e = .returned (.tuple #[.agg #[.bool true, .int .i64 1, .slice none 0 0], .int .i64 0]) ∧ Fr No W w') := fun W => prim_any 4 1 2 W
  go_wp2_with fail
  refine (CPR.out _).mono ?_
  rintro e w3 ⟨rfl, hf3⟩
  have b3 := fr_heap (heap_alloc_new w2 (.cells #[.bool false, .int .i64 7, .slice va 0 vc] 29)) hf3 (fun e => e)
  have F3 := hide (((Fr.refl No w2).alloc (.cells #[.bool false, .int .i64 7, .slice va 0 vc] 29)).no hf3)
  have B3 := hide b3
  have y0 : w3.cell? ⟨w2.heap.size, 0, none⟩ = some (.bool false) := cell_of_heap b3 0
  have y1 : w3.cell? ⟨w2.heap.size, 1, none⟩ = some (.int .i64 7) := cell_of_heap b3 1
  have y2 : w3.cell? ⟨w2.heap.size, 2, none⟩ = some (.slice va 0 vc) := cell_of_heap b3 2
  have l3 := lt_of_heap b3
  clear hf3 b3
  go_wp2_with fail
  obtain ⟨W4, hW4⟩ : ∃ W4, W4 = w3.alloc (.cells #[.bool true, .int .i64 1, .slice none 0 0] 29) := ⟨_, rfl⟩
  rw [← hW4]
  have f34 : Fr No w3 W4 := by rw [hW4]; exact (Fr.refl No w3).alloc _
  have p4 : W4.heap[w3.heap.size]? = some (.cells #[.bool true, .int .i64 1, .slice none 0 0] 29 (0, 0)) := by rw [hW4]; exact heap_alloc_new w3 _
  have b4 := fr_heap B3.out f34 (fun e => e)
  have F24 : Hid (Fr No w2 W4) := F3.out.no f34
  have SA : Hid (∀ w', Fr No W4 w' → (w'.cell? ⟨w2.heap.size, 0, none⟩ = some (.bool false) ∧ w'.cell? ⟨w2.heap.size, 1, none⟩ = some (.int .i64 7) ∧ w'.cell? ⟨w2.heap.size, 2, none⟩ = some (.slice va 0 vc) ∧ w'.cell? ⟨w3.heap.size, 0, none⟩ = some (.bool true) ∧ w'.cell? ⟨w3.heap.size, 1, none⟩ = some (.int .i64 1))) := fun W hW => ⟨cell_of_heap (fr_heap b4 hW (fun e => e)) 0, cell_of_heap (fr_heap b4 hW (fun e => e)) 1, cell_of_heap (fr_heap b4 hW (fun e => e)) 2, cell_of_heap (fr_heap p4 hW (fun e => e)) 0, cell_of_heap (fr_heap p4 hW (fun e => e)) 1⟩
  have CO : Hid (∀ W, Fr No W4 W → Calls Tryd.prog 23 #[.agg #[.bool false, .int .i64 7, .slice va 0 vc]] W fun e w' => ∃ oa oc, e = .returned (.agg #[.bool false, .int .i64 7, .slice oa 0 oc]) ∧ (w'.cell? ⟨w2.heap.size, 0, none⟩ = some (.bool false) ∧ w'.cell? ⟨w2.heap.size, 1, none⟩ = some (.int .i64 7) ∧ w'.cell? ⟨w2.heap.size, 2, none⟩ = some (.slice va 0 vc) ∧ w'.cell? ⟨w3.heap.size, 0, none⟩ = some (.bool true) ∧ w'.cell? ⟨w3.heap.size, 1, none⟩ = some (.int .i64 1)) ∧ Fr No W4 w' ∧ RV k Any w' [.bool false, .int .i64 7, .slice oa 0 oc] ⟨false, 7, []⟩) := fun W hW => by
    refine (own_all k W _ _ (HV.out.fr (F24.out.no hW))).mono ?_
    rintro e w' ⟨cs', he, hf, hrv⟩
    obtain ⟨oa, oc, rfl⟩ := hrv.form
    exact ⟨oa, oc, he, SA.out _ (hW.no hf), hW.no hf, hrv.any⟩
  have CS : Hid (∀ W oa oc, Fr No W4 W → RV k Any W [.bool false, .int .i64 7, .slice oa 0 oc] ⟨false, 7, []⟩ → Calls Tryd.prog 22 #[.agg #[.bool false, .int .i64 7, .slice va 0 vc], .agg #[.bool false, .int .i64 7, .slice oa 0 oc]] W fun e w' => e = .returned (.bool true) ∧ (w'.cell? ⟨w2.heap.size, 0, none⟩ = some (.bool false) ∧ w'.cell? ⟨w2.heap.size, 1, none⟩ = some (.int .i64 7) ∧ w'.cell? ⟨w2.heap.size, 2, none⟩ = some (.slice va 0 vc) ∧ w'.cell? ⟨w3.heap.size, 0, none⟩ = some (.bool true) ∧ w'.cell? ⟨w3.heap.size, 1, none⟩ = some (.int .i64 1)) ∧ Fr No W4 w') := fun W oa oc hW hrv => by
    refine (sameV_all k k W _ _ _ _ (HV.out.fr (F24.out.no hW)) hrv).mono ?_
    rintro e w' ⟨r, he, hr, hf⟩
    have hr' : r = true := hr.mpr rfl
    subst hr'
    exact ⟨he, SA.out _ (hW.no hf), hW.no hf⟩
  have CW : Hid (∀ W, Fr No W4 W → Calls Tryd.prog 24 #[.agg #[.bool false, .int .i64 7, .slice va 0 vc]] W fun e w' => e = .returned (.bool true) ∧ (w'.cell? ⟨w2.heap.size, 0, none⟩ = some (.bool false) ∧ w'.cell? ⟨w2.heap.size, 1, none⟩ = some (.int .i64 7) ∧ w'.cell? ⟨w2.heap.size, 2, none⟩ = some (.slice va 0 vc) ∧ w'.cell? ⟨w3.heap.size, 0, none⟩ = some (.bool true) ∧ w'.cell? ⟨w3.heap.size, 1, none⟩ = some (.int .i64 1)) ∧ Fr No W4 w') := fun W hW => by
    have h := few_any k W _ _ (HV.out.fr (F24.out.no hW))
    rw [nodes_7] at h
    refine h.mono ?_
    rintro e w' ⟨he, hf⟩
    exact ⟨he, SA.out _ (hW.no hf), hW.no hf⟩
  have D0 : Fr No W4 W4.drew := (Fr.refl No W4).drew
  have HZ := hide (SA.out _ D0)
  obtain ⟨u0, u1, u2, v0, v1⟩ := SA.out W4 (Fr.refl No W4)
  clear hW4 f34 p4 b4 y0 y1 y2 CF CR CPR
  go_region_held3 (fun w' : World => w'.cell? ⟨w2.heap.size, 0, none⟩ = some (.bool false) ∧ w'.cell? ⟨w2.heap.size, 1, none⟩ = some (.int .i64 7) ∧ w'.cell? ⟨w2.heap.size, 2, none⟩ = some (.slice va 0 vc) ∧ w'.cell? ⟨w3.heap.size, 0, none⟩ = some (.bool true) ∧ w'.cell? ⟨w3.heap.size, 1, none⟩ = some (.int .i64 1)) (first | with_reducible exact HM3.out | with_reducible exact HM2.out | with_reducible exact HM1.out | with_reducible exact HZ.out | with_reducible assumption) (first
    | (go_at_call 23; refine (CO.out _ (by first | with_reducible assumption | exact D0)).mono ?_; rintro e w5 ⟨oa, oc, rfl, hm, hf5, hrv⟩; have HM1 := hide hm; have HF5 := hide hf5; have HRV := hide hrv; obtain ⟨m0, m1, m2, m3, m4⟩ := hm; clear hf5 hrv)
    | (go_at_call 22; refine (CS.out _ _ _ HF5.out HRV.out).mono ?_; rintro e w6 ⟨rfl, hm, hf6⟩; have HM2 := hide hm; have HF6 := hide hf6; obtain ⟨m0, m1, m2, m3, m4⟩ := hm; clear hf6)
    | (go_at_call 24; refine (CW.out _ HF6.out).mono ?_; rintro e w7 ⟨rfl, hm, hf7⟩; have HM3 := hide hm; have HF7 := hide hf7; obtain ⟨m0, m1, m2, m3, m4⟩ := hm; clear hf7))
  all_goals
    go_wp2_with fail
    go_ret
    exact ⟨rfl, F2.out.no (F24.out.no HF7.out)⟩
end Go.Proofs.YtdgmengfdfkgaabDoor
