/- EvalUnused is true: a function more, of another name, changes nothing. Of all functions, names, numbers that the row's own reading takes, without a ring, of bulk at most 1048576; the listed variables as the card ties them. -/
import Derived.Test.YtdgmengfdfkgaabDoorCards
import Derived.Test.YtdgmengfdfkgaabDoorTie
import Derived.Test.YtdgmengfdfkgaabDoorP2Laid
import Derived.Test.YtdgmengfdfkgaabDoorOpRd
import Derived.Test.YtdgmengfdfkgaabDoorFu
import Derived.Test.YtdgmengfdfkgaabDoorF2
import Derived.Deep.DeepHandedRow
import Derived.Deep.DeepWitnessRowRef
import Derived.SevenTiedAt
namespace Go.Proofs.YtdgmengfdfkgaabDoor
open Go.ChangeShapes Go.WideShapes Go.ChangeAt Go.WideMaps Go.WideElems Go.RowKit
open Go.ChangeMaps (open_string shut_string)

set_option maxRecDepth 100000 in
theorem open_fn {H : Type} {enc : TypeId × Value → H} {w : World} {spare : Nat → Bool} {held : Bool} (m fuel : Nat) (cs : List Value) (x : DataW H × List MemPlace) (h : DataW.trod enc Tryd.prog w 0 spare held fuel 40 cs = some x) (hb : Rows.uptoBulk x.1 ≤ m) :
    ∃ f : Pu.Fn m, RF m w.heap.size w cs f ∧ wf f ≤ Rows.uptoBulk x.1 := by
  obtain ⟨xs', n2, _, rfl, hcl', hxl', hf'⟩ := DataW.trod_struct Tryd.underlying40 h
  rw [cells44] at hcl'
  match cs, hcl', xs', hxl' with
  | [d0, d1, d2, d3, d4, d5, d6, d7, d8], _, [z0, z1, z2], _ =>
    have k0 : DataW.trod enc Tryd.prog w 0 spare held n2 9 [d0] = some z0 := by simpa [cells9] using hf' 0 _ rfl
    have k1 : DataW.trod enc Tryd.prog w 0 spare held n2 34 [d1] = some z1 := by simpa [cells23] using hf' 1 _ rfl
    have k2 : DataW.trod enc Tryd.prog w 0 spare held n2 38 [d2, d3, d4, d5, d6, d7, d8] = some z2 := by simpa [cells27] using hf' 2 _ rfl
    have hbk' : Rows.uptoBulk (DataW.agg ([z0, z1, z2].map (·.1))) = Rows.uptoBulk z0.1 + (Rows.uptoBulk z1.1 + (Rows.uptoBulk z2.1 + 0)) + 1 := by
      rw [bulk_agg]; simp only [List.map_cons, List.map_nil, Rows.uptoBulkAll]
    rw [hbk'] at hb ⊢
    have p0 := bulk_pos z0.1
    obtain ⟨nm, e0, _, hnm⟩ := DataW.trod_string Tryd.underlying9 k0
    obtain ⟨vv', vars', e1, hvars', hvb'⟩ := open_names n2 _ z1 k1
    obtain ⟨t', hrt', hwt'⟩ := open_term m n2 _ z2 k2 (by omega)
    injection e0 with e0 _
    injection e1 with e1 _
    subst e0 e1
    exact ⟨(nm, vars', t'), ⟨_, _, rfl, hnm, hvars', rfl, hrt'⟩, by show 1 + vars'.length + Pu.wt m t' ≤ _; omega⟩
theorem len_wf {K : Nat} (l : List (Pu.Fn K)) : l.length ≤ (l.map wf).sum := by
  induction l with
  | nil => simp
  | cons a l ih =>
    have h : wf a = 1 + a.2.1.length + Pu.wt K a.2.2 := rfl
    simp only [List.map_cons, List.sum_cons, List.length_cons]
    omega

set_option maxRecDepth 100000 in
set_option maxHeartbeats 1000000 in
theorem unused_contract (H : Type) (enc : TypeId × Value → H) (W : World) (base : Nat) (args : Array Value) (ds gs : List (DataW H)) (before : List MemPlace)
    (hval : ∀ (j : Nat) t v, Tryd.f4.params[j]? = some t → args[j]? = some v → Value.okWide Tryd.prog W .any base t v)
    (hW : DataW.Whole enc Tryd.prog Tryd.f4.params.toList Rows.evalUnusedSpec.vars false W args.toList ds gs before) (hk : Rows.uptoSmall H (ds ++ gs) = true) (hL : laidMetH Tryd.prog laid5 W) :
    Calls Tryd.prog 4 args W fun e W' => ∃ v, e = .returned v ∧ Rows.evalUnusedSpec.post enc Tryd.prog Tryd.f4 false true false false W args v W' := by
  have hW' := hW
  obtain ⟨p, q, hA0, hV, rfl, hfz, hnd⟩ := hW
  have hA : DataW.TrodAll enc Tryd.prog W 0 (fun _ => true) true Tryd.f4.params.toList args.toList ds p := hA0
  have hAk := hA
  rw [Tryd.params4] at hA hval
  obtain ⟨v0, vs0, d0, ds0, p0, q0, hargs, rfl, rfl, h0, r0⟩ := trodAll_cons hA
  obtain ⟨v1, vs1, d1, ds1, p1, q1, rfl, rfl, rfl, h1, r1⟩ := trodAll_cons r0
  obtain ⟨v2, vs2, d2, ds2, p2, q2, rfl, rfl, rfl, h2, r2⟩ := trodAll_cons r1
  obtain ⟨v3, vs3, d3, ds3, p3, q3, rfl, rfl, rfl, h3, r3⟩ := trodAll_cons r2
  obtain ⟨v4, vs4, d4, ds4, p4, q4, rfl, rfl, rfl, h4, r4⟩ := trodAll_cons r3
  obtain ⟨rfl, rfl, rfl⟩ := trodAll_nil r4
  obtain rfl : args = #[v0, v1, v2, v3, v4] := by cases args; simp_all
  obtain ⟨rfl, rfl⟩ := trodVars_none hV
  clear hA0 hA r0 r1 r2 r3 r4 hargs
  obtain ⟨mc, rfl, _⟩ := okWide_struct Tryd.underlying40 (hval 1 40 v1 rfl rfl)
  obtain ⟨fuel0, hf0⟩ := h0
  obtain ⟨fuel1, hf1⟩ := h1
  obtain ⟨fuel3, hf3⟩ := h3
  obtain ⟨s, rfl, rfl, rfl, _⟩ := open_string Tryd.underlying9 (hval 2 9 v2 rfl rfl) h2
  obtain ⟨n4, rfl, rfl, rfl, _⟩ := open_int Tryd.underlying3 (hval 4 3 v4 rfl rfl) h4
  simp only [List.append_nil] at hW' hAk hk
  have hb := of_decide_eq_true hk
  simp only [Rows.uptoBulkAll] at hb
  obtain ⟨v, l, hcs, hfns, hwt⟩ := open_fns 1048576 fuel0 _ (d0, p0) hf0 (by show Rows.uptoBulk d0 ≤ _; omega)
  have hwt' : (l.map wf).sum ≤ Rows.uptoBulk d0 := hwt
  obtain ⟨mf, hmf, hwm⟩ := open_fn 1048576 fuel1 mc.toList (d1, p1) hf1 (by show Rows.uptoBulk d1 ≤ _; omega)
  have hwm' : wf mf ≤ Rows.uptoBulk d1 := hwm
  have hll := len_wf l
  obtain ⟨va, la, hca, hints, hwa⟩ := open_ints fuel3 _ (d3, p3) hf3
  have hwa' : la.length + 1 ≤ Rows.uptoBulk d3 := hwa
  have hv0 : v0 = v := by
    obtain ⟨a, n, c, rfl⟩ := okWide_slice Tryd.underlying22 (hval 0 22 v0 rfl rfl)
    simpa [Value.cells] using hcs
  have hv3 : v3 = va := by
    obtain ⟨a, n, c, rfl⟩ := okWide_slice Tryd.underlying23 (hval 3 23 v3 rfl rfl)
    simpa [Value.cells] using hca
  subst hv0 hv3
  have he := env_of_laid hL
  refine (evalUnused_any alive_any 1048576 W.heap.size W v0 v3 l mf mc.toList s la n4 hfns hmf hints (Nat.le_refl _) (by omega) (by omega) (by omega) he (size_of_env he)).mono fun e W' ⟨he, hfr⟩ => ?_
  subst he
  exact ⟨_, rfl, post_true rfl (by kernel_rfl) (by rw [Tryd.params4]; decide) rfl hW' hAk hfr⟩

theorem unused_reads (os : Os) {H : Type} (enc : TypeId × Value → H) : ∃ places, DataW.whole enc Tryd.prog ((World.doorLaid Tryd.prog 400 os).forCall (fun _ _ => 0) ⟨#[], #[.slice none 0 0, .agg #[.string .empty, .slice none 0 0, .int .i64 0, .int .i64 0, .string .empty, .string .empty, .slice none 0 0, .slice none 0 0, .slice none 0 0], .string .empty, .slice none 0 0, .int .i64 0], []⟩).memory Tryd.f4.params.toList Rows.evalUnusedSpec.vars false (Array.toList (α := Value) #[.slice none 0 0, .agg #[.string .empty, .slice none 0 0, .int .i64 0, .int .i64 0, .string .empty, .string .empty, .slice none 0 0, .slice none 0 0, .slice none 0 0], .string .empty, .slice none 0 0, .int .i64 0]) 8 = some ([.nil, .agg [.lit (.string []), .nil, .agg [.lit (.int .i64 0), .lit (.int .i64 0), .lit (.string []), .lit (.string []), .nil, .nil, .nil]], .lit (.string []), .nil, .lit (.int .i64 0)], [], places) :=
  ⟨[], by kernel_rfl⟩

set_option maxRecDepth 100000 in
theorem unused_lifted (os : Os) (started : os.Started) (H : Type) (enc : TypeId × Value → H) (F : Stop.Interp) :
    ReturnsInHanded {} Tryd.checked os 4 .any ((Rows.OpenSpec.upto Rows.evalUnusedSpec).preRow enc Tryd.prog Tryd.f4 Rows.evalUnusedUptoRow.domain false Rows.evalUnusedUptoRow.laid) (((Rows.OpenSpec.upto Rows.evalUnusedSpec).at F).post enc Tryd.prog Tryd.f4 false true false false) := by
  obtain ⟨places, hx⟩ := unused_reads os enc
  refine returnsInHanded_of_row (C := Tryd.checked) (s := Rows.OpenSpec.upto Rows.evalUnusedSpec) own' started (by kernel_rfl) Tryd.func4
    (witness_row_atRef (enc := enc) (C := Tryd.checked) false (World.doorLaid Tryd.prog 400 os) #[.slice none 0 0, .agg #[.string .empty, .slice none 0 0, .int .i64 0, .int .i64 0, .string .empty, .string .empty, .slice none 0 0, .slice none 0 0, .slice none 0 0], .string .empty, .slice none 0 0, .int .i64 0] rfl (by kernel_rfl) (by kernel_rfl) (by kernel_rfl)
      (OpenSpec.preRow_of_cond 8 hx (by kernel_rfl) (fun k hk => by cases hk; kernel_rfl) (by kernel_rfl) (door_met os _))) ?_
  intro W base args ds gs before hval hW _ hcond _ hL _ _
  exact unused_contract H enc W base args ds gs before hval hW (hcond _ rfl) hL

theorem evalUnused_upto : Rows.EvalUnusedUptoSaid :=
  OpenClaim.holds_of_cond 4 Tryd.f4 rfl rfl rfl rfl rfl rfl rfl ⟨rfl, rfl, rfl, rfl, rfl⟩ rfl rfl rfl rfl rfl (by kernel_rfl) Tryd.func4 (by kernel_rfl)
    (of_decide_eq_true (by kernel_rfl)) (by unfold Func.isWrapper; first | (rw [if_pos (by decide +kernel)]; kernel_rfl) | (rw [if_neg (by decide +kernel)]; exact ⟨rfl, rfl⟩))
    (fun os started H enc _ F => by rw [OpenClaim.pre_eq_preRow]; exact unused_lifted os started H enc F)

theorem unused_plain (f : FuncId) (fn : Func) (hf : Tryd.pinned.checked.prog.funcNamed "exactchange/xclaw3.EvalUnused" = some f) (hfn : Tryd.pinned.checked.prog.funcs[f]? = some fn) :
    true = Tryd.pinned.checked.prog.looks [] ∧ ∀ (j : Nat) t, fn.params[j]? = some t → Tryd.pinned.checked.prog.wantsStandIn t = false := by
  obtain rfl : f = 4 := Option.some.inj ((show Tryd.prog.funcNamed "exactchange/xclaw3.EvalUnused" = some 4 by kernel_rfl).symm.trans hf) |>.symm
  obtain rfl : fn = Tryd.f4 := (Option.some.inj (Tryd.func4.symm.trans hfn)).symm
  refine ⟨by kernel_rfl, fun j t ht => ?_⟩
  rw [Tryd.params4] at ht
  have hm := Array.mem_of_getElem? ht
  simp only [List.mem_toArray, List.mem_cons, List.not_mem_nil, or_false] at hm
  rcases hm with rfl | rfl | rfl | rfl | rfl
  all_goals exact (show Tryd.prog.wantsStandIn _ = false by kernel_rfl)

theorem evalUnused_card : Rows.EvalUnusedUptoCardSaid :=
  Claim7.holds_tied_plain_at .later [] _ _ _ _ evalUnused_upto (fun _ h => by cases h) (by kernel_rfl) (fun _ h => by cases h) evalUnusedUpto_row_tie rfl ⟨rfl, rfl⟩ (by kernel_rfl) rfl unused_plain (by kernel_rfl)
#print axioms evalUnused_card
end Go.Proofs.YtdgmengfdfkgaabDoor
