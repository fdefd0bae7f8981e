/- OwnErase is true: a plain function that counts is, without what counts, what it was. Of all functions that the row's own reading takes, without a ring, of bulk at most 1048576; the listed variables as the card ties them. -/
import Derived.Test.YtomahbdidlglfacGreatDoorCards
import Derived.Test.YtomahbdidlglfacGreatDoorTie
import Derived.Test.YtomahbdidlglfacGreatDoorAx1Ax2OpRdLaid
import Derived.Test.YtomahbdidlglfacGreatDoorEr4Ox6Oe1
import Derived.Test.YtomahbdidlglfacGreatDoorR11
import Derived.Deep.DeepHandedRow
import Derived.Deep.DeepWitnessRowRef
import Derived.SevenTiedAt
namespace Go.Proofs.YtomahbdidlglfacGreatDoor
open Go.ChangeShapes Go.WideShapes Go.ChangeAt Go.WideMaps Go.WideElems Go.RowKit

set_option maxRecDepth 100000 in
set_option maxHeartbeats 1000000 in
theorem erase_contract (H : Type) (enc : TypeId × Value → H) (W : World) (base : Nat) (args : Array Value) (ds gs : List (DataW H)) (before : List MemPlace)
    (hval : ∀ (j : Nat) t v, Tryz.f4.params[j]? = some t → args[j]? = some v → Value.okWide Tryz.prog W .any base t v)
    (hW : DataW.Whole enc Tryz.prog Tryz.f4.params.toList Rows.ownEraseSpec.vars false W args.toList ds gs before) (hk : Rows.uptoSmall H (ds ++ gs) = true) (hL : laidMetH Tryz.prog laid5 W) :
    Calls Tryz.prog 4 args W fun e W' => ∃ v, e = .returned v ∧ Rows.ownEraseSpec.post enc Tryz.prog Tryz.f4 false true false false W args v W' := by
  have hW' := hW
  obtain ⟨p, q, hA0, hV, rfl, hfz, hnd⟩ := hW
  have hA : DataW.TrodAll enc Tryz.prog W 0 (fun _ => true) true Tryz.f4.params.toList args.toList ds p := hA0
  have hAk := hA
  rw [Tryz.params4] at hA hval
  obtain ⟨v0, vs0, d0, ds0, p0, q0, hargs, rfl, rfl, h0, r0⟩ := trodAll_cons hA
  obtain ⟨rfl, rfl, rfl⟩ := trodAll_nil r0
  obtain rfl : args = #[v0] := by cases args; simp_all
  obtain ⟨rfl, rfl⟩ := trodVars_none hV
  clear hA0 hA r0 hargs
  obtain ⟨fuel0, hf0⟩ := h0
  simp only [List.append_nil] at hW' hAk hk
  have hb := of_decide_eq_true hk
  simp only [Rows.uptoBulkAll] at hb
  obtain ⟨v, l, hcs, hfns, hwt⟩ := open_fns 1048576 fuel0 _ (d0, p0) hf0 (by show Rows.uptoBulk d0 ≤ _; omega)
  have hwt' : (l.map wf).sum ≤ Rows.uptoBulk d0 := hwt
  have hv0 : v0 = v := by
    obtain ⟨a, n, c, rfl⟩ := okWide_slice Tryz.underlying22 (hval 0 22 v0 rfl rfl)
    simpa [Value.cells] using hcs
  subst hv0
  have he := env_of_laid hL
  refine (ownErase6_any alive6_any rcheck_any 1048576 W.heap.size W v0 l hfns (Nat.le_refl _) (size_of_env he) he (by omega)).mono fun e W' ⟨he, hfr⟩ => ?_
  subst he
  exact ⟨_, rfl, post_true rfl (by kernel_rfl) (by rw [Tryz.params4]; decide) rfl hW' hAk hfr⟩

theorem erase_reads (os : Os) {H : Type} (enc : TypeId × Value → H) : ∃ places, DataW.whole enc Tryz.prog ((World.doorLaid Tryz.prog 400 os).forCall (fun _ _ => 0) ⟨#[], #[.slice none 0 0], []⟩).memory Tryz.f4.params.toList Rows.ownEraseSpec.vars false (Array.toList (α := Value) #[.slice none 0 0]) 8 = some ([.nil], [], places) :=
  ⟨[], by kernel_rfl⟩

set_option maxRecDepth 100000 in
theorem erase_lifted (os : Os) (started : os.Started) (H : Type) (enc : TypeId × Value → H) (F : Stop.Interp) :
    ReturnsInHanded {} Tryz.checked os 4 .any ((Rows.OpenSpec.upto Rows.ownEraseSpec).preRow enc Tryz.prog Tryz.f4 Rows.ownEraseUptoRow.domain false Rows.ownEraseUptoRow.laid) (((Rows.OpenSpec.upto Rows.ownEraseSpec).at F).post enc Tryz.prog Tryz.f4 false true false false) := by
  obtain ⟨places, hx⟩ := erase_reads os enc
  refine returnsInHanded_of_row (C := Tryz.checked) (s := Rows.OpenSpec.upto Rows.ownEraseSpec) Tryz.own started (by kernel_rfl) Tryz.func4
    (witness_row_atRef (enc := enc) (C := Tryz.checked) false (World.doorLaid Tryz.prog 400 os) #[.slice none 0 0] rfl (by kernel_rfl) (by kernel_rfl) (by kernel_rfl)
      (OpenSpec.preRow_of_cond 8 hx (by kernel_rfl) (fun k hk => by cases hk; kernel_rfl) (by kernel_rfl) (door_met os _))) ?_
  intro W base args ds gs before hval hW _ hcond _ hL _ _
  exact erase_contract H enc W base args ds gs before hval hW (hcond _ rfl) hL

theorem ownErase_upto : Rows.OwnEraseUptoSaid :=
  OpenClaim.holds_of_cond 4 Tryz.f4 rfl rfl rfl rfl rfl rfl rfl ⟨rfl, rfl, rfl, rfl, rfl⟩ rfl rfl rfl rfl rfl (by kernel_rfl) Tryz.func4 (by kernel_rfl)
    (of_decide_eq_true (by kernel_rfl)) (by unfold Func.isWrapper; first | (rw [if_pos (by decide +kernel)]; kernel_rfl) | (rw [if_neg (by decide +kernel)]; exact ⟨rfl, rfl⟩))
    (fun os started H enc _ F => by rw [OpenClaim.pre_eq_preRow]; exact erase_lifted os started H enc F)

theorem erase_plain (f : FuncId) (fn : Func) (hf : Tryz.pinned.checked.prog.funcNamed "exactchange/xclaw6.OwnErase" = some f) (hfn : Tryz.pinned.checked.prog.funcs[f]? = some fn) :
    true = Tryz.pinned.checked.prog.looks [] ∧ ∀ (j : Nat) t, fn.params[j]? = some t → Tryz.pinned.checked.prog.wantsStandIn t = false := by
  obtain rfl : f = 4 := Option.some.inj ((show Tryz.prog.funcNamed "exactchange/xclaw6.OwnErase" = some 4 by kernel_rfl).symm.trans hf) |>.symm
  obtain rfl : fn = Tryz.f4 := (Option.some.inj (Tryz.func4.symm.trans hfn)).symm
  refine ⟨by kernel_rfl, fun j t ht => ?_⟩
  rw [Tryz.params4] at ht
  have hm := Array.mem_of_getElem? ht
  simp only [List.mem_toArray, List.mem_cons, List.not_mem_nil, or_false] at hm
  rcases hm with rfl
  all_goals exact (show Tryz.prog.wantsStandIn _ = false by kernel_rfl)

theorem ownErase_card : Rows.OwnEraseUptoCardSaid :=
  Claim7.holds_tied_plain_at .later [] _ _ _ _ ownErase_upto (fun _ h => by cases h) (by kernel_rfl) (fun _ h => by cases h) ownEraseUpto_row_tie rfl ⟨rfl, rfl⟩ (by kernel_rfl) rfl erase_plain (by kernel_rfl)
#print axioms ownErase_card
end Go.Proofs.YtomahbdidlglfacGreatDoor
