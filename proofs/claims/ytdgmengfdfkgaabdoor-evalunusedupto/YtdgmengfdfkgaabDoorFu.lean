/- EvalFuel is true: what comes of a call with so many calls comes of it with more. Of all functions, names, numbers that the row's own reading takes, without a ring, of bulk at most 1048576; the listed variables as the card ties them. -/
import Derived.Test.YtdgmengfdfkgaabDoorCards
import Derived.Test.YtdgmengfdfkgaabDoorTie
import Derived.Test.YtdgmengfdfkgaabDoorP2Laid
import Derived.Test.YtdgmengfdfkgaabDoorOpRd
import Derived.Test.YtdgmengfdfkgaabDoorAlG5
import Derived.Deep.DeepHandedRow
import Derived.Deep.DeepWitnessRowRef
import Derived.SevenTiedAt
namespace Go.Proofs.YtdgmengfdfkgaabDoor
open Go.ChangeShapes Go.WideShapes Go.ChangeAt Go.WideMaps Go.WideElems Go.RowKit
open Go.ChangeMaps (open_string shut_string)

theorem each_ints {xs : List Value} {l : List Int} (h : Each 1 (fun cs (a : Int) => cs = [.int .i64 a]) xs l) : xs = l.map (.int .i64 ·) := by
  have hl := h.length
  apply List.ext_getElem?
  intro i
  by_cases hi : i < l.length
  · obtain ⟨ck, _, hp, hx⟩ := h.get i l[i] (List.getElem?_eq_getElem hi)
    have h0 := hx 0 (by decide)
    rw [hp] at h0
    simpa [hi] using h0
  · rw [List.getElem?_eq_none (by omega), List.getElem?_eq_none (by simpa using hi)]
theorem open_ints {H : Type} {enc : TypeId × Value → H} {w : World} {spare : Nat → Bool} {held : Bool} (fuel : Nat) (cs : List Value) (x : DataW H × List MemPlace) (h : DataW.trod enc Tryd.prog w 0 spare held fuel 23 cs = some x) :
    ∃ v l, cs = [v] ∧ Ints w.heap.size w v l ∧ l.length + 1 ≤ Rows.uptoBulk x.1 := by
  obtain ⟨v, l, xs, h1, h2, h3, h4⟩ := open_row (α := Int) 1 (by omega) 23 3 Tryd.underlying23 cells3 fuel cs x h (fun cs a => cs = [.int .i64 a]) (fun _ => 1) (fun n cs' y hy _ => by
    obtain ⟨s, h1, _, _⟩ := DataW.trod_int Tryd.underlying3 hy
    exact ⟨s, h1, bulk_pos _⟩)
  have h5 := each_ints h3
  subst h5
  rw [sum_ones] at h4
  exact ⟨v, l, h1, h2, h4⟩

set_option maxRecDepth 100000 in
set_option maxHeartbeats 1000000 in
theorem fuel_contract (H : Type) (enc : TypeId × Value → H) (W : World) (base : Nat) (args : Array Value) (ds gs : List (DataW H)) (before : List MemPlace)
    (hval : ∀ (j : Nat) t v, Tryd.f3.params[j]? = some t → args[j]? = some v → Value.okWide Tryd.prog W .any base t v)
    (hW : DataW.Whole enc Tryd.prog Tryd.f3.params.toList Rows.evalFuelSpec.vars false W args.toList ds gs before) (hk : Rows.uptoSmall H (ds ++ gs) = true) (hL : laidMetH Tryd.prog laid5 W) :
    Calls Tryd.prog 3 args W fun e W' => ∃ v, e = .returned v ∧ Rows.evalFuelSpec.post enc Tryd.prog Tryd.f3 false true false false W args v W' := by
  have hW' := hW
  obtain ⟨p, q, hA0, hV, rfl, hfz, hnd⟩ := hW
  have hA : DataW.TrodAll enc Tryd.prog W 0 (fun _ => true) true Tryd.f3.params.toList args.toList ds p := hA0
  have hAk := hA
  rw [Tryd.params3] at hA hval
  obtain ⟨v0, vs0, d0, ds0, p0, q0, hargs, rfl, rfl, h0, r0⟩ := trodAll_cons hA
  obtain ⟨v1, vs1, d1, ds1, p1, q1, rfl, rfl, rfl, h1, r1⟩ := trodAll_cons r0
  obtain ⟨v2, vs2, d2, ds2, p2, q2, rfl, rfl, rfl, h2, r2⟩ := trodAll_cons r1
  obtain ⟨v3, vs3, d3, ds3, p3, q3, rfl, rfl, rfl, h3, r3⟩ := trodAll_cons r2
  obtain ⟨v4, vs4, d4, ds4, p4, q4, rfl, rfl, rfl, h4, r4⟩ := trodAll_cons r3
  obtain ⟨rfl, rfl, rfl⟩ := trodAll_nil r4
  obtain rfl : args = #[v0, v1, v2, v3, v4] := by cases args; simp_all
  obtain ⟨rfl, rfl⟩ := trodVars_none hV
  clear hA0 hA r0 r1 r2 r3 r4 hargs
  obtain ⟨fuel0, hf0⟩ := h0
  obtain ⟨fuel2, hf2⟩ := h2
  obtain ⟨s, rfl, rfl, rfl, _⟩ := open_string Tryd.underlying9 (hval 1 9 v1 rfl rfl) h1
  obtain ⟨n3, rfl, rfl, rfl, _⟩ := open_int Tryd.underlying3 (hval 3 3 v3 rfl rfl) h3
  obtain ⟨n4, rfl, rfl, rfl, _⟩ := open_int Tryd.underlying3 (hval 4 3 v4 rfl rfl) h4
  simp only [List.append_nil] at hW' hAk hk
  have hb := of_decide_eq_true hk
  simp only [Rows.uptoBulkAll] at hb
  obtain ⟨v, l, hcs, hfns, hwt⟩ := open_fns 1048576 fuel0 _ (d0, p0) hf0 (by show Rows.uptoBulk d0 ≤ _; omega)
  have hwt' : (l.map wf).sum ≤ Rows.uptoBulk d0 := hwt
  obtain ⟨va, la, hca, hints, hwa⟩ := open_ints fuel2 _ (d2, p2) hf2
  have hwa' : la.length + 1 ≤ Rows.uptoBulk d2 := hwa
  have hv0 : v0 = v := by
    obtain ⟨a, n, c, rfl⟩ := okWide_slice Tryd.underlying22 (hval 0 22 v0 rfl rfl)
    simpa [Value.cells] using hcs
  have hv2 : v2 = va := by
    obtain ⟨a, n, c, rfl⟩ := okWide_slice Tryd.underlying23 (hval 2 23 v2 rfl rfl)
    simpa [Value.cells] using hca
  subst hv0 hv2
  have he := env_of_laid hL
  refine (evalFuel_any alive_any 1048576 W.heap.size W v0 v2 l s la n3 n4 hfns hints (Nat.le_refl _) (by omega) (by omega) he (size_of_env he)).mono fun e W' ⟨he, hfr⟩ => ?_
  subst he
  exact ⟨_, rfl, post_true rfl (by kernel_rfl) (by rw [Tryd.params3]; decide) rfl hW' hAk hfr⟩

theorem fuel_reads (os : Os) {H : Type} (enc : TypeId × Value → H) : ∃ places, DataW.whole enc Tryd.prog ((World.doorLaid Tryd.prog 400 os).forCall (fun _ _ => 0) ⟨#[], #[.slice none 0 0, .string .empty, .slice none 0 0, .int .i64 0, .int .i64 0], []⟩).memory Tryd.f3.params.toList Rows.evalFuelSpec.vars false (Array.toList (α := Value) #[.slice none 0 0, .string .empty, .slice none 0 0, .int .i64 0, .int .i64 0]) 8 = some ([.nil, .lit (.string []), .nil, .lit (.int .i64 0), .lit (.int .i64 0)], [], places) :=
  ⟨[], by kernel_rfl⟩

set_option maxRecDepth 100000 in
theorem fuel_lifted (os : Os) (started : os.Started) (H : Type) (enc : TypeId × Value → H) (F : Stop.Interp) :
    ReturnsInHanded {} Tryd.checked os 3 .any ((Rows.OpenSpec.upto Rows.evalFuelSpec).preRow enc Tryd.prog Tryd.f3 Rows.evalFuelUptoRow.domain false Rows.evalFuelUptoRow.laid) (((Rows.OpenSpec.upto Rows.evalFuelSpec).at F).post enc Tryd.prog Tryd.f3 false true false false) := by
  obtain ⟨places, hx⟩ := fuel_reads os enc
  refine returnsInHanded_of_row (C := Tryd.checked) (s := Rows.OpenSpec.upto Rows.evalFuelSpec) own' started (by kernel_rfl) Tryd.func3
    (witness_row_atRef (enc := enc) (C := Tryd.checked) false (World.doorLaid Tryd.prog 400 os) #[.slice none 0 0, .string .empty, .slice none 0 0, .int .i64 0, .int .i64 0] rfl (by kernel_rfl) (by kernel_rfl) (by kernel_rfl)
      (OpenSpec.preRow_of_cond 8 hx (by kernel_rfl) (fun k hk => by cases hk; kernel_rfl) (by kernel_rfl) (door_met os _))) ?_
  intro W base args ds gs before hval hW _ hcond _ hL _ _
  exact fuel_contract H enc W base args ds gs before hval hW (hcond _ rfl) hL

theorem evalFuel_upto : Rows.EvalFuelUptoSaid :=
  OpenClaim.holds_of_cond 3 Tryd.f3 rfl rfl rfl rfl rfl rfl rfl ⟨rfl, rfl, rfl, rfl, rfl⟩ rfl rfl rfl rfl rfl (by kernel_rfl) Tryd.func3 (by kernel_rfl)
    (of_decide_eq_true (by kernel_rfl)) (by unfold Func.isWrapper; first | (rw [if_pos (by decide +kernel)]; kernel_rfl) | (rw [if_neg (by decide +kernel)]; exact ⟨rfl, rfl⟩))
    (fun os started H enc _ F => by rw [OpenClaim.pre_eq_preRow]; exact fuel_lifted os started H enc F)

theorem fuel_plain (f : FuncId) (fn : Func) (hf : Tryd.pinned.checked.prog.funcNamed "exactchange/xclaw3.EvalFuel" = some f) (hfn : Tryd.pinned.checked.prog.funcs[f]? = some fn) :
    true = Tryd.pinned.checked.prog.looks [] ∧ ∀ (j : Nat) t, fn.params[j]? = some t → Tryd.pinned.checked.prog.wantsStandIn t = false := by
  obtain rfl : f = 3 := Option.some.inj ((show Tryd.prog.funcNamed "exactchange/xclaw3.EvalFuel" = some 3 by kernel_rfl).symm.trans hf) |>.symm
  obtain rfl : fn = Tryd.f3 := (Option.some.inj (Tryd.func3.symm.trans hfn)).symm
  refine ⟨by kernel_rfl, fun j t ht => ?_⟩
  rw [Tryd.params3] at ht
  have hm := Array.mem_of_getElem? ht
  simp only [List.mem_toArray, List.mem_cons, List.not_mem_nil, or_false] at hm
  rcases hm with rfl | rfl | rfl | rfl | rfl
  all_goals exact (show Tryd.prog.wantsStandIn _ = false by kernel_rfl)

theorem evalFuel_card : Rows.EvalFuelUptoCardSaid :=
  Claim7.holds_tied_plain_at .later [] _ _ _ _ evalFuel_upto (fun _ h => by cases h) (by kernel_rfl) (fun _ h => by cases h) evalFuelUpto_row_tie rfl ⟨rfl, rfl⟩ (by kernel_rfl) rfl fuel_plain (by kernel_rfl)
#print axioms evalFuel_card
end Go.Proofs.YtdgmengfdfkgaabDoor
