/- ScopeNeeds is true: a right function whose term needs a name has it as a parameter; without one of those that it needs it is wrong. Of every list of functions that the row's own reading takes, without a ring, of bulk at most 1048576, and every two numbers. -/
import Derived.Test.YtmjpfiecgkoaeaaRd
import Derived.Test.YtmjpfiecgkoaeaaK1
namespace Go.Proofs.Ytmjpfiecgkoaeaa
open Go.ChangeShapes Go.WideShapes Go.ChangeAt Go.RowKit

theorem needs_contract (H : Type) (enc : TypeId × Value → H) (W : World) (base : Nat) (args : Array Value) (ds gs : List (DataW H)) (before : List MemPlace)
    (hval : ∀ (j : Nat) t v, Try.f5.params[j]? = some t → args[j]? = some v → Value.okWide Try.prog W .any base t v)
    (hW : DataW.Whole enc Try.prog Try.f5.params.toList Rows.scopeNeedsSpec.vars false W args.toList ds gs before) (hk : Rows.uptoSmall H (ds ++ gs) = true) :
    Calls Try.prog 5 args W fun e W' => ∃ v, e = .returned v ∧ Rows.scopeNeedsSpec.post enc Try.prog Try.f5 false true false false W args v W' := by
  have hW' := hW
  obtain ⟨p, q, hA0, hV, rfl, hfz, hnd⟩ := hW
  have hA : DataW.TrodAll enc Try.prog W 0 (fun _ => true) true Try.f5.params.toList args.toList ds p := hA0
  have hAk := hA
  rw [Try.params5] at hA hval
  obtain ⟨v0, v1, v2, d0, d1, d2, p0, p1, p2, rfl, rfl, rfl, h0, h1, h2⟩ := trodAll_three hA
  obtain ⟨rfl, rfl⟩ := trodVars_none hV
  obtain ⟨a1, rfl, rfl, rfl, w1⟩ := open_int Try.underlying3 (hval 1 3 v1 rfl rfl) h1
  obtain ⟨a2, rfl, rfl, rfl, w2⟩ := open_int Try.underlying3 (hval 2 3 v2 rfl rfl) h2
  obtain ⟨fuel, hf⟩ := h0
  simp only [List.append_nil] at hW' hAk hk
  have hb : Rows.uptoBulkAll [d0, DataW.lit (H := H) (.int .i64 a1), DataW.lit (H := H) (.int .i64 a2)] ≤ 1048576 := of_decide_eq_true hk
  simp only [Rows.uptoBulkAll] at hb
  have hb0 : Rows.uptoBulk d0 ≤ 1048576 := by omega
  obtain ⟨v, l, hcs, hfns, hwt⟩ := open_fns 1048576 fuel _ (d0, p0) hf hb0
  have hwt' : (l.map wf).sum ≤ Rows.uptoBulk d0 := hwt
  have hv0 : v0 = v := by
    obtain ⟨a, n, c, rfl⟩ := okWide_slice Try.underlying22 (hval 0 22 v0 rfl rfl)
    simpa [Value.cells] using hcs
  subst hv0
  refine (scopeNeeds_any 1048576 W.heap.size W v0 l a1 a2 hfns (Nat.le_refl _) (by omega) w1 w2).mono fun e W' ⟨he, hfr⟩ => ?_
  subst he
  exact ⟨_, rfl, post_true rfl (by kernel_rfl) (by rw [Try.params5]; decide) rfl hW' hAk hfr⟩

set_option maxRecDepth 100000 in
theorem needs_lifted (os : Os) (started : os.Started) (H : Type) (enc : TypeId × Value → H) (F : Stop.Interp) :
    ReturnsInHanded {} Try.checked os 5 .any ((Rows.OpenSpec.upto Rows.scopeNeedsSpec).pre6 enc Try.prog Try.f5 Rows.scopeNeedsUptoRow.domain false) (((Rows.OpenSpec.upto Rows.scopeNeedsSpec).at F).post enc Try.prog Try.f5 false true false false) := by
  refine returnsInHanded_of_cond (C := Try.checked) (s := Rows.OpenSpec.upto Rows.scopeNeedsSpec) (k := Rows.uptoSmall) rfl own' started (by kernel_rfl) Try.func5
    (OpenSpec.witness (enc := enc) (C := Try.checked) (s := Rows.OpenSpec.upto Rows.scopeNeedsSpec) (k := Rows.uptoSmall) rfl false ⟨#[], #[.slice none 0 0, .int .i64 0, .int .i64 0], []⟩ 8 (by kernel_rfl) (by kernel_rfl) (by kernel_rfl)
      (x := ([.nil, .lit (.int .i64 0), .lit (.int .i64 0)], [], [])) (by kernel_rfl) rfl (by kernel_rfl)) ?_
  intro W base args ds gs before hval hW _ hk _
  exact needs_contract H enc W base args ds gs before hval hW hk

theorem scopeNeeds_upto : Rows.ScopeNeedsUptoSaid :=
  OpenClaim.holds_of_cond 5 Try.f5 rfl rfl rfl rfl rfl rfl rfl ⟨rfl, rfl, rfl, rfl, rfl⟩ rfl rfl rfl rfl rfl (by kernel_rfl) Try.func5 (by kernel_rfl)
    (of_decide_eq_true (by kernel_rfl)) (by unfold Func.isWrapper; first | (rw [if_pos (by decide +kernel)]; kernel_rfl) | (rw [if_neg (by decide +kernel)]; exact ⟨rfl, rfl⟩))
    (fun os started H enc _ F => needs_lifted os started H enc F)
#print axioms scopeNeeds_upto
end Go.Proofs.Ytmjpfiecgkoaeaa
