/- The comparisons, walked where both are the same. -/
import Derived.Test.YtodolmdiebgmjaaDoorX6
namespace Go.Proofs.YtodolmdiebgmjaaDoor
open Go.RowKit

set_option maxHeartbeats 400000 in
theorem sameNames_eq (S1 S2 : Nat → Prop) (v1 v2 : Value) (l : List ByteArray) (w : World) (h1 : Row S1 w 9 1 v1 l.length (l.map .string)) (h2 : Row S2 w 9 1 v2 l.length (l.map .string)) :
    Calls Tryd.prog 25 #[v1, v2] w fun e w' => e = .returned (.bool true) ∧ ∃ n, w' = w.drewN n := by
  have H1 := hide h1
  have H2 := hide h2
  obtain ⟨a1, c1, rfl⟩ := h1.form
  obtain ⟨a2, c2, rfl⟩ := h2.form
  clear h1 h2
  go_enter Tryd.func25, Tryd.ntmps25
  go_wp2_with fail
  go_loopw [13] (fun v wr => ∃ i : Nat, i ≤ l.length ∧ v = .int .i64 i ∧ ∃ n, wr = w.drewN n) (fun v _ => l.length - (intOf v).toNat)
  case atStart => exact ⟨0, Nat.zero_le _, rfl, 0, rfl⟩
  case round =>
    obtain ⟨i, hi, rfl, m, rfl⟩ := hrel
    by_cases hlt : i < l.length
    · obtain ⟨g1, cap1, hv, hg1, _, hc1, hc1', hcell1⟩ := H1.out.cells (by omega)
      injection hv with hv1 _ hv2
      subst hv1 hv2
      obtain ⟨g2, cap2, hv, hg2, _, hc2, hc2', hcell2⟩ := H2.out.cells (by omega)
      injection hv with hv1 _ hv2
      subst hv1 hv2
      have e1 : w.cell? ⟨g1, i, none⟩ = some (.string l[i]) := by rw [hcell1 i (by omega), List.getElem?_map, List.getElem?_eq_getElem hlt]; rfl
      have e2 : w.cell? ⟨g2, i, none⟩ = some (.string l[i]) := by rw [hcell2 i (by omega), List.getElem?_map, List.getElem?_eq_getElem hlt]; rfl
      generalize l[i] = x at e1 e2
      unfold maxLen at hc1' hc2'
      clear hcell1 hcell2 H1 H2
      have i1 : (i : Int) < (l.length : Int) := by omega
      have i0 : (0 : Int) ≤ (i : Int) := by omega
      go_wp2_with fail
      go_quiet (fail)
      go_wp2_with fail
      go_roundw
      case rel => exact ⟨i + 1, by omega, by go_num, _, rfl⟩
      case measure => simp [intOf]; omega
    · go_wp2_with fail
      go_ret
      exact ⟨rfl, m, rfl⟩

end Go.Proofs.YtodolmdiebgmjaaDoor
