/- own: 'count', as a call. -/
import Derived.Test.YtdcdegeeaakekacDoorOc3
namespace Go.Proofs.YtdcdegeeaakekacDoor
open Go.RowKit Go.Shelf

/-- Names as a list of names that are short. -/
def nms : (l : List ByteArray) → Short l → List Nm
  | [], _ => []
  | x :: l, h => ⟨x, h x (List.mem_cons_self ..)⟩ :: nms l (fun y hy => h y (List.mem_cons_of_mem _ hy))
theorem nms_map : ∀ (l : List ByteArray) (h : Short l), (nms l h).map (·.1) = l
  | [], _ => rfl
  | x :: l, h => congrArg (List.cons x) (nms_map l (fun y hy => h y (List.mem_cons_of_mem _ hy)))
theorem nms_length (l : List ByteArray) (h : Short l) : (nms l h).length = l.length := by
  have := congrArg List.length (nms_map l h)
  rwa [List.length_map] at this
theorem nms_get (l : List ByteArray) (h : Short l) (j : Nat) (hj : j < l.length) (d : Nm) : ((nms l h).getD j d).1 = l[j] := by
  have e := nms_map l h
  have hj' : j < (nms l h).length := by rw [nms_length]; exact hj
  rw [List.getD_eq_getElem?_getD, List.getElem?_eq_getElem hj', Option.getD_some]
  have := congrArg (fun m : List ByteArray => m[j]?) e
  simp only [List.getElem?_map, List.getElem?_eq_getElem hj', List.getElem?_eq_getElem hj, Option.map_some, Option.some.injEq] at this
  exact this
theorem nms_at {B : Nat} {w : World} {v : Value} {l : List ByteArray} (h : Names B w v l) : NmAt w.heap.size w v (nms l h.2) := by
  obtain ⟨⟨a, cap, rfl, h2, h3, h4⟩, h5⟩ := h
  refine ⟨a, cap, by rw [nms_length], fun h0 => ?_⟩
  rw [nms_length] at h0
  obtain ⟨g, o, rfl, h6, h7, h8⟩ := h4 h0
  refine ⟨g, o, rfl, h7, fun j hj => ?_⟩
  rw [nms_length] at hj
  rw [h8 j (by simpa using hj), nms_get l _ j hj, List.getElem?_map, List.getElem?_eq_getElem hj]
  rfl

theorem count_any (S : Nat → Prop) (B : Nat) (kd : Int) (hkd : (Lit.int .i64 kd).wf = true) (v : Value) (l : List ByteArray) (hn : l.length ≤ 1099511627776) (t : Tm) (cs : List Value) (w : World) (hl : Names B w v l) (hT : RS S w cs t) (hS : ∀ g, S g → g < w.heap.size) :
    Calls Tryd.prog 66 #[.int .i64 kd, v, .agg cs.toArray] w fun e W' => ∃ cs', e = .returned (.agg cs'.toArray) ∧ Fr No w W' ∧ RS (fun g => S g ∨ New w W' g) W' cs' (cnt kd l t) := by
  obtain ⟨kd', n, x, y, a0, n0, d0, a1, n1, d1, a2, n2, d2, rfl⟩ := hT.form
  have h := count_in Fence.wide 3 trivial trivial trivial rfl (Nat.le_refl _) S kd hkd v (nms l hl.2) (by rw [nms_length]; exact hn) t _ _ _ _ _ _ _ w (nms_at hl) hT hS
  rw [nms_map] at h
  refine (callsIn_wide.1 h).mono ?_
  rintro e W' ⟨c0, c1, c2, c3, c4, c5, c6, rfl, hb, hr⟩
  exact ⟨_, rfl, fr_below hb, hr⟩
end Go.Proofs.YtdcdegeeaakekacDoor
