/- What a right term needs is there: as plain functions. No walk in it. -/
import Derived.Test.YtdgmengfdfkgaabDoorN1Pc
import Derived.Test.YtdgmengfdfkgaabDoorW3W4
import Derived.Test.YtdgmengfdfkgaabDoorL2L3
namespace Go.Proofs.YtdgmengfdfkgaabDoor

theorem with_zero {c : Pu.Cnt} {l : List ByteArray} {x : ByteArray} {b : Pu.Cnt} (h : Pu.with' b l x = 0 ∧ 0 < Pu.with' c l x) : b x = 0 ∧ 0 < c x := by
  unfold Pu.with' at h
  omega
/-- Names that a right term adds are there. -/
def Adds (c b : Pu.Cnt) (acc l : List ByteArray) : Prop := ∀ x, x ∈ l → x ∈ acc ∨ (b x = 0 ∧ 0 < c x)
theorem Adds.refl (c b : Pu.Cnt) (acc : List ByteArray) : Adds c b acc acc := fun _ h => .inl h
theorem Adds.trans {c b : Pu.Cnt} {l1 l2 l3 : List ByteArray} (h : Adds c b l1 l2) (k : Adds c b l2 l3) : Adds c b l1 l3 := fun x hx => (k x hx).elim (h x) .inr
theorem Adds.out {c b : Pu.Cnt} {l l1 l2 : List ByteArray} (h : Adds (Pu.with' c l) (Pu.with' b l) l1 l2) : Adds c b l1 l2 := fun x hx => (h x hx).imp id with_zero
end Go.Proofs.YtdgmengfdfkgaabDoor

/- 'Has' and 'ScopeNeeds', walked. -/
namespace Go.Proofs.YtdgmengfdfkgaabDoor
open Go.RowKit Go.Maps Go.WideMaps
theorem has_take (l : List ByteArray) (i : Nat) (h : i < l.length) (x : ByteArray) : Pu.has (l.take (i + 1)) x = (Pu.has (l.take i) x || decide (l[i] = x)) := by
  rw [List.take_succ_eq_append_getElem h, has_snoc]
set_option maxHeartbeats 1000000 in
theorem has_any (B : Nat) (v : Value) (l : List ByteArray) (x : ByteArray) (w : World) (hl : Names B w v l) :
    Calls Tryd.prog 49 #[v, .string x] w fun e w' => e = .returned (.bool (Pu.has l x)) ∧ w' = w := by
  obtain ⟨a0, c0, rfl, hc, hc'⟩ := hl.1.form
  unfold maxLen at hc'
  have HL := hide hl
  clear hl
  go_enter Tryd.func49, Tryd.ntmps49
  go_wp2_with fail
  go_loop [9] (fun q => ∃ i : Nat, i ≤ l.length ∧ q = .int .i64 i ∧ Pu.has (l.take i) x = false) (fun q => l.length - (intOf q).toNat)
  case atStart => exact ⟨0, Nat.zero_le _, rfl, rfl⟩
  case round =>
    obtain ⟨i, hi, rfl, hh⟩ := hrel
    have HH := hide hh
    clear hh
    by_cases hlt : i < l.length
    · obtain ⟨g, o, cp, hv, _, _, hg, hcell, _⟩ := HL.out.at hlt
      injection hv with hv1 _ hv2
      subst hv1 hv2
      have hst := has_take l i hlt x
      obtain ⟨z, hz⟩ : ∃ z, z = l[i] := ⟨_, rfl⟩
      rw [← hz] at hcell hst
      have HST := hide hst
      have HZ := hide hz
      clear hst hz
      have i1 : (i : Int) < (l.length : Int) := by omega
      have i0 : (0 : Int) ≤ (i : Int) := by omega
      by_cases e : z = x
      · subst e
        go_wp2_with fail
        go_ret
        have ht : Pu.has (l.take (i + 1)) z = true := by rw [HST.out]; simp
        have h2 : Pu.has l z = true := by
          unfold Pu.has at ht ⊢
          rw [List.any_eq_true] at ht ⊢
          obtain ⟨y, hy, hy2⟩ := ht
          exact ⟨y, List.mem_of_mem_take hy, hy2⟩
        rw [h2]
        exact ⟨rfl, rfl⟩
      · have e' := str_ne' e
        go_wp2_with fail
        go_round
        case rel => exact ⟨i + 1, by omega, by go_num, by rw [HST.out, HH.out, decide_eq_false e]; rfl⟩
        case measure => simp [intOf]; omega
    · have hil : i = l.length := by omega
      subst hil
      go_wp2_with fail
      go_ret
      have := HH.out
      rw [List.take_length] at this
      rw [this]
      exact ⟨rfl, rfl⟩
end Go.Proofs.YtdgmengfdfkgaabDoor
