/- The builder's methods, walked: copyCheck, WriteString. -/
import Derived.Test.YtodolmdiebgmjaaDoorW9
import Derived.Lib.Builder
import Derived.Lib.AppendStr
import Derived.Lib.OthersKept
import Derived.Laws.Externs
namespace Go.Proofs.YtodolmdiebgmjaaDoor
open Go.RowKit

/-- What printing leaves as it was: all below B; and every block that is no row of bytes, but for the builder's own. -/
structure Pf (B b : Nat) (w w' : World) : Prop where
  below : Below B w w'
  kept : Lib.OthersKept 5 (some b) w w'

theorem Pf.refl (B b : Nat) (w : World) : Pf B b w w := ⟨Below.refl _ _, Lib.OthersKept.refl _ _ _⟩
theorem Pf.trans {B b : Nat} {a c d : World} (h : Pf B b a c) (k : Pf B b c d) : Pf B b a d := ⟨h.below.trans k.below, h.kept.trans k.kept⟩
theorem Pf.alloc {B b : Nat} {a w : World} (h : Pf B b a w) (hB : B ≤ w.heap.size) (o : Obj) : Pf B b a (w.alloc o) := ⟨h.below.alloc hB o, h.kept.alloc o⟩
theorem Pf.drew {B b : Nat} {a w : World} (h : Pf B b a w) : Pf B b a w.drew := ⟨h.below.drew, h.kept.drew⟩
/-- What makes blocks alone. -/
theorem Pf.of_below {B b : Nat} {w w' : World} (h : Below w.heap.size w w') (hB : B ≤ w.heap.size) : Pf B b w w' :=
  ⟨h.mono hB, fun k o hk _ _ => by rw [h.block k (Array.getElem?_eq_some_iff.1 hk).1]; exact hk⟩
theorem Pf.block {B b : Nat} {w w' : World} (h : Pf B b w w') {g : Nat} {cur : Array Value} {t : TypeId} {z : Nat × Nat} (hg : w.heap[g]? = some (.cells cur t z)) (hb : g ≠ b) (ht : t ≠ 5) : w'.heap[g]? = some (.cells cur t z) :=
  h.kept g _ hg (by simpa using hb) (fun c fz e => ht (by injection e))

/-- A builder that holds these bytes. -/
def Bd (B b : Nat) (l : List UInt8) (w : World) : Prop := Lib.IsBuilder 58 5 B b (Lib.byteCells l) w

theorem Bd.at {B b : Nat} {l : List UInt8} {w : World} (h : Bd B b l w) : ∃ p v, w.heap[b]? = some (.cells #[p, v] 58 (0, 0)) ∧ (p = .pointer none ∨ p = .pointer (some ⟨b, 0, none⟩)) ∧ w.ownsRow B 5 1 v l.length (Lib.byteCells l) ∧ v.ownBlock ≠ some b ∧ B ≤ b := by
  rcases h with ⟨hB, v, h1, h2, h3⟩ | ⟨hB, v, h1, h2, h3⟩
  · exact ⟨_, v, h1, .inl rfl, by simpa [Lib.byteCells_length] using h2, h3, hB⟩
  · exact ⟨_, v, h1, .inr rfl, by simpa [Lib.byteCells_length] using h2, h3, hB⟩
/-- It stays one while no block of its own turns. -/
theorem Bd.below {B b : Nat} {l : List UInt8} {w w' : World} (h : Bd B b l w) (hb : Below w.heap.size w w') : Bd B b l w' := by
  have hk : ∀ p, Lib.BuilderAt 58 5 B b p (Lib.byteCells l) w → Lib.BuilderAt 58 5 B b p (Lib.byteCells l) w' := by
    rintro p ⟨hB, v, h1, h2, h3⟩
    refine ⟨hB, v, by rw [hb.block b (Array.getElem?_eq_some_iff.1 h1).1]; exact h1, ?_, h3⟩
    exact h2.kept (row := none) ⟨hb.os, hb.tape, hb.output, hb.size, fun k hk _ => hb.block k hk⟩ (by cases v.ownBlock <;> simp)
  rcases h with h | h
  · exact .inl (hk _ h)
  · exact .inr (hk _ h)

theorem Tryd.size58 : (Tryd.prog.info? 58).map (·.size) = some 2 := by kernel_rfl
theorem Tryd.lies58 : liesAt Tryd.prog Tryd.prog.depth 58 (2 / Tryd.prog.cellsOf 58) 0 58 1 = true := by kernel_rfl
theorem Tryd.info5 : (Tryd.prog.info? 5).map (fun i => (i.zero, i.size, i.bytes)) = some (some (.int .u8 0), 1, 1) := by kernel_rfl

set_option maxHeartbeats 1000000 in
set_option maxRecDepth 100000 in
theorem copyCheck_used (b : Nat) (w : World) (h0 : w.cell? ⟨b, 0, none⟩ = some (.pointer (some ⟨b, 0, none⟩))) :
    Calls Tryd.prog 49 #[.pointer (some ⟨b, 0, none⟩)] w fun e w' => e = .returned (.tuple #[]) ∧ w' = w := by
  obtain ⟨j, hj, _⟩ := Option.map_eq_some_iff.1 Tryd.size58
  go_enter Tryd.func49, Tryd.ntmps49
  go_wp2
  rw [Lib.run_neq_ptr_same w _ Tryd.underlying55 hj]
  go_wp2
  go_end0
  exact ⟨rfl, rfl⟩

set_option maxHeartbeats 1000000 in
set_option maxRecDepth 100000 in
theorem copyCheck_fresh (b : Nat) (w : World) (h0 : w.cell? ⟨b, 0, none⟩ = some (.pointer none)) (hsh : w.shape? b = some (58, 2)) (hfz : w.frozen? ⟨b, 0, none⟩ = false) :
    Calls Tryd.prog 49 #[.pointer (some ⟨b, 0, none⟩)] w fun e w' => e = .returned (.tuple #[]) ∧ w' = w.setCell ⟨b, 0, none⟩ (.pointer (some ⟨b, 0, none⟩)) := by
  obtain ⟨j, hj, hjs⟩ := Option.map_eq_some_iff.1 Tryd.size58
  have r1 := Lib.run_to_unsafe (P := Tryd.prog) w ⟨b, 0, none⟩ Tryd.underlying55 Tryd.underlying80 hj (by rw [hjs]; decide) hsh (Nat.zero_lt_succ 1)
  have r3 := Lib.run_from_unsafe (P := Tryd.prog) w ⟨b, 0, none⟩ Tryd.underlying80 Tryd.underlying55 hj hsh Tryd.lies58
  have r2 : ∀ x w', (callFunc 59 #[x]).run Tryd.prog w' = .ok (.value x) w' := fun x w' => by
    rw [run_callFunc_extern Tryd.func59 (by kernel_rfl) (by kernel_rfl) (by kernel_rfl) (e := Extern.AbiNoEscape.same) (by kernel_rfl)]
    rw [Lib.run_noEscape]; rfl
  have r4 : ∀ w', (binOp .neq 55 (.pointer (some ⟨b, 0, none⟩)) (.pointer (some ⟨b, 0, none⟩))).run Tryd.prog w' = .ok (.bool false) w' := fun w' => Lib.run_neq_ptr_same w' _ Tryd.underlying55 hj
  go_enter Tryd.func49, Tryd.ntmps49
  go_wp2
  go_end0
  exact ⟨rfl, rfl⟩

theorem copyCheck_any (B b : Nat) (l : List UInt8) (w : World) (h : Bd B b l w) :
    Calls Tryd.prog 49 #[.pointer (some ⟨b, 0, none⟩)] w fun e w' => e = .returned (.tuple #[]) ∧ Lib.BuilderAt 58 5 B b (.pointer (some ⟨b, 0, none⟩)) (Lib.byteCells l) w' ∧ Pf B b w w' := by
  rcases h with h | h
  · refine (copyCheck_fresh b w h.cell0 h.shape h.frozen0).mono ?_
    rintro e w' ⟨rfl, rfl⟩
    exact ⟨rfl, h.used _, (Below.refl B w).setCell (p := ⟨b, 0, none⟩) h.1 _, Lib.OthersKept.setCell (b := b) (Lib.OthersKept.refl _ _ _) ⟨b, 0, none⟩ rfl _⟩
  · refine (copyCheck_used b w h.cell0).mono ?_
    rintro e w' ⟨rfl, rfl⟩
    exact ⟨rfl, h, Pf.refl _ _ _⟩

set_option maxHeartbeats 1000000 in
set_option maxRecDepth 100000 in
theorem write_any (B b : Nat) (l : List UInt8) (s : ByteArray) (w : World) (h : Bd B b l w) (hlen : l.length + s.size ≤ 1000000000) (hBw : B ≤ w.heap.size) :
    Calls Tryd.prog 29 #[.pointer (some ⟨b, 0, none⟩), .string s] w fun e w' => (∃ x, e = .returned x) ∧ Bd B b (l ++ s.data.toList) w' ∧ Pf B b w w' := by
  obtain ⟨i0, hi, hz0, hz1, hz2⟩ := info_parts Tryd.info5
  have H := hide h
  clear h
  go_enter Tryd.func29, Tryd.ntmps29
  go_wp2_with fail
  refine (copyCheck_any B b l _ H.out).mono ?_
  rintro e w1 ⟨rfl, ⟨hB, v, hbk, hown, hne⟩, hp1⟩
  have c0 : w1.cell? ⟨b, 0, none⟩ = some (.pointer (some ⟨b, 0, none⟩)) := by rw [cell_of_heap hbk]; rfl
  have c1 : w1.cell? ⟨b, 1, none⟩ = some v := by rw [cell_of_heap hbk]; rfl
  have hl : (Lib.byteCells l).length = l.length := Lib.byteCells_length l
  have HP1 := hide hp1
  have HO := hide hown
  have HB := hide hbk
  have hs1 := hp1.below.size
  clear hp1 hown hbk
  go_wp2_with (at_builtin; refine Lib.wpList_append_own_string _ rfl _ _ 56 9 rfl B 5 i0 Tryd.underlying56 Tryd.underlying9 hi hz0 hz1 hz2 _ _ _ rfl HO.out s rfl ?c3 ?c4 ?c5 ?_)
  case c3 => unfold maxLen; omega
  case c4 => omega
  case c5 => omega
  intro v' w2 hown' hgrow _
  have hb2 : w2.heap[b]? = some (.cells #[.pointer (some ⟨b, 0, none⟩), v] 58 (0, 0)) := by
    rw [hgrow.block b (Array.getElem?_eq_some_iff.1 HB.out).1 (fun e => hne e.symm)]; exact HB.out
  have d0 : w2.cell? ⟨b, 0, none⟩ = some (.pointer (some ⟨b, 0, none⟩)) := by rw [cell_of_heap hb2]; rfl
  have d1 : w2.cell? ⟨b, 1, none⟩ = some v := by rw [cell_of_heap hb2]; rfl
  have f1 : w2.frozen? ⟨b, 1, none⟩ = false := frozen_of_heap hb2 1
  obtain ⟨ao, n', cap, rfl⟩ : ∃ ao n' cap, v' = .slice ao n' cap := by
    rcases hown'.2 with ⟨hv, _⟩ | ⟨g, cap, cur, hv, _⟩
    · exact ⟨_, _, _, hv⟩
    · exact ⟨_, _, _, hv⟩
  have HG := hide hgrow
  have HO2 := hide hown'
  have HB2 := hide hb2
  clear hgrow hown' hb2 c0 c1
  go_wp2_with fail
  go_ret2
  refine ⟨⟨_, rfl⟩, ?_, ?_⟩
  · refine .inr (Lib.BuilderAt.put (T := 58) (e := 5) hB HB2.out ?_ (by decide))
    have := HO2.out
    rw [Lib.strCells_eq] at this
    have e2 : Lib.byteCells (l ++ s.data.toList) = Lib.byteCells l ++ Lib.byteCells s.data.toList := by simp [Lib.byteCells]
    rw [e2, List.length_append, hl]
    rw [show (Lib.byteCells s.data.toList).length = s.size from by rw [Lib.byteCells_length]; exact len_bytes s]
    exact this
  · refine HP1.out.trans ⟨((Below.refl B w1).grown HG.out (by omega) (fun k hk => (HO.out.lt k hk).1)).setCell (p := ⟨b, 1, none⟩) hB _, ?_⟩
    refine Lib.OthersKept.setCell (b := b) (Lib.OthersKept.grown (Lib.OthersKept.refl _ _ _) HG.out ?_) ⟨b, 1, none⟩ rfl _
    intro g hg
    rcases HO.out.2 with ⟨rfl, _⟩ | ⟨g', cap', cur', rfl, _, hh, _⟩
    · simp [Value.ownBlock] at hg
    · simp [Value.ownBlock] at hg; subst hg; exact ⟨_, _, hh⟩

end Go.Proofs.YtodolmdiebgmjaaDoor
