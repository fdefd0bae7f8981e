/- 'needs': what a term asks for. -/
import Derived.Test.YtdgmengfdfkgaabDoorW1W2
namespace Go.Proofs.YtdgmengfdfkgaabDoor
open Go.RowKit Go.Maps Go.WideMaps
def sumW {α : Type} (f : α → Nat) (l : List α) (i : Nat) : Nat := ((l.take i).map f).sum
theorem sumW_succ {α : Type} (f : α → Nat) (l : List α) (i : Nat) (h : i < l.length) : sumW f l (i + 1) = sumW f l i + f l[i] := by
  unfold sumW
  rw [List.take_succ_eq_append_getElem h, List.map_append, List.sum_append]
  simp
theorem sumW_all {α : Type} (f : α → Nat) (l : List α) : sumW f l l.length = (l.map f).sum := by unfold sumW; rw [List.take_length]
theorem sumW_le {α : Type} (f : α → Nat) : ∀ (l : List α) (i : Nat), sumW f l i ≤ (l.map f).sum
  | [], i => by simp [sumW]
  | a :: l, 0 => by simp [sumW]
  | a :: l, i + 1 => by
    have := sumW_le f l i
    simp only [sumW, List.take_succ_cons, List.map_cons, List.sum_cons] at this ⊢
    omega
/-- What has turned since. -/
def Moved (A Td Nm : Nat) (w w' : World) (v v' : Value) : Prop := Fr (TS A Td Nm v) w w' ∧ (v'.ownBlock = v.ownBlock ∨ ∃ g, v'.ownBlock = some g ∧ w.heap.size ≤ g)
theorem Moved.refl {A Td Nm : Nat} {w : World} {v : Value} : Moved A Td Nm w w v v := ⟨Fr.refl _ _, .inl rfl⟩
theorem Moved.trans {A Td Nm : Nat} {w w' w'' : World} {v v' v'' : Value} (h : Moved A Td Nm w w' v v') (k : Moved A Td Nm w' w'' v' v'') : Moved A Td Nm w w'' v v'' := by
  have hs := h.1.size
  refine ⟨h.1.trans' k.1 ?_, ?_⟩
  · intro i hi e
    rcases e with e | e | e | e
    · exact .inl e
    · exact .inr (.inl e)
    · exact .inr (.inr (.inl e))
    · rcases h.2 with h2 | ⟨g, h2, h3⟩
      · exact .inr (.inr (.inr (by rw [← h2]; exact e)))
      · rw [h2] at e; cases e; omega
  · rcases k.2 with k2 | ⟨g, k2, k3⟩
    · rcases h.2 with h2 | ⟨g, h2, h3⟩
      · exact .inl (k2.trans h2)
      · exact .inr ⟨g, k2.trans h2, h3⟩
    · exact .inr ⟨g, k2, by omega⟩
theorem Moved.no {A Td Nm : Nat} {w w' w'' : World} {v v' : Value} (h : Moved A Td Nm w w' v v') (k : Fr No w' w'') : Moved A Td Nm w w'' v v' := ⟨h.1.no k, h.2⟩
theorem Moved.alloc {A Td Nm : Nat} {w w' : World} {v v' : Value} (h : Moved A Td Nm w w' v v') (o : Obj) : Moved A Td Nm w (w'.alloc o) v v' := ⟨h.1.alloc o, h.2⟩
end Go.Proofs.YtdgmengfdfkgaabDoor

/- 'needs', walked. -/
namespace Go.Proofs.YtdgmengfdfkgaabDoor
open Go.RowKit Go.Maps Go.WideMaps
theorem args_at {k B : Nat} {w : World} {av : Value} {acs : List Value} {args : List (Pu.TT k)} (hr : Row B w av args.length acs) (he : Each 7 (RT k B w) acs args) (i : Nat) (hi : i < args.length) :
    ∃ g o cap kd n x y a0 n0 c0 a1 n1 c1 a2 n2 c2, av = .slice (some ⟨g, o, none⟩) args.length cap ∧ cap ≤ maxLen ∧ g < B ∧ g < w.heap.size ∧
      RT k B w [.int .i64 kd, .int .i64 n, .string x, .string y, .slice a0 n0 c0, .slice a1 n1 c1, .slice a2 n2 c2] args[i] ∧
      ∀ j, j < 7 → w.cell? ⟨g, o + i * 7 + j, none⟩ = [Value.int .i64 kd, .int .i64 n, .string x, .string y, .slice a0 n0 c0, .slice a1 n1 c1, .slice a2 n2 c2][j]? := by
  obtain ⟨g, o, cap, h1, h2, h3, h4, h5, h6⟩ := hr.at (by omega)
  obtain ⟨ck, hl, hrt, hxs⟩ := he.get i _ (List.getElem?_eq_getElem hi)
  obtain ⟨kd, n, x, y, a0, n0, c0, a1, n1, c1, a2, n2, c2, rfl⟩ := hrt.form
  refine ⟨g, o, cap, kd, n, x, y, a0, n0, c0, a1, n1, c1, a2, n2, c2, h1, h3, h4, h5, hrt, fun j hj => ?_⟩
  have hlen := he.length
  rw [Nat.add_assoc, h6 _ (by rw [hlen]; have := Nat.mul_le_mul_right 7 (show i + 1 ≤ args.length by omega); omega), hxs j hj]
theorem cases_at {k B : Nat} {w : World} {av : Value} {acs : List Value} {l : List (Int × List ByteArray × Pu.TT k)} (hr : Row B w av l.length acs) (he : Each 9 (RC (RT k B w) B w) acs l) (i : Nat) (hi : i < l.length) :
    ∃ g o cap ag av0 ac kd n x y a0 n0 c0 a1 n1 c1 a2 n2 c2, av = .slice (some ⟨g, o, none⟩) l.length cap ∧ cap ≤ maxLen ∧ g < B ∧ g < w.heap.size ∧ Names B w (.slice ag av0 ac) l[i].2.1 ∧ av0 = l[i].2.1.length ∧
      RT k B w [.int .i64 kd, .int .i64 n, .string x, .string y, .slice a0 n0 c0, .slice a1 n1 c1, .slice a2 n2 c2] l[i].2.2 ∧
      ∀ j, j < 9 → w.cell? ⟨g, o + i * 9 + j, none⟩ = [Value.int .i64 l[i].1, .slice ag av0 ac, Value.int .i64 kd, .int .i64 n, .string x, .string y, .slice a0 n0 c0, .slice a1 n1 c1, .slice a2 n2 c2][j]? := by
  obtain ⟨g, o, cap, h1, h2, h3, h4, h5, h6⟩ := hr.at (by omega)
  obtain ⟨ck, hl, ⟨vv, b, rfl, hnm, _, hrt⟩, hxs⟩ := he.get i _ (List.getElem?_eq_getElem hi)
  obtain ⟨kd, n, x, y, a0, n0, c0, a1, n1, c1, a2, n2, c2, rfl⟩ := hrt.form
  obtain ⟨ag, ac, rfl, _⟩ := hnm.1.form
  refine ⟨g, o, cap, ag, _, ac, kd, n, x, y, a0, n0, c0, a1, n1, c1, a2, n2, c2, h1, h3, h4, h5, hnm, rfl, hrt, fun j hj => ?_⟩
  have hlen := he.length
  rw [Nat.add_assoc, h6 _ (by rw [hlen]; have := Nat.mul_le_mul_right 9 (show i + 1 ≤ l.length by omega); omega), hxs j hj]
theorem Row.old {B : Nat} {w w' : World} {v : Value} {n : Nat} {xs : List Value} (h : Row B w v n xs) (ho : Old B w w') (hs : w.heap.size ≤ w'.heap.size) : Row B w' v n xs := h.kept ho (Nat.le_refl _) hs
theorem RT.old {B : Nat} {w w' : World} {k : Nat} {cs : List Value} {t : Pu.TT k} (h : RT k B w cs t) (ho : Old B w w') (hs : w.heap.size ≤ w'.heap.size) : RT k B w' cs t := h.kept ho (Nat.le_refl _) hs
theorem args_old {k B : Nat} {w w' : World} {acs : List Value} {args : List (Pu.TT k)} (he : Each 7 (RT k B w) acs args) (ho : Old B w w') (hs : w.heap.size ≤ w'.heap.size) : Each 7 (RT k B w') acs args := he.mono fun _ _ h => h.old ho hs
theorem cases_old {k B : Nat} {w w' : World} {acs : List Value} {l : List (Int × List ByteArray × Pu.TT k)} (he : Each 9 (RC (RT k B w) B w) acs l) (ho : Old B w w') (hs : w.heap.size ≤ w'.heap.size) : Each 9 (RC (RT k B w') B w') acs l :=
  he.mono fun _ _ h => h.kept ho (Nat.le_refl _) hs (fun _ _ h => RT.old h ho hs)
end Go.Proofs.YtdgmengfdfkgaabDoor
