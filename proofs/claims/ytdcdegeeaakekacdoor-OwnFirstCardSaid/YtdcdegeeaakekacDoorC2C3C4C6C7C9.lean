/- The check: are they names, unlike each other? -/
import Derived.Test.YtdcdegeeaakekacDoorN1Pc
import Derived.Test.YtdcdegeeaakekacDoorW3W4
namespace Go.Proofs.YtdcdegeeaakekacDoor
open Go.RowKit Go.Maps Go.WideMaps
/-- The variable of 'guarded'. -/
abbrev Gd (w : World) (P : Nat) : Prop := w.heap[P]? = some (.cells #[.func (.func 25) #[] #[]] 49 (0, 0))
theorem unlike_step (l : List ByteArray) (i : Nat) (h : i < l.length) : Pu.unlikeFrom (l.take i) (l.drop i) = (!(Pu.has (l.take i) l[i]) && isName l[i] && Pu.unlikeFrom (l.take (i + 1)) (l.drop (i + 1))) := by
  rw [List.drop_eq_getElem_cons h, List.take_succ_eq_append_getElem h]
  rfl
theorem Names.fr {B : Nat} {w w' : World} {v : Value} {l : List ByteArray} (h : Names B w v l) (hf : Fr No w w') : Names B w' v l := by
  refine ⟨?_, h.2⟩
  obtain ⟨a, cap, h1, h2, h3, h4⟩ := h.1
  refine ⟨a, cap, h1, h2, h3, fun hn => ?_⟩
  obtain ⟨g, o, h5, h6, h7, h8⟩ := h4 hn
  exact ⟨g, o, h5, h6, Nat.lt_of_lt_of_le h7 hf.size, fun i hi => by
    rw [show w'.cell? ⟨g, o + i, none⟩ = w.cell? ⟨g, o + i, none⟩ from by simp only [World.cell?, hf.block g h7 (fun e => e)]]
    exact h8 i hi⟩
end Go.Proofs.YtdcdegeeaakekacDoor

/- The check: what a term is by itself. -/
namespace Go.Proofs.YtdcdegeeaakekacDoor
open Go.RowKit Go.Maps Go.WideMaps
theorem look_ok {w : World} {b K : Nat} {m : ByteArray → Option Int} (h : MapC w b K m) {x : ByteArray} (hx : x.size ≤ maxLen) :
    (Instr.lookup 54 (.map (some b)) (.string x) true).run Tryd.prog w = .ok (.tuple #[.int .i64 ((m x).getD 0), .bool (m x).isSome]) w := by
  obtain ⟨kk, D, hkk, hown, hD⟩ := h
  have hw0 : (Lit.int .i64 0).wf = true := by decide
  obtain ⟨v, ps, hrun, hv⟩ := hown.look_ok law Tryd.underlying54 (zeroE _) (plainElem_int Tryd.underlying3 hw0) (keyS hx)
  obtain ⟨c, rfl, hc, _⟩ := plainElem_int_inv Tryd.underlying3 hv
  simp only [Prod.mk.injEq] at hc
  rw [(hD x hx).1] at hc
  rw [hrun, (hD x hx).2]
  have := hc.1
  simp at this
  rw [this]
/-- The checker in memory. -/
structure CkS (B P Pm A K : Nat) (w : World) (fns : ByteArray → Option Int) (c : Pu.Cnt) : Prop where
  p : Gd w P
  m : MapC w Pm K fns
  a : CntAt w A K c
  ne : A ≠ Pm
  hA : B ≤ A
theorem CkS.no {B P Pm A K : Nat} {w w' : World} {fns : ByteArray → Option Int} {c : Pu.Cnt} (h : CkS B P Pm A K w fns c) (hf : Fr No w w') : CkS B P Pm A K w' fns c :=
  ⟨fr_heap h.p hf (fun e => e), h.m.fr hf (fun e => e), h.a.fr hf (fun e => e), h.ne, h.hA⟩
theorem CkS.mono {B P Pm A K K' : Nat} {w : World} {fns : ByteArray → Option Int} {c : Pu.Cnt} (h : CkS B P Pm A K w fns c) (hK : K ≤ K') : CkS B P Pm A K' w fns c :=
  ⟨h.p, h.m.mono hK, h.a.mono hK, h.ne, h.hA⟩
end Go.Proofs.YtdcdegeeaakekacDoor

/- The check: is a tag taken? -/
namespace Go.Proofs.YtdcdegeeaakekacDoor
open Go.RowKit Go.Maps Go.WideMaps
theorem taken_snoc {α : Type} (l : List (Int × List ByteArray × α)) (i : Nat) (h : i < l.length) (n : Int) : Pu.taken (l.take (i + 1)) n = (Pu.taken (l.take i) n || decide (l[i].1 = n)) := by
  unfold Pu.taken
  rw [List.take_succ_eq_append_getElem h, List.any_append]
  simp
end Go.Proofs.YtdcdegeeaakekacDoor

/- The check: the cases of a match. -/
namespace Go.Proofs.YtdcdegeeaakekacDoor
open Go.RowKit Go.Maps Go.WideMaps
theorem chkCases_step {α : Type} (F : Pu.Cnt → α → Nat → Int) (c : Pu.Cnt) (d : Nat) (l : List (Int × List ByteArray × α)) (i : Nat) (h : i < l.length) : Pu.chkCases F c d (l.take i) (l.drop i) =
    if Pu.caseOwn (l.take i) l[i] = 0 then (if F (Pu.with' c l[i].2.1) l[i].2.2 d = 0 then Pu.chkCases F c d (l.take (i + 1)) (l.drop (i + 1)) else F (Pu.with' c l[i].2.1) l[i].2.2 d) else Pu.caseOwn (l.take i) l[i] := by
  rw [List.drop_eq_getElem_cons h, List.take_succ_eq_append_getElem h]
  rfl
end Go.Proofs.YtdcdegeeaakekacDoor

/- The check: a term. -/
namespace Go.Proofs.YtdcdegeeaakekacDoor
open Go.RowKit Go.Maps Go.WideMaps
theorem chkArgs_step {α : Type} (F : Pu.Cnt → α → Nat → Int) (c : Pu.Cnt) (l6 : Bool) (x : ByteArray) (d : Nat) (l : List α) (i : Nat) (h : i < l.length) : Pu.chkArgs F c l6 x d i (l.drop i) =
    if F (Pu.with' c (Pu.argNames l6 x i)) l[i] d = 0 then Pu.chkArgs F c l6 x d (i + 1) (l.drop (i + 1)) else F (Pu.with' c (Pu.argNames l6 x i)) l[i] d := by
  rw [List.drop_eq_getElem_cons h]
  rfl
/-- One more for a let's name, behind its second argument. -/
def two (i : Nat) : Nat := if 2 ≤ i then 2 else 0
/-- A name in a list of its own, new. -/
theorem one_name {w' : World} {x : ByteArray} {R : Nat} (hx : x.size ≤ maxLen) (h : w'.heap[R]? = some (.cells #[.string x] 9 (0, 0))) : Names (R + 1) w' (.slice (some ⟨R, 0, none⟩) 1 1) [x] :=
  ⟨⟨_, _, rfl, Nat.le_refl _, by unfold maxLen; decide, fun _ => ⟨_, _, rfl, Nat.lt_succ_self _, lt_of_heap h, fun i hi => by
    have : i = 0 := by simp at hi; omega
    subst this
    rw [cell_of_heap h]; rfl⟩⟩, fun y hy => by simp at hy; subst hy; exact hx⟩
end Go.Proofs.YtdcdegeeaakekacDoor

/- The check of a program. -/
namespace Go.Proofs.YtdcdegeeaakekacDoor
open Go.RowKit Go.Maps Go.WideMaps
/-- A list of functions. -/
def Fns (k B : Nat) (w : World) (v : Value) (l : List (Pu.Fn k)) : Prop := ∃ acs, Row B w v l.length acs ∧ Each 9 (RF k B w) acs l
theorem Fns.old {k B : Nat} {w w' : World} {v : Value} {l : List (Pu.Fn k)} (h : Fns k B w v l) (ho : Old B w w') (hs : w.heap.size ≤ w'.heap.size) : Fns k B w' v l := by
  obtain ⟨acs, h1, h2⟩ := h
  exact ⟨acs, h1.old ho hs, h2.mono fun _ _ h => h.kept ho (Nat.le_refl _) hs⟩
theorem fns_at {k B : Nat} {w : World} {av : Value} {l : List (Pu.Fn k)} (h : Fns k B w av l) (i : Nat) (hi : i < l.length) :
    ∃ g o cap ag av0 ac kd n x y a0 n0 c0 a1 n1 c1 a2 n2 c2, av = .slice (some ⟨g, o, none⟩) l.length cap ∧ cap ≤ maxLen ∧ g < B ∧ g < w.heap.size ∧ Names B w (.slice ag av0 ac) l[i].2.1 ∧ av0 = l[i].2.1.length ∧ l[i].1.size ≤ maxLen ∧
      RT k B w [.int .i64 kd, .int .i64 n, .string x, .string y, .slice a0 n0 c0, .slice a1 n1 c1, .slice a2 n2 c2] l[i].2.2 ∧
      ∀ j, j < 9 → w.cell? ⟨g, o + i * 9 + j, none⟩ = [Value.string l[i].1, .slice ag av0 ac, Value.int .i64 kd, .int .i64 n, .string x, .string y, .slice a0 n0 c0, .slice a1 n1 c1, .slice a2 n2 c2][j]? := by
  obtain ⟨acs, hr, he⟩ := h
  obtain ⟨g, o, cap, h1, h2, h3, h4, h5, h6⟩ := hr.at (by omega)
  obtain ⟨ck, hl, ⟨vv, b, rfl, hx, hnm, _, hrt⟩, hxs⟩ := he.get i _ (List.getElem?_eq_getElem hi)
  obtain ⟨kd, n, x, y, a0, n0, c0, a1, n1, c1, a2, n2, c2, rfl⟩ := hrt.form
  obtain ⟨ag, ac, rfl, _⟩ := hnm.1.form
  refine ⟨g, o, cap, ag, _, ac, kd, n, x, y, a0, n0, c0, a1, n1, c1, a2, n2, c2, h1, h3, h4, h5, hnm, rfl, hx, hrt, fun j hj => ?_⟩
  have hlen := he.length
  rw [Nat.add_assoc, h6 _ (by rw [hlen]; have := Nat.mul_le_mul_right 9 (show i + 1 ≤ l.length by omega); omega), hxs j hj]
/-- How much is in a function. -/
def wf {k : Nat} (f : Pu.Fn k) : Nat := 1 + f.2.1.length + Pu.wt k f.2.2
theorem notes_snoc {k : Nat} (l : List (Pu.Fn k)) : ∀ (fns : ByteArray → Option Int) (f : Pu.Fn k), Pu.notes fns (l ++ [f]) = Pu.note (Pu.notes fns l) f := by
  induction l with
  | nil => intro fns f; rfl
  | cons a l ih => intro fns f; simp only [List.cons_append, Pu.notes]; exact ih _ f
theorem notes_succ {k : Nat} (l : List (Pu.Fn k)) (i : Nat) (h : i < l.length) (fns : ByteArray → Option Int) : Pu.notes fns (l.take (i + 1)) = Pu.note (Pu.notes fns (l.take i)) l[i] := by
  rw [List.take_succ_eq_append_getElem h, notes_snoc]
theorem heads_step {k : Nat} (l : List (Pu.Fn k)) (i : Nat) (h : i < l.length) (fns : ByteArray → Option Int) : Pu.heads fns (l.drop i) = if Pu.head fns l[i] = 0 then Pu.heads (Pu.note fns l[i]) (l.drop (i + 1)) else Pu.head fns l[i] := by
  rw [List.drop_eq_getElem_cons h]; rfl
theorem bodies_step {k : Nat} (l : List (Pu.Fn k)) (i : Nat) (h : i < l.length) (fns : ByteArray → Option Int) : Pu.bodies fns (l.drop i) = if Pu.term fns k (Pu.with' (fun _ => 0) l[i].2.1) l[i].2.2 0 = 0 then Pu.bodies fns (l.drop (i + 1)) else Pu.term fns k (Pu.with' (fun _ => 0) l[i].2.1) l[i].2.2 0 := by
  rw [List.drop_eq_getElem_cons h]; rfl
end Go.Proofs.YtdcdegeeaakekacDoor
