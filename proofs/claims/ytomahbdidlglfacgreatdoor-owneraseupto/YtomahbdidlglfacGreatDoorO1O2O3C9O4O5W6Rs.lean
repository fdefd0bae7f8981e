/- Copies: how they lie. No walk of terms in it. -/
import Derived.Laws.MakeOwn
import Derived.Test.YtomahbdidlglfacGreatDoorN1PcW3W4C2S1L2
import Derived.Test.YtomahbdidlglfacGreatDoorL3NpK1R1PfC3C4C6C7R6R7
import Derived.Test.YtomahbdidlglfacGreatDoorW5
namespace Go.Proofs.YtomahbdidlglfacGreatDoor
set_option maxRecDepth 100000
open Go.RowKit Go.Maps Go.WideMaps
/-- A row in a block of S. -/
def RowS (S : Nat → Prop) (w : World) (v : Value) (n : Nat) (xs : List Value) : Prop :=
  ∃ a cap, v = .slice a n cap ∧ n ≤ cap ∧ cap ≤ maxLen ∧ (0 < n → ∃ g o, a = some ⟨g, o, none⟩ ∧ S g ∧ g < w.heap.size ∧ (∀ i, i < xs.length → w.frozen? ⟨g, o + i, none⟩ = false) ∧ ∀ i, i < xs.length → w.cell? ⟨g, o + i, none⟩ = xs[i]?)
def NamesS (S : Nat → Prop) (w : World) (v : Value) (l : List ByteArray) : Prop := RowS S w v l.length (l.map .string) ∧ Short l
def RCS {α : Type} (P : List Value → α → Prop) (S : Nat → Prop) (w : World) (cs : List Value) (c : Int × List ByteArray × α) : Prop :=
  ∃ vv b, cs = .int .i64 c.1 :: vv :: b ∧ NamesS S w vv c.2.1 ∧ b.length = 7 ∧ P b c.2.2
def RNS {α : Type} (P : List Value → α → Prop) (S : Nat → Prop) (w : World) (cs : List Value) (t : Pu.Node α) : Prop :=
  ∃ vv av cv acs ccs, cs = [.int .i64 t.kind, .int .i64 t.n, .string t.name, .string t.token, vv, av, cv] ∧ t.name.size ≤ maxLen ∧ (Lit.int .i64 t.n).wf = true ∧
    NamesS S w vv t.vars ∧ RowS S w av t.args.length acs ∧ Each 7 P acs t.args ∧ RowS S w cv t.cases.length ccs ∧ Each 9 (RCS P S w) ccs t.cases
def RTS : (k : Nat) → (S : Nat → Prop) → World → List Value → Pu.TT k → Prop
  | 0, _, _, _, _ => False
  | k + 1, S, w, cs, t => RNS (RTS k S w) S w cs t
def RFS (k : Nat) (S : Nat → Prop) (w : World) (cs : List Value) (f : ByteArray × List ByteArray × Pu.TT k) : Prop :=
  ∃ pv b, cs = .string f.1 :: pv :: b ∧ f.1.size ≤ maxLen ∧ NamesS S w pv f.2.1 ∧ b.length = 7 ∧ RTS k S w b f.2.2
/-- The blocks of S stand as they stood, and are of S'. -/
def Stays (S S' : Nat → Prop) (w w' : World) : Prop := w.heap.size ≤ w'.heap.size ∧ ∀ g, S g → g < w.heap.size → S' g ∧ w'.heap[g]? = w.heap[g]?
theorem RowS.kept {S S' : Nat → Prop} {w w' : World} {v : Value} {n : Nat} {xs : List Value} (h : RowS S w v n xs) (hs : Stays S S' w w') : RowS S' w' v n xs := by
  obtain ⟨a, cap, h1, h2, h3, h4⟩ := h
  refine ⟨a, cap, h1, h2, h3, fun hn => ?_⟩
  obtain ⟨g, o, h5, h6, h8, h9, h7⟩ := h4 hn
  have hh := hs.2 g h6 h8
  exact ⟨g, o, h5, hh.1, Nat.lt_of_lt_of_le h8 hs.1, fun i hi => by rw [show w'.frozen? ⟨g, o + i, none⟩ = w.frozen? ⟨g, o + i, none⟩ from by simp only [World.frozen?, hh.2]]; exact h9 i hi, fun i hi => by rw [show w'.cell? ⟨g, o + i, none⟩ = w.cell? ⟨g, o + i, none⟩ from by simp only [World.cell?, hh.2]]; exact h7 i hi⟩
theorem NamesS.kept {S S' : Nat → Prop} {w w' : World} {v : Value} {l : List ByteArray} (h : NamesS S w v l) (hs : Stays S S' w w') : NamesS S' w' v l := ⟨h.1.kept hs, h.2⟩
theorem RCS.kept {α : Type} {P P' : List Value → α → Prop} {S S' : Nat → Prop} {w w' : World} (hs : Stays S S' w w') (hp : ∀ c a, P c a → P' c a) {cs : List Value} {c : Int × List ByteArray × α} (h : RCS P S w cs c) : RCS P' S' w' cs c := by
  obtain ⟨vv, b, h1, h2, h3, h4⟩ := h
  exact ⟨vv, b, h1, h2.kept hs, h3, hp _ _ h4⟩
theorem RNS.kept {α : Type} {P P' : List Value → α → Prop} {S S' : Nat → Prop} {w w' : World} (hs : Stays S S' w w') (hp : ∀ c a, P c a → P' c a) {cs : List Value} {t : Pu.Node α} (h : RNS P S w cs t) : RNS P' S' w' cs t := by
  obtain ⟨vv, av, cv, acs, ccs, h1, h2, h3, h4, h5, h6, h7, h8⟩ := h
  exact ⟨vv, av, cv, acs, ccs, h1, h2, h3, h4.kept hs, h5.kept hs, h6.mono hp, h7.kept hs, h8.mono fun c a => RCS.kept hs hp⟩
theorem RTS.kept {S S' : Nat → Prop} {w w' : World} (hs : Stays S S' w w') : ∀ {k : Nat} {cs : List Value} {t : Pu.TT k}, RTS k S w cs t → RTS k S' w' cs t
  | 0, _, _, h => h
  | _ + 1, _, _, h => RNS.kept hs (fun _ _ hc => RTS.kept hs hc) h
theorem RFS.kept {S S' : Nat → Prop} {w w' : World} (hs : Stays S S' w w') {k : Nat} {cs : List Value} {f : ByteArray × List ByteArray × Pu.TT k} (h : RFS k S w cs f) : RFS k S' w' cs f := by
  obtain ⟨pv, b, h1, h0, h2, h3, h4⟩ := h
  exact ⟨pv, b, h1, h0, h2.kept hs, h3, RTS.kept hs h4⟩
theorem RowS.row {S : Nat → Prop} {B : Nat} {w : World} {v : Value} {n : Nat} {xs : List Value} (h : RowS S w v n xs) (hS : ∀ g, S g → g < B) : Row B w v n xs := by
  obtain ⟨a, cap, h1, h2, h3, h4⟩ := h
  refine ⟨a, cap, h1, h2, h3, fun hn => ?_⟩
  obtain ⟨g, o, h5, h6, h8, _, h7⟩ := h4 hn
  exact ⟨g, o, h5, hS g h6, h8, h7⟩
theorem RTS.form {k : Nat} {S : Nat → Prop} {w : World} {cs : List Value} {t : Pu.TT k} (h : RTS k S w cs t) :
    ∃ kd n x y a0 n0 c0 a1 n1 c1 a2 n2 c2, cs = [.int .i64 kd, .int .i64 n, .string x, .string y, .slice a0 n0 c0, .slice a1 n1 c1, .slice a2 n2 c2] := by
  cases k with
  | zero => exact h.elim
  | succ k =>
    obtain ⟨vv, av, cv, acs, ccs, h1, _, _, h4, h5, _, h7, _⟩ := h
    obtain ⟨a0, c0, rfl, _⟩ := h4.1
    obtain ⟨a1, c1, rfl, _⟩ := h5
    obtain ⟨a2, c2, rfl, _⟩ := h7
    exact ⟨_, _, _, _, _, _, _, _, _, _, _, _, _, h1⟩
/-- Cells of a block written one behind the other. -/
def setsAt (w : World) (g p : Nat) : List Value → World
  | [] => w
  | u :: r => setsAt (w.setCell ⟨g, p, none⟩ u) g (p + 1) r
theorem sets_heap (g : Nat) (e : TypeId) (z : Nat × Nat) : ∀ (us : List Value) (p : Nat) (w : World) (cur : Array Value), w.heap[g]? = some (.cells cur e z) → p + us.length ≤ cur.size →
    ∃ cur' : Array Value, (setsAt w g p us).heap[g]? = some (.cells cur' e z) ∧ cur'.size = cur.size ∧ (∀ j, j < p → cur'[j]? = cur[j]?) ∧ (∀ j, j < us.length → cur'[p + j]? = us[j]?) ∧ Fr (· = g) w (setsAt w g p us)
  | [], p, w, cur, h, hl => ⟨cur, h, rfl, fun _ _ => rfl, fun j hj => by simp at hj, Fr.refl _ _⟩
  | u :: r, p, w, cur, h, hl => by
    have h1 : (w.setCell ⟨g, p, none⟩ u).heap[g]? = some (.cells (cur.setIfInBounds p u) e z) := by simp [World.setCell, Array.getElem?_modify, h]
    simp at hl
    obtain ⟨cur', h2, h3, h4, h5, h6⟩ := sets_heap g e z r (p + 1) _ _ h1 (by simp; omega)
    refine ⟨cur', h2, by simpa using h3, fun j hj => ?_, fun j hj => ?_, ?_⟩
    · rw [h4 j (by omega)]
      simp [show p ≠ j by omega]
    · cases j with
      | zero => rw [Nat.add_zero, h4 p (by omega), Array.getElem?_setIfInBounds_self_of_lt (by omega)]; rfl
      | succ j =>
        have := h5 j (by simpa using hj)
        rw [show p + (j + 1) = p + 1 + j by omega, this]; rfl
    · exact ((Fr.refl (· = g) w).setCell (.inl rfl) u).trans h6
/-- New blocks. -/
abbrev New (w w' : World) : Nat → Prop := fun g => w.heap.size ≤ g ∧ g < w'.heap.size
theorem stays_fr {w w' : World} {S S' T : Nat → Prop} (hf : Fr T w w') (hT : ∀ g, S g → g < w.heap.size → ¬ T g) (hS : ∀ g, S g → S' g) : Stays S S' w w' := ⟨hf.size, fun g hg hl => ⟨hS g hg, hf.block g hl (hT g hg hl)⟩⟩
theorem itself_any (x : ByteArray) (w : World) : Calls Tryz.prog 70 #[.string x] w fun e w' => e = .returned (.string x) ∧ w' = w := by
  go_enter Tryz.func70, Tryz.ntmps70
  go_wp2_with fail
  go_ret
  exact ⟨rfl, rfl⟩
set_option maxHeartbeats 1000000 in
theorem copyNames_any (B : Nat) (v : Value) (l : List ByteArray) (w : World) (hl : Names B w v l) (hn : l.length ≤ 1073741824) :
    Calls Tryz.prog 69 #[v, .func (.func 70) #[] #[]] w fun e w' => ∃ a c, e = .returned (.slice a l.length c) ∧ Fr No w w' ∧ NamesS (New w w') w' (.slice a l.length c) l := by
  obtain ⟨a0, cp0, rfl, hcp1, hcp2⟩ := hl.1.form
  unfold maxLen at hcp2
  have HL := hide hl
  clear hl
  by_cases h0 : l.length = 0
  · have e0 : l = [] := List.length_eq_zero_iff.1 h0
    subst e0
    go_enter Tryz.func69, Tryz.ntmps69
    go_wp2_with fail
    go_ret
    exact ⟨_, _, rfl, Fr.refl _ _, ⟨none, 0, rfl, Nat.le_refl _, Nat.zero_le _, fun h => absurd h (by simp)⟩, fun x hx => by simp at hx⟩
  · have h0' : ¬ (l.length : Int) = 0 := by omega
    obtain ⟨i0, hi, hz0, hz1, hz2⟩ := info_parts Tryz.info9
    have hmk : ∀ u : World, (Instr.makeSlice 28 (.int .i64 (l.length : Int)) (.int .i64 (l.length : Int))).run Tryz.prog u =
        .ok (.slice (some ⟨u.heap.size, 0, none⟩) l.length l.length) (u.alloc (.cells (madeCells #[.string ⟨#[]⟩] l.length) 9)) := fun u => by
      have h := run_make (P := Tryz.prog) u 28 9 i0 (.string ⟨#[]⟩) Tryz.underlying28 hi hz0 .i64 .i64 (l.length : Int) (l.length : Int) (by omega) (Int.le_refl _) (by rw [hz2]; omega) (by omega)
      rw [Int.toNat_natCast] at h
      simpa [hz1, Value.cells] using h
    go_enter Tryz.func69, Tryz.ntmps69
    go_wp2_with fail
    clear hmk h0'
    generalize ((l.length : Int) == 0) = bq
    go_loopw [16] (fun q wr => ∃ i : Nat, i ≤ l.length ∧ q = .int .i64 i ∧ Fr No w wr ∧ ∃ cur, wr.heap[w.heap.size]? = some (.cells cur 9 (0, 0)) ∧ cur.size = l.length ∧ ∀ j, j < i → cur[j]? = (l.map Value.string)[j]?) (fun q _ => l.length - (intOf q).toNat)
    case atStart => exact ⟨0, Nat.zero_le _, rfl, (Fr.refl No w).alloc _, _, heap_alloc_new _ _, size_madeCells _ _, fun j hj => absurd hj (by omega)⟩
    case round =>
      obtain ⟨i, hi', rfl, hf, cur, hg, hsz, hcur⟩ := hrel
      by_cases hlt : i < l.length
      · obtain ⟨g, o, cp, hv, _, hg', hgw, hcell, hsx⟩ := (HL.out.fr hf).at hlt
        injection hv with hv1 _ hv2
        subst hv1 hv2
        have c0 := cell_of_heap hg
        have z0 := frozen_of_heap hg
        have hc0 : wr.cell? ⟨w.heap.size, i, none⟩ = some cur[i] := by rw [c0 i]; exact Array.getElem?_eq_getElem (by omega)
        obtain ⟨x, hx⟩ : ∃ x, x = l[i] := ⟨_, rfl⟩
        rw [← hx] at hcell
        obtain ⟨u, hu⟩ : ∃ u, u = cur[i] := ⟨_, rfl⟩
        rw [← hu] at hc0
        have HX := hide hx
        have HF := hide hf
        have HG := hide hg
        have HCUR := hide hcur
        clear hx hf hg hcur c0 hu
        have i1 : (i : Int) < (l.length : Int) := by omega
        have i00 : (0 : Int) ≤ (i : Int) := by omega
        go_wp2_with fail
        refine (itself_any _ _).mono ?_
        rintro e w1 ⟨rfl, hw1⟩
        rw [hw1]
        clear hw1
        go_wp2_with fail
        go_roundw
        case rel =>
          obtain ⟨cur', p1, p2, p3, p4, p5⟩ := sets_heap w.heap.size 9 (0, 0) [.string x] i wr cur HG.out (by simp; omega)
          refine ⟨i + 1, by omega, by go_num, HF.out.setCell (.inr (Nat.le_refl _)) _, cur', p1, by omega, fun j hj => ?_⟩
          by_cases hji : j = i
          · subst hji
            have := p4 0 (by simp)
            rw [Nat.add_zero] at this
            rw [this, List.getElem?_map, List.getElem?_eq_getElem hlt, HX.out]; rfl
          · rw [p3 j (by omega)]; exact HCUR.out j (by omega)
        case measure => simp [intOf]; omega
      · have hil : i = l.length := by omega
        subst hil
        have HF := hide hf
        have HG := hide hg
        have HCUR := hide hcur
        clear hf hg hcur
        go_wp2_with fail
        go_ret
        refine ⟨_, _, rfl, HF.out, ⟨_, _, rfl, Nat.le_refl _, by unfold maxLen; omega, fun _ => ⟨_, _, rfl, ⟨Nat.le_refl _, lt_of_heap HG.out⟩, lt_of_heap HG.out, fun j _ => frozen_of_heap HG.out _, fun j hj => ?_⟩⟩, HL.out.2⟩
        rw [cell_of_heap HG.out, Nat.zero_add]
        exact HCUR.out j (by simpa using hj)
end Go.Proofs.YtomahbdidlglfacGreatDoor

/- Copies of terms' lists. -/
namespace Go.Proofs.YtomahbdidlglfacGreatDoor
set_option maxRecDepth 100000
open Go.RowKit Go.Maps Go.WideMaps
/-- What 'Own' does at terms of k levels. -/
def OwnC (k : Nat) : Prop := ∀ (B : Nat) (w : World) (cs : List Value) (t : Pu.TT k), RT k B w cs t → B ≤ w.heap.size → Pu.wt k t ≤ 1073741824 →
  Calls Tryz.prog 40 #[.agg cs.toArray] w fun e w' => ∃ cs', e = .returned (.agg cs'.toArray) ∧ Fr No w w' ∧ RTS k (New w w') w' cs' t
theorem Tryz.info32 : (Tryz.prog.info? 32).map (fun i => (i.zero, i.size, i.bytes)) = some (some (.agg #[.int .i64 0, .int .i64 0, .string ⟨#[]⟩, .string ⟨#[]⟩, .slice none 0 0, .slice none 0 0, .slice none 0 0]), 7, 120) := by kernel_rfl
theorem some_at {cur : Array Value} {w : World} {g o : Nat} {t : TypeId} (h : w.heap[g]? = some (.cells cur t (0, 0))) (ho : o < cur.size) : ∃ u, w.cell? ⟨g, o, none⟩ = some u :=
  ⟨_, by rw [cell_of_heap h o]; exact Array.getElem?_eq_getElem ho⟩
end Go.Proofs.YtomahbdidlglfacGreatDoor

/- Copies of cases and functions. -/
namespace Go.Proofs.YtomahbdidlglfacGreatDoor
set_option maxRecDepth 100000
open Go.RowKit Go.Maps Go.WideMaps
theorem cell_set_other {W : World} {g g' o p : Nat} {u : Value} (h : g' ≠ g) : (W.setCell ⟨g, p, none⟩ u).cell? ⟨g', o, none⟩ = W.cell? ⟨g', o, none⟩ := by
  simp only [World.cell?]
  rw [Below.heap_setCell _ _ _ _ (show g' ≠ (⟨g, p, none⟩ : Addr).block from h)]
end Go.Proofs.YtomahbdidlglfacGreatDoor

/- The check of a program. -/
namespace Go.Proofs.YtomahbdidlglfacGreatDoor
open Go.RowKit Go.Maps Go.WideMaps
/-- A list of functions. -/
def Fns (k B : Nat) (w : World) (v : Value) (l : List (Pu.Fn k)) : Prop := ∃ acs, Row B w v l.length acs ∧ Each 9 (RF k B w) acs l
theorem Fns.old {k B : Nat} {w w' : World} {v : Value} {l : List (Pu.Fn k)} (h : Fns k B w v l) (ho : Old B w w') (hs : w.heap.size ≤ w'.heap.size) : Fns k B w' v l := by
  obtain ⟨acs, h1, h2⟩ := h
  exact ⟨acs, h1.old ho hs, h2.mono fun _ _ h => h.kept ho (Nat.le_refl _) hs⟩
theorem fns_at {k B : Nat} {w : World} {av : Value} {l : List (Pu.Fn k)} (h : Fns k B w av l) (i : Nat) (hi : i < l.length) :
    ∃ g o cap ag av0 ac kd n x y a0 n0 c0 a1 n1 c1 a2 n2 c2, av = .slice (some ⟨g, o, none⟩) l.length cap ∧ cap ≤ maxLen ∧ g < B ∧ g < w.heap.size ∧ Names B w (.slice ag av0 ac) l[i].2.1 ∧ av0 = l[i].2.1.length ∧ l[i].1.size ≤ maxLen ∧
      RT k B w [.int .i64 kd, .int .i64 n, .string x, .string y, .slice a0 n0 c0, .slice a1 n1 c1, .slice a2 n2 c2] l[i].2.2 ∧
      ∀ j, j < 9 → w.cell? ⟨g, o + i * 9 + j, none⟩ = [Value.string l[i].1, .slice ag av0 ac, Value.int .i64 kd, .int .i64 n, .string x, .string y, .slice a0 n0 c0, .slice a1 n1 c1, .slice a2 n2 c2][j]? := by
  obtain ⟨acs, hr, he⟩ := h
  obtain ⟨g, o, cap, h1, h2, h3, h4, h5, h6⟩ := hr.at (by omega)
  obtain ⟨ck, hl, ⟨vv, b, rfl, hx, hnm, _, hrt⟩, hxs⟩ := he.get i _ (List.getElem?_eq_getElem hi)
  obtain ⟨kd, n, x, y, a0, n0, c0, a1, n1, c1, a2, n2, c2, rfl⟩ := hrt.form
  obtain ⟨ag, ac, rfl, _⟩ := hnm.1.form
  refine ⟨g, o, cap, ag, _, ac, kd, n, x, y, a0, n0, c0, a1, n1, c1, a2, n2, c2, h1, h3, h4, h5, hnm, rfl, hx, hrt, fun j hj => ?_⟩
  have hlen := he.length
  rw [Nat.add_assoc, h6 _ (by rw [hlen]; have := Nat.mul_le_mul_right 9 (show i + 1 ≤ l.length by omega); omega), hxs j hj]
/-- How much is in a function. -/
def wf {k : Nat} (f : Pu.Fn k) : Nat := 1 + f.2.1.length + Pu.wt k f.2.2
theorem notes_snoc {k : Nat} (l : List (Pu.Fn k)) : ∀ (fns : ByteArray → Option Int) (f : Pu.Fn k), Pu.notes fns (l ++ [f]) = Pu.note (Pu.notes fns l) f := by
  induction l with
  | nil => intro fns f; rfl
  | cons a l ih => intro fns f; simp only [List.cons_append, Pu.notes]; exact ih _ f
theorem notes_succ {k : Nat} (l : List (Pu.Fn k)) (i : Nat) (h : i < l.length) (fns : ByteArray → Option Int) : Pu.notes fns (l.take (i + 1)) = Pu.note (Pu.notes fns (l.take i)) l[i] := by
  rw [List.take_succ_eq_append_getElem h, notes_snoc]
theorem heads_step {k : Nat} (l : List (Pu.Fn k)) (i : Nat) (h : i < l.length) (fns : ByteArray → Option Int) : Pu.heads fns (l.drop i) = if Pu.head fns l[i] = 0 then Pu.heads (Pu.note fns l[i]) (l.drop (i + 1)) else Pu.head fns l[i] := by
  rw [List.drop_eq_getElem_cons h]; rfl
theorem bodies_step {k : Nat} (l : List (Pu.Fn k)) (i : Nat) (h : i < l.length) (fns : ByteArray → Option Int) : Pu.bodies fns (l.drop i) = if Pu.term fns k (Pu.with' (fun _ => 0) l[i].2.1) l[i].2.2 0 = 0 then Pu.bodies fns (l.drop (i + 1)) else Pu.term fns k (Pu.with' (fun _ => 0) l[i].2.1) l[i].2.2 0 := by
  rw [List.drop_eq_getElem_cons h]; rfl
end Go.Proofs.YtomahbdidlglfacGreatDoor

/- Copies of lists of cases, and of functions. -/
namespace Go.Proofs.YtomahbdidlglfacGreatDoor
set_option maxRecDepth 100000
open Go.RowKit Go.Maps Go.WideMaps
theorem Tryz.info58 : (Tryz.prog.info? 58).map (fun i => (i.zero, i.size, i.bytes)) = some (some (.agg #[.int .i64 0, .slice none 0 0, .int .i64 0, .int .i64 0, .string ⟨#[]⟩, .string ⟨#[]⟩, .slice none 0 0, .slice none 0 0, .slice none 0 0]), 9, 152) := by kernel_rfl
theorem Tryz.info34 : (Tryz.prog.info? 34).map (fun i => (i.zero, i.size, i.bytes)) = some (some (.agg #[.string ⟨#[]⟩, .slice none 0 0, .int .i64 0, .int .i64 0, .string ⟨#[]⟩, .string ⟨#[]⟩, .slice none 0 0, .slice none 0 0, .slice none 0 0]), 9, 160) := by kernel_rfl
end Go.Proofs.YtomahbdidlglfacGreatDoor

/- 'Own' and 'Fns', walked. -/
namespace Go.Proofs.YtomahbdidlglfacGreatDoor
set_option maxRecDepth 100000
open Go.RowKit Go.Maps Go.WideMaps
theorem wt_get {α : Type} (f : α → Nat) (l : List α) (i : Nat) (h : i < l.length) : f l[i] ≤ (l.map f).sum := by
  have h1 := sumW_succ f l i h
  have h2 := sumW_le f l (i + 1)
  omega
theorem len_le {α : Type} (f : α → Nat) (hf : ∀ a, 1 ≤ f a) : ∀ l : List α, l.length ≤ (l.map f).sum
  | [] => Nat.zero_le _
  | a :: l => by have := len_le f hf l; have := hf a; simp only [List.length_cons, List.map_cons, List.sum_cons]; omega
theorem wt_pos : ∀ (k : Nat) (t : Pu.TT k), 1 ≤ Pu.wt k t
  | 0, t => nomatch t
  | k + 1, t => by show 1 ≤ Pu.wN _ _; unfold Pu.wN; omega
theorem heap_set {w : World} {R o : Nat} {cur : Array Value} {t : TypeId} {z : Nat × Nat} {u : Value} (h : w.heap[R]? = some (.cells cur t z)) : (w.setCell ⟨R, o, none⟩ u).heap[R]? = some (.cells (cur.setIfInBounds o u) t z) := by
  simp [World.setCell, Array.getElem?_modify, h]
end Go.Proofs.YtomahbdidlglfacGreatDoor

/- 'Free', walked. -/
namespace Go.Proofs.YtomahbdidlglfacGreatDoor
open Go.RowKit Go.Maps Go.WideMaps
theorem needs_all : ∀ k, NeedsC k
  | 0 => fun _ _ _ _ _ _ _ _ _ _ _ _ _ h => h.elim
  | k + 1 => needs_node k (needs_all k)
/-- Where the asking begins. -/
theorem free_start (w : World) (B : Nat) (hB : B ≤ w.heap.size) : ∃ W, FS B (w.heap.size + 1) (w.heap.size + 1 + 1 + 1) w.heap.size (w.heap.size + 1 + 1) (w.heap.size + 1 + 1 + 1 + 1) 0 W (fun _ => 0) [] (.slice none 0 0) ∧ Fr No w W ∧
    W = (((((w.alloc (.cells #[.slice none 0 0] 28)).alloc (.map #[] 0)).alloc (.cells #[.map (some (w.heap.size + 1))] 153)).alloc (.map #[] 0)).alloc (.cells #[.map (some (w.heap.size + 1 + 1 + 1))] 51)) := by
  refine ⟨_, ?_, ?_, rfl⟩
  · have m1 := MapC.made (w.alloc (.cells #[.slice none 0 0] 28))
    rw [World.size_alloc] at m1
    have m2 := MapC.made (((w.alloc (.cells #[.slice none 0 0] 28)).alloc (.map #[] 0)).alloc (.cells #[.map (some (w.heap.size + 1))] 153))
    rw [World.size_alloc, World.size_alloc, World.size_alloc] at m2
    have b1 := heap_alloc_new w (.cells #[.slice none 0 0] 28)
    have b2 := heap_alloc_new ((w.alloc (.cells #[.slice none 0 0] 28)).alloc (.map #[] 0)) (.cells #[.map (some (w.heap.size + 1))] 153)
    rw [World.size_alloc, World.size_alloc] at b2
    have b3 := heap_alloc_new ((((w.alloc (.cells #[.slice none 0 0] 28)).alloc (.map #[] 0)).alloc (.cells #[.map (some (w.heap.size + 1))] 153)).alloc (.map #[] 0)) (.cells #[.map (some (w.heap.size + 1 + 1 + 1))] 51)
    rw [World.size_alloc, World.size_alloc, World.size_alloc, World.size_alloc] at b3
    refine ⟨⟨_, ((m1.fr ((Fr.refl No _).alloc _) (fun e => e)).fr ((Fr.refl No _).alloc _) (fun e => e)).fr ((Fr.refl No _).alloc _) (fun e => e), fun _ => rfl⟩, ⟨_, m2.fr ((Fr.refl No _).alloc _) (fun e => e), fun _ => rfl⟩, ?_, World.ownsRow_nil _ _ _ _, by omega, by omega, hB, by omega, ?_, b3, fun x hx => by simp at hx⟩
    · exact fr_heap (fr_heap (fr_heap (fr_heap b1 ((Fr.refl No _).alloc _) (fun e => e)) ((Fr.refl No _).alloc _) (fun e => e)) ((Fr.refl No _).alloc _) (fun e => e)) ((Fr.refl No _).alloc _) (fun e => e)
    · exact fr_heap (fr_heap b2 ((Fr.refl No _).alloc _) (fun e => e)) ((Fr.refl No _).alloc _) (fun e => e)
  · exact (((((Fr.refl No w).alloc _).alloc _).alloc _).alloc _).alloc _
set_option maxHeartbeats 1000000 in
/-- What 'Free' answers. -/
theorem free_any (k B : Nat) (w : World) (cs : List Value) (t : Pu.TT k) (ht : RT k B w cs t) (hB : B ≤ w.heap.size) (hw : Pu.wt k t ≤ 1073741824) :
    Calls Tryz.prog 105 #[.agg cs.toArray] w fun e w' => ∃ v, e = .returned v ∧ Fr No w w' ∧ w'.ownsRow w.heap.size 9 1 v (Pu.free k t).length ((Pu.free k t).map .string) ∧ Short (Pu.free k t) := by
  obtain ⟨kd, n, x, y, a0, n0, c0, a1, n1, c1, a2, n2, c2, rfl⟩ := ht.form
  have HT := hide ht
  clear ht
  have hmm := @run_makeMap Tryz.prog
  have hmf : ∀ (fn : Fn) (first cap : Array Value) (w : World), (Instr.makeFunc fn first cap).run Tryz.prog w = .ok (.func fn first cap) w := fun _ _ _ _ => rfl
  show Calls Tryz.prog 105 #[.agg #[.int .i64 kd, .int .i64 n, .string x, .string y, .slice a0 n0 c0, .slice a1 n1 c1, .slice a2 n2 c2]] w _
  go_enter Tryz.func105, Tryz.ntmps105
  go_wp2_with fail
  obtain ⟨W0, hW0⟩ : ∃ W0, W0 = w.alloc (.cells #[.int .i64 kd, .int .i64 n, .string x, .string y, .slice a0 n0 c0, .slice a1 n1 c1, .slice a2 n2 c2] 32) := ⟨_, rfl⟩
  have hs0 : W0.heap.size = w.heap.size + 1 := by rw [hW0, World.size_alloc]
  rw [← hW0]
  have f0 : Fr No w W0 := by rw [hW0]; exact (Fr.refl No w).alloc _
  obtain ⟨W, hfs, hfW, hWd⟩ := free_start W0 w.heap.size (by omega)
  rw [hs0] at hfs hWd
  rw [← hWd]
  have ho : Old B w W := (f0.old hB (fun _ _ e => e)).trans (hfW.old (by omega) (fun _ _ e => e))
  have hsz : w.heap.size ≤ W.heap.size := by have := hfW.size; omega
  have HC := hide (needs_all k w.heap.size _ _ _ _ _ 0 W _ [] (.slice none 0 0) _ t (HT.out.kept ho hB hsz) hfs hsz (fun _ => by omega) (by omega) (by simp; omega))
  clear hmm hmf
  refine HC.out.mono ?_
  rintro e w1 ⟨rfl, v1, h1, h2⟩
  have b1 : w1.cell? ⟨w.heap.size + 1, 0, none⟩ = some v1 := by rw [cell_of_heap h1.box]; rfl
  obtain ⟨av, cv, rfl⟩ := row_form h1.row
  have H1 := hide h1
  have H2 := hide h2
  clear h1 h2 hWd
  go_wp2_with fail
  go_ret
  have hf1 : Fr No w w1 := by
    refine (f0.no hfW).trans' H2.out.1 ?_
    rintro i hi (e | e | e | e)
    · omega
    · omega
    · omega
    · simp [Value.ownBlock] at e
  exact ⟨_, rfl, hf1, H1.out.row, H1.out.sh⟩
end Go.Proofs.YtomahbdidlglfacGreatDoor

/- One list of names behind another, in a region that draws its order. -/
namespace Go.Proofs.YtomahbdidlglfacGreatDoor
open Go.RowKit Go.Maps Go.WideMaps
/-- One list of names behind another: what append does. -/
theorem app_names {base : Nat} {w : World} {v u : Value} {n B : Nat} {xs : List Value} {l : List ByteArray} (ho : w.ownsRow base 9 1 v n xs) (hl : Names B w u l) (hn : n + l.length ≤ 1099511627776) (hb : base ≤ w.heap.size) :
    ∃ v' w', (Builtin.append_ #[28, 28] 28 #[v, u]).run Tryz.prog w = .ok v' w' ∧ w'.ownsRow base 9 1 v' (n + l.length) (xs ++ l.map .string) ∧ w.grownBy w' v.ownBlock ∧ (v'.ownBlock = v.ownBlock ∨ v'.ownBlock = some w.heap.size) := by
  obtain ⟨i0, hi, hz0, hz1, hz2⟩ := info_parts Tryz.info9
  obtain ⟨⟨a, cap, rfl, h2, h3, h4⟩, h5⟩ := hl
  by_cases hl0 : l.length = 0
  · have hle : l = [] := List.length_eq_zero_iff.1 hl0
    subst hle
    cases a with
    | none =>
      refine ⟨v, w, ?_, by simpa using ho, ⟨rfl, rfl, rfl, Nat.le_refl _, fun _ _ _ => rfl⟩, .inl rfl⟩
      rcases ho.2 with ⟨rfl, rfl⟩ | ⟨g, cap', cur, rfl, _, _, hnc, _⟩
      · simp [Builtin.append_, run_underlying Tryz.underlying28, sizeOf, typeInfo, hi, Builtin.lenOf, Builtin.firstCells]
      · simp [Builtin.append_, run_underlying Tryz.underlying28, sizeOf, typeInfo, hi, Builtin.lenOf, Builtin.firstCells, hnc, storeCells]
    | some a =>
      obtain ⟨v', w', h6, h7, h8, _, h9⟩ := run_append_own_at (P := Tryz.prog) (w := w) base 28 28 9 i0 _ 1 16 Tryz.underlying28 hi hz0 hz1 hz2 rfl (by decide) v n xs ho a 0 cap [] rfl (fun j u hu => by simp at hu) (fun u hu => by simp at hu) (by unfold maxLen; omega) (by omega) hb
      exact ⟨v', w', h6, by simpa using h7, h8, h9⟩
  · obtain ⟨g, o, rfl, h6, h7, h8⟩ := h4 (by omega)
    obtain ⟨v', w', h9, h10, h11, _, h12⟩ := run_append_own_at (P := Tryz.prog) (w := w) base 28 28 9 i0 _ 1 16 Tryz.underlying28 hi hz0 hz1 hz2 rfl (by decide) v n xs ho ⟨g, o, none⟩ l.length cap (l.map .string) (by simp) (fun j u hu => by
      have hj : j < (l.map Value.string).length := (List.getElem?_eq_some_iff.1 hu).1
      rw [Addr.add_lit, h8 j hj]; exact hu) (fun u hu => by obtain ⟨y, _, rfl⟩ := List.mem_map.1 hu; rfl) (by unfold maxLen; omega) (by omega) hb
    exact ⟨v', w', h9, h10, h11, h12⟩
theorem row_lit0 (base : Nat) (w : World) (hb : base ≤ w.heap.size) : (w.alloc (.cells #[] 9)).ownsRow base 9 1 (.slice (some ⟨w.heap.size, 0, none⟩) 0 0) 0 [] :=
  World.ownsRow_lit (base := base) (e := 9) (size := 1) w #[] 0 hb (by unfold maxLen; decide) rfl
/-- An append of a list of names, in a region that draws its order. -/
theorem step_append_names {w : World} {ops : Array Oper} {o : Oper} {a : Act} {K : Act → World → Prop} {Q : Exit → Act → World → Prop} {E : Prop} (hgd : o.guard = none) (s x : Operand)
    (ho : o.op = .call { callee := .builtin .append, args := #[s, x], argTypes := #[28, 28] }) (hty : o.type = 28) {base B n : Nat} {v u : Value} {xs : List Value} {l : List ByteArray} (hs : a.eval s = v) (hx : a.eval x = u) (hown : w.ownsRow base 9 1 v n xs) (hl : Names B w u l)
    (hn : n + l.length ≤ 1099511627776) (hb : base ≤ w.heap.size)
    (h : ∀ v' w', w'.ownsRow base 9 1 v' (n + l.length) (xs ++ l.map .string) → w.grownBy w' v.ownBlock → (v'.ownBlock = v.ownBlock ∨ v'.ownBlock = some w.heap.size) → K (a.put o.dst v') w') :
    if Region.wanted o (yielded ops a.tmps) = true then Oper.wp Tryz.prog o a w K Q else E := by
  have hw : Region.wanted o (yielded ops a.tmps) = true := by simp [Region.wanted, hgd]
  rw [if_pos hw]
  obtain ⟨v', w', hrun, h1, h2, h3⟩ := app_names hown hl hn hb
  unfold Oper.wp execOp
  simp only [ho, hty, resolve, invoke, builtin, Sem.run_bind, Sem.run_pure, Result.andThen_ok, List.map_toArray, List.map_cons, List.map_nil, hs, hx, hrun]
  exact h v' w' h1 h2 h3
/-- The same behind a draw. -/
theorem row_d0 (w : World) : ((w.alloc (.cells #[] 9)).drew).ownsRow w.heap.size 9 1 (.slice (some ⟨w.heap.size, 0, none⟩) 0 0) 0 [] := row_lit0 w.heap.size w (Nat.le_refl _)
theorem row_d1 (w : World) (o : Obj) : (((w.alloc (.cells #[] 9)).alloc o).drew).ownsRow w.heap.size 9 1 (.slice (some ⟨w.heap.size, 0, none⟩) 0 0) 0 [] := (row_lit0 w.heap.size w (Nat.le_refl _)).alloc o
theorem row_d2 (w : World) (o : Obj) : (((w.alloc o).alloc (.cells #[] 9)).drew).ownsRow w.heap.size 9 1 (.slice (some ⟨w.heap.size + 1, 0, none⟩) 0 0) 0 [] := by
  have h := row_lit0 w.heap.size (w.alloc o) (by rw [World.size_alloc]; omega)
  rw [World.size_alloc] at h
  exact h
theorem fr_d1 (w : World) (o : Obj) : Fr No w (w.alloc o).drew := ((Fr.refl No w).alloc o).drew
theorem fr_d2 (w : World) (o o' : Obj) : Fr No w ((w.alloc o).alloc o').drew := (((Fr.refl No w).alloc o).alloc o').drew
theorem src_two' (D w5 : World) (x : ByteArray) (hg : (((D.alloc (.cells #[] 9)).alloc (.cells #[.string x] 9)).drew).grownBy w5 (some D.heap.size)) : w5.heap[D.heap.size + 1]? = some (.cells #[.string x] 9 (0, 0)) := by
  have h := heap_alloc_new (D.alloc (.cells #[] 9)) (.cells #[.string x] 9)
  rw [World.size_alloc] at h
  have h2 : (((D.alloc (.cells #[] 9)).alloc (.cells #[.string x] 9)).drew).heap[D.heap.size + 1]? = some (.cells #[.string x] 9 (0, 0)) := h
  rw [hg.block _ (lt_of_heap h2) (by intro e; injection e with e; omega)]
  exact h2
theorem src_three' (D w5 : World) (x : ByteArray) (hg : (((D.alloc (.cells #[.string x] 9)).alloc (.cells #[] 9)).drew).grownBy w5 (some (D.heap.size + 1))) : w5.heap[D.heap.size]? = some (.cells #[.string x] 9 (0, 0)) := by
  have h := fr_heap (T := No) (heap_alloc_new D (.cells #[.string x] 9)) ((Fr.refl No _).alloc (.cells #[] 9)) (fun e => e)
  have h2 : (((D.alloc (.cells #[.string x] 9)).alloc (.cells #[] 9)).drew).heap[D.heap.size]? = some (.cells #[.string x] 9 (0, 0)) := h
  rw [hg.block _ (lt_of_heap h2) (by intro e; injection e with e; omega)]
  exact h2
end Go.Proofs.YtomahbdidlglfacGreatDoor
