/- Copies: how they lie. No walk of terms in it. -/
import Derived.Laws.MakeOwn
import Derived.Test.YtdcdegeeaakekacDoorC2C3C4C6C7C9
namespace Go.Proofs.YtdcdegeeaakekacDoor
set_option maxRecDepth 100000
open Go.RowKit Go.Maps Go.WideMaps
/-- A row in a block of S. -/
def RowS (S : Nat → Prop) (w : World) (v : Value) (n : Nat) (xs : List Value) : Prop :=
  ∃ a cap, v = .slice a n cap ∧ n ≤ cap ∧ cap ≤ maxLen ∧ (0 < n → ∃ g o, a = some ⟨g, o, none⟩ ∧ S g ∧ g < w.heap.size ∧ (∀ i, i < xs.length → w.frozen? ⟨g, o + i, none⟩ = false) ∧ ∀ i, i < xs.length → w.cell? ⟨g, o + i, none⟩ = xs[i]?)
def NamesS (S : Nat → Prop) (w : World) (v : Value) (l : List ByteArray) : Prop := RowS S w v l.length (l.map .string) ∧ Short l
def RCS {α : Type} (P : List Value → α → Prop) (S : Nat → Prop) (w : World) (cs : List Value) (c : Int × List ByteArray × α) : Prop :=
  ∃ vv b, cs = .int .i64 c.1 :: vv :: b ∧ NamesS S w vv c.2.1 ∧ b.length = 7 ∧ P b c.2.2
def RNS {α : Type} (P : List Value → α → Prop) (S : Nat → Prop) (w : World) (cs : List Value) (t : Pu.Node α) : Prop :=
  ∃ vv av cv acs ccs, cs = [.int .i64 t.kind, .int .i64 t.n, .string t.name, .string t.token, vv, av, cv] ∧ t.name.size ≤ maxLen ∧ (Lit.int .i64 t.n).wf = true ∧
    NamesS S w vv t.vars ∧ RowS S w av t.args.length acs ∧ Each 7 P acs t.args ∧ RowS S w cv t.cases.length ccs ∧ Each 9 (RCS P S w) ccs t.cases
def RTS : (k : Nat) → (S : Nat → Prop) → World → List Value → Pu.TT k → Prop
  | 0, _, _, _, _ => False
  | k + 1, S, w, cs, t => RNS (RTS k S w) S w cs t
def RFS (k : Nat) (S : Nat → Prop) (w : World) (cs : List Value) (f : ByteArray × List ByteArray × Pu.TT k) : Prop :=
  ∃ pv b, cs = .string f.1 :: pv :: b ∧ f.1.size ≤ maxLen ∧ NamesS S w pv f.2.1 ∧ b.length = 7 ∧ RTS k S w b f.2.2
/-- The blocks of S stand as they stood, and are of S'. -/
def Stays (S S' : Nat → Prop) (w w' : World) : Prop := w.heap.size ≤ w'.heap.size ∧ ∀ g, S g → g < w.heap.size → S' g ∧ w'.heap[g]? = w.heap[g]?
theorem RowS.kept {S S' : Nat → Prop} {w w' : World} {v : Value} {n : Nat} {xs : List Value} (h : RowS S w v n xs) (hs : Stays S S' w w') : RowS S' w' v n xs := by
  obtain ⟨a, cap, h1, h2, h3, h4⟩ := h
  refine ⟨a, cap, h1, h2, h3, fun hn => ?_⟩
  obtain ⟨g, o, h5, h6, h8, h9, h7⟩ := h4 hn
  have hh := hs.2 g h6 h8
  exact ⟨g, o, h5, hh.1, Nat.lt_of_lt_of_le h8 hs.1, fun i hi => by rw [show w'.frozen? ⟨g, o + i, none⟩ = w.frozen? ⟨g, o + i, none⟩ from by simp only [World.frozen?, hh.2]]; exact h9 i hi, fun i hi => by rw [show w'.cell? ⟨g, o + i, none⟩ = w.cell? ⟨g, o + i, none⟩ from by simp only [World.cell?, hh.2]]; exact h7 i hi⟩
theorem NamesS.kept {S S' : Nat → Prop} {w w' : World} {v : Value} {l : List ByteArray} (h : NamesS S w v l) (hs : Stays S S' w w') : NamesS S' w' v l := ⟨h.1.kept hs, h.2⟩
theorem RCS.kept {α : Type} {P P' : List Value → α → Prop} {S S' : Nat → Prop} {w w' : World} (hs : Stays S S' w w') (hp : ∀ c a, P c a → P' c a) {cs : List Value} {c : Int × List ByteArray × α} (h : RCS P S w cs c) : RCS P' S' w' cs c := by
  obtain ⟨vv, b, h1, h2, h3, h4⟩ := h
  exact ⟨vv, b, h1, h2.kept hs, h3, hp _ _ h4⟩
theorem RNS.kept {α : Type} {P P' : List Value → α → Prop} {S S' : Nat → Prop} {w w' : World} (hs : Stays S S' w w') (hp : ∀ c a, P c a → P' c a) {cs : List Value} {t : Pu.Node α} (h : RNS P S w cs t) : RNS P' S' w' cs t := by
  obtain ⟨vv, av, cv, acs, ccs, h1, h2, h3, h4, h5, h6, h7, h8⟩ := h
  exact ⟨vv, av, cv, acs, ccs, h1, h2, h3, h4.kept hs, h5.kept hs, h6.mono hp, h7.kept hs, h8.mono fun c a => RCS.kept hs hp⟩
theorem RTS.kept {S S' : Nat → Prop} {w w' : World} (hs : Stays S S' w w') : ∀ {k : Nat} {cs : List Value} {t : Pu.TT k}, RTS k S w cs t → RTS k S' w' cs t
  | 0, _, _, h => h
  | _ + 1, _, _, h => RNS.kept hs (fun _ _ hc => RTS.kept hs hc) h
theorem RFS.kept {S S' : Nat → Prop} {w w' : World} (hs : Stays S S' w w') {k : Nat} {cs : List Value} {f : ByteArray × List ByteArray × Pu.TT k} (h : RFS k S w cs f) : RFS k S' w' cs f := by
  obtain ⟨pv, b, h1, h0, h2, h3, h4⟩ := h
  exact ⟨pv, b, h1, h0, h2.kept hs, h3, RTS.kept hs h4⟩
theorem RowS.row {S : Nat → Prop} {B : Nat} {w : World} {v : Value} {n : Nat} {xs : List Value} (h : RowS S w v n xs) (hS : ∀ g, S g → g < B) : Row B w v n xs := by
  obtain ⟨a, cap, h1, h2, h3, h4⟩ := h
  refine ⟨a, cap, h1, h2, h3, fun hn => ?_⟩
  obtain ⟨g, o, h5, h6, h8, _, h7⟩ := h4 hn
  exact ⟨g, o, h5, hS g h6, h8, h7⟩
theorem RTS.form {k : Nat} {S : Nat → Prop} {w : World} {cs : List Value} {t : Pu.TT k} (h : RTS k S w cs t) :
    ∃ kd n x y a0 n0 c0 a1 n1 c1 a2 n2 c2, cs = [.int .i64 kd, .int .i64 n, .string x, .string y, .slice a0 n0 c0, .slice a1 n1 c1, .slice a2 n2 c2] := by
  cases k with
  | zero => exact h.elim
  | succ k =>
    obtain ⟨vv, av, cv, acs, ccs, h1, _, _, h4, h5, _, h7, _⟩ := h
    obtain ⟨a0, c0, rfl, _⟩ := h4.1
    obtain ⟨a1, c1, rfl, _⟩ := h5
    obtain ⟨a2, c2, rfl, _⟩ := h7
    exact ⟨_, _, _, _, _, _, _, _, _, _, _, _, _, h1⟩
/-- Cells of a block written one behind the other. -/
def setsAt (w : World) (g p : Nat) : List Value → World
  | [] => w
  | u :: r => setsAt (w.setCell ⟨g, p, none⟩ u) g (p + 1) r
theorem sets_heap (g : Nat) (e : TypeId) (z : Nat × Nat) : ∀ (us : List Value) (p : Nat) (w : World) (cur : Array Value), w.heap[g]? = some (.cells cur e z) → p + us.length ≤ cur.size →
    ∃ cur' : Array Value, (setsAt w g p us).heap[g]? = some (.cells cur' e z) ∧ cur'.size = cur.size ∧ (∀ j, j < p → cur'[j]? = cur[j]?) ∧ (∀ j, j < us.length → cur'[p + j]? = us[j]?) ∧ Fr (· = g) w (setsAt w g p us)
  | [], p, w, cur, h, hl => ⟨cur, h, rfl, fun _ _ => rfl, fun j hj => by simp at hj, Fr.refl _ _⟩
  | u :: r, p, w, cur, h, hl => by
    have h1 : (w.setCell ⟨g, p, none⟩ u).heap[g]? = some (.cells (cur.setIfInBounds p u) e z) := by simp [World.setCell, Array.getElem?_modify, h]
    simp at hl
    obtain ⟨cur', h2, h3, h4, h5, h6⟩ := sets_heap g e z r (p + 1) _ _ h1 (by simp; omega)
    refine ⟨cur', h2, by simpa using h3, fun j hj => ?_, fun j hj => ?_, ?_⟩
    · rw [h4 j (by omega)]
      simp [show p ≠ j by omega]
    · cases j with
      | zero => rw [Nat.add_zero, h4 p (by omega), Array.getElem?_setIfInBounds_self_of_lt (by omega)]; rfl
      | succ j =>
        have := h5 j (by simpa using hj)
        rw [show p + (j + 1) = p + 1 + j by omega, this]; rfl
    · exact ((Fr.refl (· = g) w).setCell (.inl rfl) u).trans h6
/-- New blocks. -/
abbrev New (w w' : World) : Nat → Prop := fun g => w.heap.size ≤ g ∧ g < w'.heap.size
theorem stays_fr {w w' : World} {S S' T : Nat → Prop} (hf : Fr T w w') (hT : ∀ g, S g → g < w.heap.size → ¬ T g) (hS : ∀ g, S g → S' g) : Stays S S' w w' := ⟨hf.size, fun g hg hl => ⟨hS g hg, hf.block g hl (hT g hg hl)⟩⟩
theorem itself_any (x : ByteArray) (w : World) : Calls Tryd.prog 59 #[.string x] w fun e w' => e = .returned (.string x) ∧ w' = w := by
  go_enter Tryd.func59, Tryd.ntmps59
  go_wp2_with fail
  go_ret
  exact ⟨rfl, rfl⟩
set_option maxHeartbeats 1000000 in
theorem copyNames_any (B : Nat) (v : Value) (l : List ByteArray) (w : World) (hl : Names B w v l) (hn : l.length ≤ 1073741824) :
    Calls Tryd.prog 58 #[v, .func (.func 59) #[] #[]] w fun e w' => ∃ a c, e = .returned (.slice a l.length c) ∧ Fr No w w' ∧ NamesS (New w w') w' (.slice a l.length c) l := by
  obtain ⟨a0, cp0, rfl, hcp1, hcp2⟩ := hl.1.form
  unfold maxLen at hcp2
  have HL := hide hl
  clear hl
  by_cases h0 : l.length = 0
  · have e0 : l = [] := List.length_eq_zero_iff.1 h0
    subst e0
    go_enter Tryd.func58, Tryd.ntmps58
    go_wp2_with fail
    go_ret
    exact ⟨_, _, rfl, Fr.refl _ _, ⟨none, 0, rfl, Nat.le_refl _, Nat.zero_le _, fun h => absurd h (by simp)⟩, fun x hx => by simp at hx⟩
  · have h0' : ¬ (l.length : Int) = 0 := by omega
    obtain ⟨i0, hi, hz0, hz1, hz2⟩ := info_parts Tryd.info9
    have hmk : ∀ u : World, (Instr.makeSlice 27 (.int .i64 (l.length : Int)) (.int .i64 (l.length : Int))).run Tryd.prog u =
        .ok (.slice (some ⟨u.heap.size, 0, none⟩) l.length l.length) (u.alloc (.cells (madeCells #[.string ⟨#[]⟩] l.length) 9)) := fun u => by
      have h := run_make (P := Tryd.prog) u 27 9 i0 (.string ⟨#[]⟩) Tryd.underlying27 hi hz0 .i64 .i64 (l.length : Int) (l.length : Int) (by omega) (Int.le_refl _) (by rw [hz2]; omega) (by omega)
      rw [Int.toNat_natCast] at h
      simpa [hz1, Value.cells] using h
    go_enter Tryd.func58, Tryd.ntmps58
    go_wp2_with fail
    clear hmk h0'
    generalize ((l.length : Int) == 0) = bq
    go_loopw [16] (fun q wr => ∃ i : Nat, i ≤ l.length ∧ q = .int .i64 i ∧ Fr No w wr ∧ ∃ cur, wr.heap[w.heap.size]? = some (.cells cur 9 (0, 0)) ∧ cur.size = l.length ∧ ∀ j, j < i → cur[j]? = (l.map Value.string)[j]?) (fun q _ => l.length - (intOf q).toNat)
    case atStart => exact ⟨0, Nat.zero_le _, rfl, (Fr.refl No w).alloc _, _, heap_alloc_new _ _, size_madeCells _ _, fun j hj => absurd hj (by omega)⟩
    case round =>
      obtain ⟨i, hi', rfl, hf, cur, hg, hsz, hcur⟩ := hrel
      by_cases hlt : i < l.length
      · obtain ⟨g, o, cp, hv, _, hg', hgw, hcell, hsx⟩ := (HL.out.fr hf).at hlt
        injection hv with hv1 _ hv2
        subst hv1 hv2
        have c0 := cell_of_heap hg
        have z0 := frozen_of_heap hg
        have hc0 : wr.cell? ⟨w.heap.size, i, none⟩ = some cur[i] := by rw [c0 i]; exact Array.getElem?_eq_getElem (by omega)
        obtain ⟨x, hx⟩ : ∃ x, x = l[i] := ⟨_, rfl⟩
        rw [← hx] at hcell
        obtain ⟨u, hu⟩ : ∃ u, u = cur[i] := ⟨_, rfl⟩
        rw [← hu] at hc0
        have HX := hide hx
        have HF := hide hf
        have HG := hide hg
        have HCUR := hide hcur
        clear hx hf hg hcur c0 hu
        have i1 : (i : Int) < (l.length : Int) := by omega
        have i00 : (0 : Int) ≤ (i : Int) := by omega
        go_wp2_with fail
        refine (itself_any _ _).mono ?_
        rintro e w1 ⟨rfl, hw1⟩
        rw [hw1]
        clear hw1
        go_wp2_with fail
        go_roundw
        case rel =>
          obtain ⟨cur', p1, p2, p3, p4, p5⟩ := sets_heap w.heap.size 9 (0, 0) [.string x] i wr cur HG.out (by simp; omega)
          refine ⟨i + 1, by omega, by go_num, HF.out.setCell (.inr (Nat.le_refl _)) _, cur', p1, by omega, fun j hj => ?_⟩
          by_cases hji : j = i
          · subst hji
            have := p4 0 (by simp)
            rw [Nat.add_zero] at this
            rw [this, List.getElem?_map, List.getElem?_eq_getElem hlt, HX.out]; rfl
          · rw [p3 j (by omega)]; exact HCUR.out j (by omega)
        case measure => simp [intOf]; omega
      · have hil : i = l.length := by omega
        subst hil
        have HF := hide hf
        have HG := hide hg
        have HCUR := hide hcur
        clear hf hg hcur
        go_wp2_with fail
        go_ret
        refine ⟨_, _, rfl, HF.out, ⟨_, _, rfl, Nat.le_refl _, by unfold maxLen; omega, fun _ => ⟨_, _, rfl, ⟨Nat.le_refl _, lt_of_heap HG.out⟩, lt_of_heap HG.out, fun j _ => frozen_of_heap HG.out _, fun j hj => ?_⟩⟩, HL.out.2⟩
        rw [cell_of_heap HG.out, Nat.zero_add]
        exact HCUR.out j (by simpa using hj)
end Go.Proofs.YtdcdegeeaakekacDoor

/- Copies of terms' lists. -/
namespace Go.Proofs.YtdcdegeeaakekacDoor
set_option maxRecDepth 100000
open Go.RowKit Go.Maps Go.WideMaps
/-- What 'Own' does at terms of k levels. -/
def OwnC (k : Nat) : Prop := ∀ (B : Nat) (w : World) (cs : List Value) (t : Pu.TT k), RT k B w cs t → B ≤ w.heap.size → Pu.wt k t ≤ 1073741824 →
  Calls Tryd.prog 39 #[.agg cs.toArray] w fun e w' => ∃ cs', e = .returned (.agg cs'.toArray) ∧ Fr No w w' ∧ RTS k (New w w') w' cs' t
theorem Tryd.info31 : (Tryd.prog.info? 31).map (fun i => (i.zero, i.size, i.bytes)) = some (some (.agg #[.int .i64 0, .int .i64 0, .string ⟨#[]⟩, .string ⟨#[]⟩, .slice none 0 0, .slice none 0 0, .slice none 0 0]), 7, 120) := by kernel_rfl
theorem some_at {cur : Array Value} {w : World} {g o : Nat} {t : TypeId} (h : w.heap[g]? = some (.cells cur t (0, 0))) (ho : o < cur.size) : ∃ u, w.cell? ⟨g, o, none⟩ = some u :=
  ⟨_, by rw [cell_of_heap h o]; exact Array.getElem?_eq_getElem ho⟩
set_option maxHeartbeats 2000000 in
theorem copyTerms_any (k : Nat) (hO : OwnC k) (B : Nat) (v : Value) (acs : List Value) (l : List (Pu.TT k)) (w : World) (hr : Row B w v l.length acs) (he : Each 7 (RT k B w) acs l) (hB : B ≤ w.heap.size) (hn : l.length ≤ 1073741824) (hw : ∀ i (h : i < l.length), Pu.wt k l[i] ≤ 1073741824) :
    Calls Tryd.prog 60 #[v, .func (.func 39) #[] #[]] w fun e w' => ∃ a c, e = .returned (.slice a l.length c) ∧ Fr No w w' ∧ ∃ acs', RowS (New w w') w' (.slice a l.length c) l.length acs' ∧ Each 7 (RTS k (New w w') w') acs' l := by
  obtain ⟨a0, cp0, rfl, hcp1, hcp2⟩ := hr.form
  unfold maxLen at hcp2
  have HR := hide hr
  have HE := hide he
  have HW := hide hw
  have HO := hide hO
  clear hr he hw hO
  by_cases h0 : l.length = 0
  · have e0 : l = [] := List.length_eq_zero_iff.1 h0
    subst e0
    go_enter Tryd.func60, Tryd.ntmps60
    go_wp2_with fail
    go_ret
    exact ⟨_, _, rfl, Fr.refl _ _, [], ⟨none, 0, rfl, Nat.le_refl _, Nat.zero_le _, fun h => absurd h (by simp)⟩, rfl⟩
  · have h0' : ¬ (l.length : Int) = 0 := by omega
    obtain ⟨i0, hi, hz0, hz1, hz2⟩ := info_parts Tryd.info31
    have hmk : ∀ u : World, (Instr.makeSlice 28 (.int .i64 (l.length : Int)) (.int .i64 (l.length : Int))).run Tryd.prog u =
        .ok (.slice (some ⟨u.heap.size, 0, none⟩) l.length l.length) (u.alloc (.cells (madeCells #[.int .i64 0, .int .i64 0, .string ⟨#[]⟩, .string ⟨#[]⟩, .slice none 0 0, .slice none 0 0, .slice none 0 0] (l.length * 7)) 31)) := fun u => by
      have h := run_make (P := Tryd.prog) u 28 31 i0 _ Tryd.underlying28 hi hz0 .i64 .i64 (l.length : Int) (l.length : Int) (by omega) (Int.le_refl _) (by rw [hz2]; omega) (by omega)
      rw [Int.toNat_natCast] at h
      simpa [hz1, Value.cells] using h
    go_enter Tryd.func60, Tryd.ntmps60
    go_wp2_with fail
    clear hmk h0'
    generalize ((l.length : Int) == 0) = bq
    go_loopw [16] (fun q wr => ∃ i : Nat, i ≤ l.length ∧ q = .int .i64 i ∧ Fr No w wr ∧ ∃ cur xs, wr.heap[w.heap.size]? = some (.cells cur 31 (0, 0)) ∧ cur.size = l.length * 7 ∧ xs.length = i * 7 ∧ (∀ j, j < i * 7 → cur[j]? = xs[j]?) ∧
      Each 7 (RTS k (fun x => w.heap.size < x ∧ x < wr.heap.size) wr) xs (l.take i)) (fun q _ => l.length - (intOf q).toNat)
    case atStart => exact ⟨0, Nat.zero_le _, rfl, (Fr.refl No w).alloc _, _, [], heap_alloc_new _ _, size_madeCells _ _, rfl, fun j hj => absurd hj (by omega), rfl⟩
    case round =>
      obtain ⟨i, hi', rfl, hf, cur, xs, hg, hsz, hxl, hcur, hea⟩ := hrel
      have hbs : w.heap.size < wr.heap.size := lt_of_heap hg
      have hszw := hf.size
      by_cases hlt : i < l.length
      · have ho : Old B w wr := hf.old hB (fun _ _ e => e)
        obtain ⟨g, o, cap1, kd', n', x', y', b0, n0, e0, b1, n1, e1, b2, n2, e2, hav, hcap, hg', hgw, hrt, hcell⟩ := args_at HR.out HE.out i hlt
        injection hav with hav1 _ hav2
        subst hav1 hav2
        have hcw : ∀ j, j < 7 → wr.cell? ⟨g, o + i * 7 + j, none⟩ = [Value.int .i64 kd', .int .i64 n', .string x', .string y', .slice b0 n0 e0, .slice b1 n1 e1, .slice b2 n2 e2][j]? := fun j hj => by
          rw [ho.cell (a := ⟨g, o + i * 7 + j, none⟩) hg']; exact hcell j hj
        have q0 : wr.cell? ⟨g, o + i * 7, none⟩ = some (.int .i64 kd') := hcw 0 (by omega)
        have q1 := hcw 1 (by omega)
        have q2 := hcw 2 (by omega)
        have q3 := hcw 3 (by omega)
        have q4 := hcw 4 (by omega)
        have q5 := hcw 5 (by omega)
        have q6 := hcw 6 (by omega)
        have hgl : g < wr.heap.size := by omega
        have CO : Hid (∀ W, Fr No wr W → Calls Tryd.prog 39 #[.agg #[.int .i64 kd', .int .i64 n', .string x', .string y', .slice b0 n0 e0, .slice b1 n1 e1, .slice b2 n2 e2]] W fun e w' => ∃ cs', e = .returned (.agg cs'.toArray) ∧ Fr No W w' ∧ RTS k (New W w') w' cs' l[i]) := fun W hW =>
          HO.out B W _ l[i] (hrt.old (ho.trans (hW.old (by omega) (fun _ _ e => e))) (Nat.le_trans hszw hW.size)) (by have := hW.size; omega) (HW.out i hlt)
        have htk : l.take (i + 1) = l.take i ++ [l[i]] := List.take_succ_eq_append_getElem hlt
        obtain ⟨ti, hti⟩ : ∃ ti, ti = l[i] := ⟨_, rfl⟩
        rw [← hti] at CO htk
        have HTK := hide htk
        have HF := hide hf
        have HG := hide hg
        have HCUR := hide hcur
        have HEA := hide hea
        clear hcw hcell hrt hf hg hcur hea htk hti ho
        have i1 : (i : Int) < (l.length : Int) := by omega
        have i00 : (0 : Int) ≤ (i : Int) := by omega
        have hsize : i * 7 + 7 ≤ cur.size := by omega
        go_wp2_with fail
        refine (CO.out _ ((Fr.refl No wr).alloc _)).mono ?_
        rintro e w1 ⟨cs', rfl, hf1, hrt1⟩
        obtain ⟨kd2, m2, x2, y2, p0, r0, s0, p1, r1, s1, p2, r2, s2, rfl⟩ := hrt1.form
        have F1 : Fr No wr w1 := ((Fr.refl No wr).alloc _).trans hf1
        have g1 := fr_heap HG.out F1 (fun e => e)
        obtain ⟨u0, hu0⟩ := some_at g1 (o := i * 7) (by omega)
        obtain ⟨u1, hu1⟩ := some_at g1 (o := i * 7 + 1) (by omega)
        obtain ⟨u2, hu2⟩ := some_at g1 (o := i * 7 + 2) (by omega)
        obtain ⟨u3, hu3⟩ := some_at g1 (o := i * 7 + 3) (by omega)
        obtain ⟨u4, hu4⟩ := some_at g1 (o := i * 7 + 4) (by omega)
        obtain ⟨u5, hu5⟩ := some_at g1 (o := i * 7 + 5) (by omega)
        obtain ⟨u6, hu6⟩ := some_at g1 (o := i * 7 + 6) (by omega)
        have z1 := frozen_of_heap g1
        have G1 := hide g1
        have HF1 := hide F1
        have hw1s : wr.heap.size < w1.heap.size := by have := hf1.size; simp at this; omega
        have HRT1 := hide hrt1
        clear g1 F1 hf1 hrt1 CO
        go_wp2_with fail
        go_roundw
        case rel =>
          obtain ⟨cur', c1, c2, c3, c4, c5⟩ := sets_heap w.heap.size 31 (0, 0) [.int .i64 kd2, .int .i64 m2, .string x2, .string y2, .slice p0 r0 s0, .slice p1 r1 s1, .slice p2 r2 s2] (i * 7) w1 cur G1.out (by simp; omega)
          refine ⟨i + 1, by omega, by go_num, ?_, cur', xs ++ [.int .i64 kd2, .int .i64 m2, .string x2, .string y2, .slice p0 r0 s0, .slice p1 r1 s1, .slice p2 r2 s2], c1, by omega, by simp [hxl]; omega, fun j hj => ?_, ?_⟩
          · exact (HF.out.trans HF1.out).trans' c5 (fun j hj e => by have e : j = w.heap.size := e; omega)
          · by_cases hji : j < i * 7
            · rw [c3 j hji, HCUR.out j hji, List.getElem?_append_left (by omega)]
            · have := c4 (j - i * 7) (by simp; omega)
              rw [show i * 7 + (j - i * 7) = j by omega] at this
              rw [this, List.getElem?_append_right (by omega), hxl]
          · rw [HTK.out]
            have f01 : Fr (· = w.heap.size) wr (setsAt w1 w.heap.size (i * 7) [.int .i64 kd2, .int .i64 m2, .string x2, .string y2, .slice p0 r0 s0, .slice p1 r1 s1, .slice p2 r2 s2]) := (HF1.out.mono (fun _ _ e => e.elim)).trans c5
            refine Each.snoc (n := 7) rfl ?_ ?_
            rotate_left
            · exact HEA.out.mono fun _ _ h => h.kept (stays_fr f01 (fun g hg _ e => by have e : g = w.heap.size := e; omega) (fun g hg => ⟨hg.1, Nat.lt_of_lt_of_le hg.2 f01.size⟩))
            exact HRT1.out.kept (stays_fr c5 (fun g hg _ e => by have e : g = w.heap.size := e; have := hg.1; simp at this; omega) (fun g hg => ⟨by have := hg.1; simp at this; omega, Nat.lt_of_lt_of_le hg.2 c5.size⟩))
        case measure => simp [intOf]; omega
      · have hil : i = l.length := by omega
        subst hil
        have HF := hide hf
        have HG := hide hg
        have HCUR := hide hcur
        rw [List.take_length] at hea
        have HEA := hide hea
        clear hf hg hcur hea
        go_wp2_with fail
        go_ret
        refine ⟨_, _, rfl, HF.out, xs, ⟨_, _, rfl, Nat.le_refl _, by unfold maxLen; omega, fun _ => ⟨_, _, rfl, ⟨Nat.le_refl _, lt_of_heap HG.out⟩, lt_of_heap HG.out, fun j _ => frozen_of_heap HG.out _, fun j hj => ?_⟩⟩, ?_⟩
        · rw [cell_of_heap HG.out, Nat.zero_add]
          exact HCUR.out j (by omega)
        · exact HEA.out.mono fun _ _ h => h.kept ⟨Nat.le_refl _, fun g hg _ => ⟨⟨by omega, hg.2⟩, rfl⟩⟩
end Go.Proofs.YtdcdegeeaakekacDoor
