/- Terms of which only their weight is told: how they lie. No walk in it. -/
import Derived.Test.YtomahbdidlglfacGreatDoorOt1Er2Er3Td0
import Derived.Deep.RegionLaw
import Derived.Test.YtomahbdidlglfacGreatDoorOc2DkDpOc3Oc4Er1
namespace Go.Proofs.YtomahbdidlglfacGreatDoor
set_option maxRecDepth 100000
open Go.RowKit Go.Maps Go.WideMaps

/-- A row in a block of S. -/
def RowP (S : Nat → Prop) (w : World) (v : Value) (n : Nat) (xs : List Value) : Prop :=
  ∃ a cap, v = .slice a n cap ∧ n ≤ cap ∧ cap ≤ maxLen ∧ (0 < n → ∃ g o, a = some ⟨g, o, none⟩ ∧ S g ∧ g < w.heap.size ∧ ∀ i, i < xs.length → w.cell? ⟨g, o + i, none⟩ = xs[i]?)
def NamesP (S : Nat → Prop) (w : World) (v : Value) (l : List ByteArray) : Prop := RowP S w v l.length (l.map .string) ∧ Short l
def RCP {α : Type} (P : List Value → α → Prop) (S : Nat → Prop) (w : World) (cs : List Value) (c : Int × List ByteArray × α) : Prop :=
  ∃ vv b, cs = .int .i64 c.1 :: vv :: b ∧ NamesP S w vv c.2.1 ∧ b.length = 7 ∧ P b c.2.2
def RNP {α : Type} (P : List Value → α → Prop) (S : Nat → Prop) (w : World) (cs : List Value) (t : Pu.Node α) : Prop :=
  ∃ vv av cv acs ccs, cs = [.int .i64 t.kind, .int .i64 t.n, .string t.name, .string t.token, vv, av, cv] ∧ t.name.size ≤ maxLen ∧ (Lit.int .i64 t.n).wf = true ∧
    NamesP S w vv t.vars ∧ RowP S w av t.args.length acs ∧ Each 7 P acs t.args ∧ RowP S w cv t.cases.length ccs ∧ Each 9 (RCP P S w) ccs t.cases
def KindP {α : Type} (t : Pu.Node α) : Prop := (1 ≤ t.kind ∧ t.kind ≤ 7) ∧ (t.kind = 6 → t.args.length = 2)
def wtN (t : Pu.Node Nat) : Nat := 1 + t.vars.length + t.args.sum + (t.cases.map fun c => 1 + c.2.1.length + c.2.2).sum
/-- A term of a program's kinds, of so much weight, in blocks of S. -/
def PT : (k : Nat) → (S : Nat → Prop) → World → List Value → Nat → Prop
  | 0, _, _, _, _ => False
  | k + 1, S, w, cs, m => ∃ nd : Pu.Node Nat, KindP nd ∧ m = wtN nd ∧ RNP (PT k S w) S w cs nd

theorem RowP.kept {S S' : Nat → Prop} {w w' : World} {v : Value} {n : Nat} {xs : List Value} (h : RowP S w v n xs) (hs : Stays S S' w w') : RowP S' w' v n xs := by
  obtain ⟨a, cap, h1, h2, h3, h4⟩ := h
  refine ⟨a, cap, h1, h2, h3, fun hn => ?_⟩
  obtain ⟨g, o, h5, h6, h8, h7⟩ := h4 hn
  have hh := hs.2 g h6 h8
  exact ⟨g, o, h5, hh.1, Nat.lt_of_lt_of_le h8 hs.1, fun i hi => by rw [show w'.cell? ⟨g, o + i, none⟩ = w.cell? ⟨g, o + i, none⟩ from by simp only [World.cell?, hh.2]]; exact h7 i hi⟩
theorem NamesP.kept {S S' : Nat → Prop} {w w' : World} {v : Value} {l : List ByteArray} (h : NamesP S w v l) (hs : Stays S S' w w') : NamesP S' w' v l := ⟨h.1.kept hs, h.2⟩
theorem RCP.kept {α : Type} {P P' : List Value → α → Prop} {S S' : Nat → Prop} {w w' : World} (hs : Stays S S' w w') (hp : ∀ c a, P c a → P' c a) {cs : List Value} {c : Int × List ByteArray × α} (h : RCP P S w cs c) : RCP P' S' w' cs c := by
  obtain ⟨vv, b, h1, h2, h3, h4⟩ := h
  exact ⟨vv, b, h1, h2.kept hs, h3, hp _ _ h4⟩
theorem RNP.kept {α : Type} {P P' : List Value → α → Prop} {S S' : Nat → Prop} {w w' : World} (hs : Stays S S' w w') (hp : ∀ c a, P c a → P' c a) {cs : List Value} {t : Pu.Node α} (h : RNP P S w cs t) : RNP P' S' w' cs t := by
  obtain ⟨vv, av, cv, acs, ccs, h1, h2, h3, h4, h5, h6, h7, h8⟩ := h
  exact ⟨vv, av, cv, acs, ccs, h1, h2, h3, h4.kept hs, h5.kept hs, h6.mono hp, h7.kept hs, h8.mono fun c a => RCP.kept hs hp⟩
theorem PT.kept {S S' : Nat → Prop} {w w' : World} (hs : Stays S S' w w') : ∀ {k : Nat} {cs : List Value} {m : Nat}, PT k S w cs m → PT k S' w' cs m
  | 0, _, _, h => h
  | _ + 1, _, _, ⟨nd, h1, h2, h3⟩ => ⟨nd, h1, h2, RNP.kept hs (fun _ _ hc => PT.kept hs hc) h3⟩
theorem PT.up {S : Nat → Prop} {w : World} : ∀ {k : Nat} {cs : List Value} {m : Nat}, PT k S w cs m → PT (k + 1) S w cs m
  | 0, _, _, h => h.elim
  | _ + 1, _, _, ⟨nd, h1, h2, h3⟩ => ⟨nd, h1, h2, RNP.kept (stays_self fun _ h => h) (fun _ _ hc => PT.up hc) h3⟩
theorem PT.upTo {S : Nat → Prop} {w : World} {k k' : Nat} {cs : List Value} {m : Nat} (h : PT k S w cs m) (hk : k ≤ k') : PT k' S w cs m := by
  obtain ⟨d, rfl⟩ : ∃ d, k' = k + d := ⟨k' - k, by omega⟩
  clear hk
  induction d with
  | zero => exact h
  | succ d ih => exact ih.up
theorem RowP.form {S : Nat → Prop} {w : World} {v : Value} {n : Nat} {xs : List Value} (h : RowP S w v n xs) : ∃ a cap, v = .slice a n cap ∧ n ≤ cap ∧ cap ≤ maxLen := by
  obtain ⟨a, cap, h1, h2, h3, _⟩ := h; exact ⟨a, cap, h1, h2, h3⟩
theorem PT.form {k : Nat} {S : Nat → Prop} {w : World} {cs : List Value} {m : Nat} (h : PT k S w cs m) :
    ∃ kd n x y a0 n0 c0 a1 n1 c1 a2 n2 c2, cs = [.int .i64 kd, .int .i64 n, .string x, .string y, .slice a0 n0 c0, .slice a1 n1 c1, .slice a2 n2 c2] := by
  cases k with
  | zero => exact h.elim
  | succ k =>
    obtain ⟨nd, _, _, vv, av, cv, acs, ccs, h1, _, _, h4, h5, _, h7, _⟩ := h
    obtain ⟨a0, c0, rfl, _⟩ := h4.1.form
    obtain ⟨a1, c1, rfl, _⟩ := h5.form
    obtain ⟨a2, c2, rfl, _⟩ := h7.form
    exact ⟨_, _, _, _, _, _, _, _, _, _, _, _, _, h1⟩
theorem PT.pos {k : Nat} {S : Nat → Prop} {w : World} {cs : List Value} {m : Nat} (h : PT k S w cs m) : 1 ≤ m := by
  cases k with
  | zero => exact h.elim
  | succ k =>
    obtain ⟨nd, _, rfl, _⟩ := h
    unfold wtN; omega
theorem Row.rowP {S : Nat → Prop} {B : Nat} {w : World} {v : Value} {n : Nat} {xs : List Value} (h : Row B w v n xs) (hS : ∀ g, g < B → S g) : RowP S w v n xs := by
  obtain ⟨a, cap, h1, h2, h3, h4⟩ := h
  refine ⟨a, cap, h1, h2, h3, fun hn => ?_⟩
  obtain ⟨g, o, h5, h6, h8, h7⟩ := h4 hn
  exact ⟨g, o, h5, hS g h6, h8, h7⟩
theorem RowP.row {S : Nat → Prop} {B : Nat} {w : World} {v : Value} {n : Nat} {xs : List Value} (h : RowP S w v n xs) (hS : ∀ g, S g → g < w.heap.size → g < B) : Row B w v n xs := by
  obtain ⟨a, cap, h1, h2, h3, h4⟩ := h
  refine ⟨a, cap, h1, h2, h3, fun hn => ?_⟩
  obtain ⟨g, o, h5, h6, h8, h7⟩ := h4 hn
  exact ⟨g, o, h5, hS g h6 h8, h8, h7⟩
theorem Each.map {α β : Type} {n : Nat} {P : List Value → α → Prop} {Q : List Value → β → Prop} (f : α → β) : ∀ {l : List α} {xs : List Value}, (∀ c a, a ∈ l → P c a → Q c (f a)) → Each n P xs l → Each n Q xs (l.map f)
  | [], _, _, e => e
  | _ :: _, _, h, ⟨ck, rest, h1, h2, h3, h4⟩ => ⟨ck, rest, h1, h2, h _ _ (List.mem_cons_self ..) h3, Each.map f (fun c a ha => h c a (List.mem_cons_of_mem _ ha)) h4⟩
theorem Each.back {α β : Type} {n : Nat} {P : List Value → α → Prop} {Q : List Value → β → Prop} (f : β → α) (R : β → Prop) (h : ∀ c a, P c a → ∃ b, Q c b ∧ f b = a ∧ R b) : ∀ {l : List α} {xs : List Value}, Each n P xs l → ∃ l' : List β, Each n Q xs l' ∧ l'.map f = l ∧ ∀ b, b ∈ l' → R b
  | [], _, e => ⟨[], e, rfl, fun _ h => by cases h⟩
  | _ :: _, _, ⟨ck, rest, h1, h2, h3, h4⟩ => by
    obtain ⟨b, g1, g2, g3⟩ := h _ _ h3
    obtain ⟨l', g4, g5, g6⟩ := Each.back f R h h4
    exact ⟨b :: l', ⟨ck, rest, h1, h2, g1, g4⟩, by rw [List.map_cons, g2, g5], fun x hx => by
      rcases List.mem_cons.1 hx with rfl | hx
      · exact g3
      · exact g6 x hx⟩
/-- A term, told by its weight. -/
theorem RT.pt {S : Nat → Prop} {B : Nat} {w : World} (hS : ∀ g, g < B → S g) : ∀ {k : Nat} {cs : List Value} {t : Pu.TT k}, RT k B w cs t → Pq k t → PT k S w cs (Pu.wt k t)
  | 0, _, _, h, _ => h.elim
  | k + 1, cs, t, ⟨vv, av, cv, acs, ccs, h1, h2, h3, h4, h5, h6, h7, h8⟩, hq => by
    obtain ⟨nd, hnd⟩ : ∃ nd : Pu.Node (Pu.TT k), nd = t := ⟨_, rfl⟩
    subst hnd
    refine ⟨⟨nd.kind, nd.n, nd.name, nd.token, nd.vars, nd.args.map (Pu.wt k), nd.cases.map fun c => (c.1, c.2.1, Pu.wt k c.2.2)⟩, ⟨hq.1.1, fun h => by simpa using hq.1.2 h⟩, ?_, vv, av, cv, acs, ccs, h1, h2, h3, ⟨h4.1.rowP hS, h4.2⟩, by simpa using h5.rowP hS, ?_, by simpa using h7.rowP hS, ?_⟩
    · have hwt : Pu.wt (k + 1) nd = 1 + nd.vars.length + (nd.args.map (Pu.wt k)).sum + (nd.cases.map fun c => 1 + c.2.1.length + Pu.wt k c.2.2).sum := rfl
      rw [hwt]
      simp only [wtN, List.map_map, Function.comp_def]
    · exact Each.map (Pu.wt k) (fun c a ha h => RT.pt hS h (hq.2.1 a ha)) h6
    · refine Each.map (fun c : Int × List ByteArray × Pu.TT k => (c.1, c.2.1, Pu.wt k c.2.2)) (fun c a ha ⟨vv, b, e1, e2, e3, e4⟩ => ⟨vv, b, e1, ⟨e2.1.rowP hS, e2.2⟩, e3, RT.pt hS e4 (hq.2.2 a ha)⟩) h8
/-- There is such a term. -/
theorem PT.rt {S : Nat → Prop} {B : Nat} {w : World} (hS : ∀ g, S g → g < w.heap.size → g < B) : ∀ {k : Nat} {cs : List Value} {m : Nat}, PT k S w cs m → ∃ t : Pu.TT k, RT k B w cs t ∧ Pu.wt k t = m ∧ Pq k t
  | 0, _, _, h => h.elim
  | k + 1, cs, m, ⟨nd, hk, hm, vv, av, cv, acs, ccs, h1, h2, h3, h4, h5, h6, h7, h8⟩ => by
    obtain ⟨l, g1, g2, g3⟩ := Each.back (Q := RT k B w) (Pu.wt k) (Pq k) (fun c a h => PT.rt hS h) h6
    obtain ⟨l2, e1, e2, e3⟩ := Each.back (Q := RC (RT k B w) B w) (fun c : Int × List ByteArray × Pu.TT k => (c.1, c.2.1, Pu.wt k c.2.2)) (fun c => Pq k c.2.2) (fun c a ⟨vv, b, q1, q2, q3, q4⟩ => by
      obtain ⟨t, r1, r2, r3⟩ := PT.rt hS q4
      exact ⟨(a.1, a.2.1, t), ⟨vv, b, q1, ⟨q2.1.row hS, q2.2⟩, q3, r1⟩, by show (a.1, a.2.1, Pu.wt k t) = a; rw [r2], r3⟩) h8
    have hl : nd.args.length = l.length := by rw [← g2, List.length_map]
    have hl2 : nd.cases.length = l2.length := by rw [← e2, List.length_map]
    refine ⟨(⟨nd.kind, nd.n, nd.name, nd.token, nd.vars, l, l2⟩ : Pu.Node (Pu.TT k)), ⟨vv, av, cv, acs, ccs, h1, h2, h3, ⟨h4.1.row hS, h4.2⟩, by rw [hl] at h5; exact h5.row hS, g1, by rw [hl2] at h7; exact h7.row hS, e1⟩, ?_, ⟨hk.1, fun h => by rw [← hl]; exact hk.2 h⟩, g3, e3⟩
    rw [hm]
    show 1 + nd.vars.length + (l.map (Pu.wt k)).sum + (l2.map fun c => 1 + c.2.1.length + Pu.wt k c.2.2).sum = wtN nd
    unfold wtN
    rw [← g2, ← e2, List.map_map]
    rfl
end Go.Proofs.YtomahbdidlglfacGreatDoor

/- Appends of rows of any elements. No walk of the program in it. -/
namespace Go.Proofs.YtomahbdidlglfacGreatDoor
open Go.RowKit Go.Maps Go.WideMaps

/-- An append of a whole row onto one's own. -/
theorem app_runP {sl e : TypeId} {size bytes : Nat} {z : Value} (hul : Tryz.prog.underlying sl = some (.slice e)) (hin : (Tryz.prog.info? e).map (fun i => (i.zero, i.size, i.bytes)) = some (some z, size, bytes)) (hzs : z.cells.size = size) (hsz : 0 < size)
    {base : Nat} {S : Nat → Prop} {w : World} {v u : Value} {n m : Nat} {xs ys : List Value} (ho : w.ownsRow base e size v n xs) (hl : RowP S w u m ys) (hy : ys.length = m * size) (h1 : ∀ u ∈ ys, u.oneCell' = true) (hn : n + m ≤ 2147483648) (hby : bytes ≤ 65536) (hb : base ≤ w.heap.size) :
    ∃ v' w', (Builtin.append_ #[sl, sl] sl #[v, u]).run Tryz.prog w = .ok v' w' ∧ w'.ownsRow base e size v' (n + m) (xs ++ ys) ∧ w.grownBy w' v.ownBlock ∧ (v'.ownBlock = v.ownBlock ∨ v'.ownBlock = some w.heap.size) := by
  obtain ⟨i0, hi, hz0, hz1, hz2⟩ := info_parts hin
  obtain ⟨a, cap, rfl, h2, h3, h4⟩ := hl
  have hbb : (n + m) * bytes ≤ 140737488355328 := Nat.le_trans (Nat.mul_le_mul hn hby) (by decide)
  by_cases hl0 : m = 0
  · subst hl0
    have hye : ys = [] := List.length_eq_zero_iff.1 (by omega)
    subst hye
    cases a with
    | none =>
      refine ⟨v, w, ?_, by simpa using ho, ⟨rfl, rfl, rfl, Nat.le_refl _, fun _ _ _ => rfl⟩, .inl rfl⟩
      rcases ho.2 with ⟨rfl, rfl⟩ | ⟨g, cap', cur, rfl, _, _, hnc, _⟩
      · simp [Builtin.append_, run_underlying hul, sizeOf, typeInfo, hi, Builtin.lenOf, Builtin.firstCells]
      · simp [Builtin.append_, run_underlying hul, sizeOf, typeInfo, hi, Builtin.lenOf, Builtin.firstCells, hnc, storeCells]
    | some a =>
      obtain ⟨v', w', h6, h7, h8, _, h9⟩ := run_append_own_at (P := Tryz.prog) (w := w) base sl sl e i0 _ size bytes hul hi hz0 hz1 hz2 hzs hsz v n xs ho a 0 cap [] (by simp) (fun j u hu => by simp at hu) (fun u hu => by simp at hu) (by unfold maxLen; omega) hbb hb
      exact ⟨v', w', h6, by simpa using h7, h8, h9⟩
  · obtain ⟨g, o, rfl, h6, h7, h8⟩ := h4 (by omega)
    obtain ⟨v', w', h9, h10, h11, _, h12⟩ := run_append_own_at (P := Tryz.prog) (w := w) base sl sl e i0 _ size bytes hul hi hz0 hz1 hz2 hzs hsz v n xs ho ⟨g, o, none⟩ m cap ys hy (fun j u hu => by
      have hj : j < ys.length := (List.getElem?_eq_some_iff.1 hu).1
      rw [Addr.add_lit, h8 j hj]; exact hu) h1 (by unfold maxLen; omega) hbb hb
    exact ⟨v', w', h9, h10, h11, h12⟩
/-- In a region that draws its order. -/
theorem step_app {w : World} {ops : Array Oper} {o : Oper} {a : Act} {K : Act → World → Prop} {Q : Exit → Act → World → Prop} {E : Prop} (hgd : o.guard = none) (s x : Operand) (sl : TypeId)
    (ho : o.op = .call { callee := .builtin .append, args := #[s, x], argTypes := #[sl, sl] }) (hty : o.type = sl) {v u : Value} (hs : a.eval s = v) (hx : a.eval x = u)
    {R : Value → World → Prop} (hr : ∃ v' w', (Builtin.append_ #[sl, sl] sl #[v, u]).run Tryz.prog w = .ok v' w' ∧ R v' w') (h : ∀ v' w', R v' w' → K (a.put o.dst v') w') :
    if Region.wanted o (yielded ops a.tmps) = true then Oper.wp Tryz.prog o a w K Q else E := by
  have hw : Region.wanted o (yielded ops a.tmps) = true := by simp [Region.wanted, hgd]
  rw [if_pos hw]
  obtain ⟨v', w', hrun, h1⟩ := hr
  unfold Oper.wp execOp
  simp only [ho, hty, resolve, invoke, builtin, Sem.run_bind, Sem.run_pure, Result.andThen_ok, List.map_toArray, List.map_cons, List.map_nil, hs, hx, hrun]
  exact h v' w' h1
/-- In a region that goes one by one. -/
theorem list_app {w : World} {ops : Array Oper} {rest : List Oper} {o : Oper} {a : Act} {Q : Exit → Act → World → Prop} (s x : Operand) (sl : TypeId) (hw : Region.wanted o (yielded ops a.tmps) = true)
    (ho : o.op = .call { callee := .builtin .append, args := #[s, x], argTypes := #[sl, sl] }) (hty : o.type = sl) {v u : Value} (hs : a.eval s = v) (hx : a.eval x = u)
    {R : Value → World → Prop} (hr : ∃ v' w', (Builtin.append_ #[sl, sl] sl #[v, u]).run Tryz.prog w = .ok v' w' ∧ R v' w') (h : ∀ v' w', R v' w' → wpList Tryz.prog ops Q rest (a.put o.dst v') w') : wpList Tryz.prog ops Q (o :: rest) a w :=
  wpList_step fun K hK => by
    rw [if_pos hw]
    obtain ⟨v', w', hrun, h1⟩ := hr
    unfold Oper.wp execOp
    simp only [ho, hty, resolve, invoke, builtin, Sem.run_bind, Sem.run_pure, Result.andThen_ok, List.map_toArray, List.map_cons, List.map_nil, hs, hx, hrun]
    exact hK _ _ (h v' w' h1)
/-- A row that is owned, among the blocks that it may lie in. -/
theorem rowP_own {w : World} {b : Nat} {e : TypeId} {size : Nat} {v : Value} {n : Nat} {xs : List Value} {S : Nat → Prop} (h : w.ownsRow b e size v n xs) (hS : ∀ g, v.ownBlock = some g → S g) : RowP S w v n xs := by
  rcases h.2 with ⟨rfl, h0⟩ | ⟨g, cap, cur, rfl, hb, hgg, hcap, hcap', hsz, htk⟩
  · exact ⟨_, _, by rw [h0], by omega, Nat.zero_le _, fun hn => absurd hn (by omega)⟩
  · refine ⟨_, _, rfl, hcap, hcap', fun hn => ⟨g, 0, rfl, hS g rfl, lt_of_heap hgg, fun i hi => ?_⟩⟩
    have := h.cells (g := g) rfl i _ (List.getElem?_eq_getElem hi)
    rw [Addr.add_lit] at this
    rw [this]
    exact (List.getElem?_eq_getElem hi).symm
theorem past_heap {b e n sz : Nat} {t : Nat} {W w' : World} {v : Value} {xs : List Value} {z : Nat × Nat} {c : Array Value} {q : Nat} (hr : W.ownsRow b e sz v n xs) (hg : W.grownBy w' v.ownBlock) (hne : e ≠ t) (h : W.heap[q]? = some (.cells c t z)) : w'.heap[q]? = some (.cells c t z) := by
  rw [hg.block q (lt_of_heap h) (fun e' => ?_)]
  · exact h
  · rcases hr.2 with ⟨rfl, _⟩ | ⟨g, cap, cur, rfl, _, hh, _⟩
    · simp [Value.ownBlock] at e'
    · simp only [Value.ownBlock, Option.some.injEq] at e'
      subst e'
      rw [hh] at h
      injection h with h
      injection h with _ h
      exact hne h
theorem own_past {b e n sz b' e' n' sz' : Nat} {W w' : World} {v v' : Value} {xs ys : List Value} (hr : W.ownsRow b e sz v n xs) (hg : W.grownBy w' v.ownBlock) (hne : e ≠ e') (h : W.ownsRow b' e' sz' v' n' ys) : w'.ownsRow b' e' sz' v' n' ys := by
  refine ⟨h.1, ?_⟩
  rcases h.2 with h2 | ⟨g, cap, cur, h2, h3, h4, h5⟩
  · exact .inl h2
  · exact .inr ⟨g, cap, cur, h2, h3, past_heap hr hg hne h4, h5⟩
theorem own_keptF {b e n sz : Nat} {W w' : World} {v : Value} {xs : List Value} {T : Nat → Prop} (h : W.ownsRow b e sz v n xs) (hf : Fr T W w') (hT : ∀ a, b ≤ a → ¬ T a) : w'.ownsRow b e sz v n xs := by
  refine ⟨h.1, ?_⟩
  rcases h.2 with h2 | ⟨g, cap, cur, h2, h3, h4, h5⟩
  · exact .inl h2
  · exact .inr ⟨g, cap, cur, h2, h3, fr_heap h4 hf (hT g h3), h5⟩
theorem litP {S : Nat → Prop} (w : World) (cs : Array Value) (t : TypeId) (n : Nat) (hn : n ≤ 1000) (hS : S w.heap.size) : RowP S (w.alloc (.cells cs t)) (.slice (some ⟨w.heap.size, 0, none⟩) n n) n cs.toList :=
  ⟨_, _, rfl, Nat.le_refl _, by unfold maxLen; omega, fun _ => ⟨w.heap.size, 0, rfl, hS, by rw [World.size_alloc]; exact Nat.lt_succ_self _, fun i hi => by rw [Nat.zero_add, cell_of_heap (heap_alloc_new w _) i]; simp⟩⟩
theorem own_fr {b e n sz : Nat} {W w0 w' : World} {v : Value} {xs : List Value} {T : Nat → Prop} (h : Fr T w0 W) (hr : W.ownsRow b e sz v n xs) (hg : W.grownBy w' v.ownBlock) (hb : w0.heap.size ≤ b) : Fr T w0 w' :=
  h.grown hg (fun a ha => .inr (Nat.le_trans hb (hr.lt a ha).1))
theorem Tryz.ul28P : Tryz.prog.underlying 28 = some (.slice 9) := by kernel_rfl
theorem Tryz.ul97P : Tryz.prog.underlying 97 = some (.slice 132) := by kernel_rfl
theorem Tryz.ul29P : Tryz.prog.underlying 29 = some (.slice 32) := by kernel_rfl
theorem Tryz.ul30P : Tryz.prog.underlying 30 = some (.slice 58) := by kernel_rfl
theorem Tryz.ul101P : Tryz.prog.underlying 101 = some (.slice 134) := by kernel_rfl
end Go.Proofs.YtomahbdidlglfacGreatDoor

/- own: 'count', walked: what stands around a term that lies apart. -/
namespace Go.Proofs.YtomahbdidlglfacGreatDoor
open Go.RowKit Go.Shelf

attribute [local go_sem] Oper.semAt_some

/-- Where the term lies between two rounds. -/
abbrev SetD (S : Nat → Prop) (w W : World) : Nat → Prop := fun g => S g ∨ (w.heap.size + 3 ≤ g ∧ g < W.heap.size)
/-- The box of the term, between two rounds. -/
def TBoxD (M k m : Nat) (S : Nat → Prop) (w : World) (t : Pu.TT k) (pre : List (Nat × Nm)) (W : World) : Prop :=
  ∃ c0 c1 c2 c3 c4 c5 c6, W.heap[w.heap.size + 1]? = some (.cells #[c0, c1, c2, c3, c4, c5, c6] 32 (0, 0)) ∧ CW M k (m + pre.length) W (SetD S w W) [c0, c1, c2, c3, c4, c5, c6] t
theorem tboxD_own (M k m : Nat) (S : Nat → Prop) (w : World) (t : Pu.TT k) : Own (TBoxD M k m S w t) := by
  rintro pre A B row ⟨c0, c1, c2, c3, c4, c5, c6, h1, h2⟩ hg hr
  exact ⟨c0, c1, c2, c3, c4, c5, c6, heap_own h1 hg hr, (h2.cells ⟨hg.size, fun a u h => cell_kept h hg hr, fun a u h => frozen_kept h hg hr⟩).sub (fun g h => h.imp (fun h => h) (fun h => ⟨h.1, Nat.lt_of_lt_of_le h.2 hg.size⟩))⟩

set_option maxRecDepth 100000 in
set_option maxHeartbeats 4000000 in
theorem countD_in (F : Fence) (n : Nat) (h3 : F.fn 72) (h5 : F.fn 106) (h7 : F.fn 125) (hro : F.round = none) (hn : 3 ≤ n) (M k m : Nat) (S : Nat → Prop) (kd : Int) (hkd : ck kd) (v : Value) (l : List Nm) (hreach : l.length ≤ 1099511627776) (t : Pu.TT k) (u0 u1 u2 u3 u4 u5 u6 : Value) (w : World) (hI : NmAt w.heap.size w v l) (hT : CW M k m w S [u0, u1, u2, u3, u4, u5, u6] t) (hS : ∀ g, S g → g < w.heap.size) :
    CallsIn F n Tryz.prog 72 #[.int .i64 kd, v, .agg #[u0, u1, u2, u3, u4, u5, u6]] w fun e W' => ∃ c0 c1 c2 c3 c4 c5 c6, e = .returned (.agg #[c0, c1, c2, c3, c4, c5, c6]) ∧ Below w.heap.size w W' ∧ CW M k (m + l.length) W' (fun g => S g ∨ New w W' g) [c0, c1, c2, c3, c4, c5, c6] t := by
  have h1 : 1 ≤ n := by omega
  obtain ⟨a, cap, rfl, hnm⟩ := id hI
  have HI := hide hI
  have HT := hide hT
  have HS := hide hS
  clear hI hT hS hnm
  refine callsIn_of_wp_marks Tryz.func72 rfl h3 ?_ hro
  simp only [Tryz.ntmps72, List.size_toArray, List.length_cons, List.length_nil, Nat.reduceAdd, Nat.reduceSub, Array.replicate_succ, Array.replicate_zero, List.push_toArray, List.append_toArray, List.nil_append, List.cons_append]
  gi_wp2_with (gi_at_call 106; refine (back_in F (n - 1) h5 hro _ _ _ _).mono ?_; rintro e w' ⟨rfl, rfl⟩)
  have hB0 : Below w.heap.size w ((((w.alloc (.cells #[.int .i64 kd] 3)).alloc (.cells #[u0, u1, u2, u3, u4, u5, u6] 32)).alloc (.cells #[.int .i64 0, .int .i64 0, .string ⟨#[]⟩, .string ⟨#[]⟩, .slice none 0 0, .slice none 0 0, .slice none 0 0] 32)).alloc (.cells #[.slice a l.length cap] 28)) :=
    ((((Below.refl _ w).alloc (Nat.le_refl _) _).alloc (by simp) _).alloc (by simp; omega) _).alloc (by simp; omega) _
  obtain ⟨W0, hW0⟩ : ∃ W0, W0 = ((((w.alloc (.cells #[.int .i64 kd] 3)).alloc (.cells #[u0, u1, u2, u3, u4, u5, u6] 32)).alloc (.cells #[.int .i64 0, .int .i64 0, .string ⟨#[]⟩, .string ⟨#[]⟩, .slice none 0 0, .slice none 0 0, .slice none 0 0] 32)).alloc (.cells #[.slice a l.length cap] 28)) := ⟨_, rfl⟩
  rw [← hW0] at hB0 ⊢
  have hsz : W0.heap.size = w.heap.size + 4 := by rw [hW0]; simp
  have b0 : W0.heap[w.heap.size]? = some (.cells #[.int .i64 kd] 3 (0, 0)) := by rw [hW0]; exact fr_heap (heap_alloc_new w _) ((((Fr.refl No _).alloc _).alloc _).alloc _) (fun e => e)
  have b1 : W0.heap[w.heap.size + 1]? = some (.cells #[u0, u1, u2, u3, u4, u5, u6] 32 (0, 0)) := by
    have h := heap_alloc_new (w.alloc (.cells #[.int .i64 kd] 3)) (.cells #[u0, u1, u2, u3, u4, u5, u6] 32)
    rw [World.size_alloc] at h
    rw [hW0]; exact fr_heap h (((Fr.refl No _).alloc _).alloc _) (fun e => e)
  have b2 : W0.heap[w.heap.size + 1 + 1]? = some (.cells #[.int .i64 0, .int .i64 0, .string ⟨#[]⟩, .string ⟨#[]⟩, .slice none 0 0, .slice none 0 0, .slice none 0 0] 32 (0, 0)) := by
    have h := heap_alloc_new ((w.alloc (.cells #[.int .i64 kd] 3)).alloc (.cells #[u0, u1, u2, u3, u4, u5, u6] 32)) (.cells #[.int .i64 0, .int .i64 0, .string ⟨#[]⟩, .string ⟨#[]⟩, .slice none 0 0, .slice none 0 0, .slice none 0 0] 32)
    rw [World.size_alloc, World.size_alloc] at h
    rw [hW0]; exact fr_heap h ((Fr.refl No _).alloc _) (fun e => e)
  have b3 : W0.cell? ⟨w.heap.size + 1 + 1 + 1, 0, none⟩ = some (.slice a l.length cap) := by
    have h := heap_alloc_new (((w.alloc (.cells #[.int .i64 kd] 3)).alloc (.cells #[u0, u1, u2, u3, u4, u5, u6] 32)).alloc (.cells #[.int .i64 0, .int .i64 0, .string ⟨#[]⟩, .string ⟨#[]⟩, .slice none 0 0, .slice none 0 0, .slice none 0 0] 32)) (.cells #[.slice a l.length cap] 28)
    rw [World.size_alloc, World.size_alloc, World.size_alloc] at h
    rw [cell_of_heap (by rw [hW0]; exact h)]; rfl
  have hT0 : CW M k m W0 (SetD S w W0) [u0, u1, u2, u3, u4, u5, u6] t := (HT.out.kept ⟨hB0.size, fun g hg hl => ⟨hg, hB0.block g hl⟩⟩).sub (fun _ h => .inl h)
  clear hW0
  refine wpIn_rangeFunc_ownG hro h1 (gf := 125) (lb := #[.pointer (some ⟨w.heap.size + 1 + 1 + 1, 0, none⟩)]) rfl h7 (enters_of Tryz.func125 (by kernel_rfl) rfl)
    (back_stops F (n - 1) h7 hro (by omega) (w.heap.size + 1 + 1 + 1) w.heap.size _ l hreach W0 (by omega) (by omega) b3 (HI.out.below hB0)) KB.trans (KB.b (by omega)) (Below.refl _ _) (fun _ => rfl)
    (fun pre W => (TBoxD M k m S w t pre W ∧ W.heap[w.heap.size]? = some (.cells #[.int .i64 kd] 3 (0, 0)) ∧ W.heap[w.heap.size + 1 + 1]? = some (.cells #[.int .i64 0, .int .i64 0, .string ⟨#[]⟩, .string ⟨#[]⟩, .slice none 0 0, .slice none 0 0, .slice none 0 0] 32 (0, 0))) ∧ Below w.heap.size w W)
    (fun _ _ _ => False)
    (OwnFrom.and (Own.from (fun s A B row hs hg hr => ⟨tboxD_own M k m S w t s A B row hs.1 hg hr, heap_own hs.2.1 hg hr, heap_own hs.2.2 hg hr⟩) _) (ownFrom_below (Nat.le_refl _) (by omega)))
    (fun _ _ _ _ _ hs _ _ => hs)
    ⟨⟨⟨u0, u1, u2, u3, u4, u5, u6, b1, hT0⟩, b0, b2⟩, hB0⟩
    (fun x => { tmps := #[.int .i64 kd, .slice a l.length cap, .agg #[u0, u1, u2, u3, u4, u5, u6], .pointer (some ⟨w.heap.size, 0, none⟩), undef, .pointer (some ⟨w.heap.size + 1, 0, none⟩), .pointer (some ⟨w.heap.size + 1 + 1, 0, none⟩), undef, .string x.2.1, .slice a l.length cap, .func (.func 125) #[] #[.pointer (some ⟨w.heap.size + 1 + 1 + 1, 0, none⟩)], .int .i64 (x.1 : Int), .string x.2.1, undef, undef, undef, undef, undef, undef], defers := [] }) ?assign ?body ?done ?stop
  case assign =>
    intro l x W K hK
    gi_wp2
    exact hK
  case body =>
    rintro q pre x W ⟨⟨⟨c0, c1, c2, c3, c4, c5, c6, g1, hr⟩, g0, g2⟩, hB⟩ _
    have k0 := cell_of_heap g0 0
    have k1 := cell_of_heap g1
    have z1 := frozen_of_heap g1
    have l0 := lt_of_heap g0
    have l1 := lt_of_heap g1
    have l2 := lt_of_heap g2
    have G0 := hide g0
    have G1 := hide g1
    have G2 := hide g2
    have HR := hide hr
    have HB := hide hB
    have HSS := hide HS.out
    clear g0 g1 g2 hr hB b0 b1 b2 b3 hT0 hB0 HI HT HS
    gi_wp2
    obtain ⟨P, hP⟩ : ∃ P, P = (((((((W.setCell ⟨w.heap.size + 1, 0, none⟩ (.int .i64 kd)).setCell ⟨w.heap.size + 1, 1, none⟩ (.int .i64 0)).setCell ⟨w.heap.size + 1, 2, none⟩ (.string x.2.1)).setCell ⟨w.heap.size + 1, 3, none⟩ (.string ⟨#[]⟩)).setCell ⟨w.heap.size + 1, 4, none⟩ (.slice none 0 0)).setCell ⟨w.heap.size + 1, 5, none⟩ (.slice (some ⟨W.heap.size, 0, none⟩) 1 1)).setCell ⟨w.heap.size + 1, 6, none⟩ (.slice none 0 0)) := ⟨_, rfl⟩
    rw [← hP]
    obtain ⟨s1, s2⟩ := set7 G1.out (.int .i64 kd) (.int .i64 0) (.string x.2.1) (.string ⟨#[]⟩) (.slice none 0 0) (.slice (some ⟨W.heap.size, 0, none⟩) 1 1) (.slice none 0 0)
    have hps : P.heap.size = W.heap.size := by rw [hP]; simp [World.setCell]
    have hk : KeepsOthers W P := by rw [hP]; exact keeps7 _ _ _ _ _ _ _ _ _
    have hb : Below w.heap.size w P := by rw [hP]; exact below7 HB.out _ (by omega) _ _ _ _ _ _ _
    have hb2 : Below w.heap.size W P := by rw [hP]; exact below7 (Below.refl _ _) _ (by omega) _ _ _ _ _ _ _
    rw [← hP] at s1 s2
    have fa : Fr No P (P.alloc (.cells #[c0, c1, c2, c3, c4, c5, c6] 32)) := (Fr.refl No P).alloc _
    have hn7 := heap_alloc_new P (.cells #[c0, c1, c2, c3, c4, c5, c6] 32)
    rw [hps] at hn7
    have hwb := HB.out.size
    have fwa : Fr (· = w.heap.size + 1) W (P.alloc (.cells #[c0, c1, c2, c3, c4, c5, c6] 32)) := s2.alloc _
    have hSs := HSS.out
    have hr2 : CW M k (m + pre.length) (P.alloc (.cells #[c0, c1, c2, c3, c4, c5, c6] 32)) (SetD S w W) [c0, c1, c2, c3, c4, c5, c6] t :=
      HR.out.kept (stays_fr fwa (fun g hg _ e => by
        have e : g = w.heap.size + 1 := e
        rcases hg with h | h
        · have := hSs g h; omega
        · have := h.1; omega) (fun _ h => h))
    refine ⟨(hk.trans (KeepsOthers.alloc _ _)).from _, ⟨hb2.alloc (by omega) _, fun v hv => ?_⟩, ⟨⟨_, _, _, _, _, _, _, fr_heap s1 fa (fun e => e), ?_⟩, ?_, ?_⟩, hb.alloc (by omega) _⟩
    · have e1 := fwa.block (w.heap.size + 1 + 1 + 1) (lt_of_cell hv) (fun e => by have e : w.heap.size + 1 + 1 + 1 = w.heap.size + 1 := e; omega)
      unfold World.cell? at hv ⊢
      rw [e1]; exact hv
    · rw [List.length_append, List.length_singleton, ← Nat.add_assoc]
      refine (hr2.wrap hkd x.2.2 hn7 (fun h => ?_) rfl).sub (fun g h => ?_)
      · rcases h with h | h
        · have := hSs _ h; omega
        · have := h.2; omega
      · rcases h with (h | h) | h
        · exact .inl h
        · exact .inr ⟨h.1, by rw [World.size_alloc, hps]; have := h.2; omega⟩
        · have h : g = W.heap.size := h
          exact .inr ⟨by omega, by rw [World.size_alloc, hps]; omega⟩
    · exact fr_heap G0.out fwa (fun e => by have e : w.heap.size = w.heap.size + 1 := e; omega)
    · exact fr_heap G2.out fwa (fun e => by have e : w.heap.size + 1 + 1 = w.heap.size + 1 := e; omega)
  case done =>
    rintro D ys W hD rfl ⟨⟨⟨c0, c1, c2, c3, c4, c5, c6, g1, hr⟩, g0, g2⟩, hB⟩ hK
    obtain ⟨kd', n', x', y', a0, n0, d0, a1, n1, d1, a2, n2, d2, he⟩ := hr.form
    simp only [List.cons.injEq, and_true] at he
    obtain ⟨rfl, rfl, rfl, rfl, rfl, rfl, rfl⟩ := he
    have k1 := cell_of_heap g1
    have k2 := cell_of_heap g2
    have z2 := frozen_of_heap g2
    have l1 := lt_of_heap g1
    have l2 := lt_of_heap g2
    have G1 := hide g1
    have G2 := hide g2
    have HR := hide hr
    have HB := hide hB
    clear g0 g1 g2 hr hB b0 b1 b2 b3 hT0 hB0 HI HT
    gi_wp2
    obtain ⟨s1, s2⟩ := set7 G2.out (.int .i64 kd') (.int .i64 n') (.string x') (.string y') (.slice a0 n0 d0) (.slice a1 n1 d1) (.slice a2 n2 d2)
    obtain ⟨P, hP⟩ : ∃ P, P = (((((((W.setCell ⟨w.heap.size + 1 + 1, 0, none⟩ (.int .i64 kd')).setCell ⟨w.heap.size + 1 + 1, 1, none⟩ (.int .i64 n')).setCell ⟨w.heap.size + 1 + 1, 2, none⟩ (.string x')).setCell ⟨w.heap.size + 1 + 1, 3, none⟩ (.string y')).setCell ⟨w.heap.size + 1 + 1, 4, none⟩ (.slice a0 n0 d0)).setCell ⟨w.heap.size + 1 + 1, 5, none⟩ (.slice a1 n1 d1)).setCell ⟨w.heap.size + 1 + 1, 6, none⟩ (.slice a2 n2 d2)) := ⟨_, rfl⟩
    rw [← hP] at s1 s2 ⊢
    have hk : KeepsOthers W P := by rw [hP]; exact keeps7 _ _ _ _ _ _ _ _ _
    have hb : Below w.heap.size w P := by rw [hP]; exact below7 HB.out _ (by omega) _ _ _ _ _ _ _
    have hK' := hk.same D _ hK rfl
    refine ⟨by simp, .inl ⟨_, _, rfl, run_takeDeferred hK', ?_⟩⟩
    have s3 := putObj_heap (o' := .deferred none) s1 hK' rfl
    refine ⟨_, retT rfl _ _ (w.heap.size + 1 + 1) (.int .i64 kd') (.int .i64 n') (.string x') (.string y') (.slice a0 n0 d0) (.slice a1 n1 d1) (.slice a2 n2 d2) (0, 0) rfl s3, _, _, _, _, _, _, _, rfl, hb.trans (belowK_b (w := w) (Nat.le_refl _) _ D _ _ (by omega) hK' rfl rfl), ?_⟩
    have hsz2 := hb.size
    have hSs := HS.out
    have hr3 := HR.out.kept (stays_fr s2 (fun g hg hl e => by
      have e : g = w.heap.size + 1 + 1 := e
      rcases hg with h | h
      · have := hSs g h; omega
      · have := h.1; omega) (fun _ h => h))
    rw [bk_length] at hr3
    have hr4 := hr3.cells (w' := P.putObj D (.deferred none)) ⟨(grownBy_putObj' P D (.deferred none)).size, fun a u h => cell_kept h (grownBy_putObj' P D (.deferred none)) (fun r e => by cases e; exact ⟨_, hK', rfl⟩), fun a u h => frozen_kept h (grownBy_putObj' P D (.deferred none)) (fun r e => by cases e; exact ⟨_, hK', rfl⟩)⟩
    refine hr4.sub (fun g h => ?_)
    rcases h with h | h
    · exact .inl h
    · exact .inr ⟨by have := h.1; omega, Nat.lt_of_lt_of_le (Nat.lt_of_lt_of_le h.2 s2.size) (grownBy_putObj' P D (.deferred none)).size⟩
  case stop =>
    rintro D c pre W _ _ h _
    exact h.elim

theorem countD_any (M k m : Nat) (S : Nat → Prop) (B : Nat) (kd : Int) (hkd : ck kd) (v : Value) (l : List ByteArray) (hn : l.length ≤ 1099511627776) (t : Pu.TT k) (cs : List Value) (w : World) (hl : Names B w v l) (hT : CW M k m w S cs t) (hS : ∀ g, S g → g < w.heap.size) :
    Calls Tryz.prog 72 #[.int .i64 kd, v, .agg cs.toArray] w fun e W' => ∃ cs', e = .returned (.agg cs'.toArray) ∧ Fr No w W' ∧ CW M k (m + l.length) W' (fun g => S g ∨ New w W' g) cs' t := by
  obtain ⟨kd', n, x, y, a0, n0, d0, a1, n1, d1, a2, n2, d2, rfl⟩ := hT.form
  have h := countD_in Fence.wide 3 trivial trivial trivial rfl (Nat.le_refl _) M k m S kd hkd v (nms l hl.2) (by rw [nms_length]; exact hn) t _ _ _ _ _ _ _ w (nms_at hl) hT hS
  rw [nms_length] at h
  refine (callsIn_wide.1 h).mono ?_
  rintro e W' ⟨c0, c1, c2, c3, c4, c5, c6, rfl, hb, hr⟩
  exact ⟨_, rfl, fr_below hb, hr⟩
end Go.Proofs.YtomahbdidlglfacGreatDoor

/- own: 'namesIn', 'repeated', walked. -/
namespace Go.Proofs.YtomahbdidlglfacGreatDoor
open Go.RowKit Go.Maps Go.WideMaps

/-- The kind, the name of a term. -/
def kindOf : (k : Nat) → Pu.TT k → Int
  | 0, t => nomatch t
  | _ + 1, t => (show Pu.Node _ from t).kind
def nameOf : (k : Nat) → Pu.TT k → ByteArray
  | 0, t => nomatch t
  | _ + 1, t => (show Pu.Node _ from t).name
/-- The names among terms. -/
def namesOf (k : Nat) (l : List (Pu.TT k)) : List ByteArray := (l.filter fun t => kindOf k t == 1).map (nameOf k)
theorem namesOf_succ (k : Nat) (l : List (Pu.TT k)) (i : Nat) (h : i < l.length) : namesOf k (l.take (i + 1)) = namesOf k (l.take i) ++ if kindOf k l[i] == 1 then [nameOf k l[i]] else [] := by
  unfold namesOf
  rw [List.take_succ_eq_append_getElem h, List.filter_append, List.map_append]
  congr 1
  by_cases e : (kindOf k l[i] == 1) = true <;> simp [e]
theorem namesOf_le (k : Nat) (l : List (Pu.TT k)) : (namesOf k l).length ≤ l.length := by
  unfold namesOf; rw [List.length_map]; exact List.length_filter_le _ _
theorem RT.kn {k B : Nat} {w : World} {kd n : Int} {x y : ByteArray} {c4 c5 c6 : Value} {t : Pu.TT k} (h : RT k B w [.int .i64 kd, .int .i64 n, .string x, .string y, c4, c5, c6] t) : kd = kindOf k t ∧ x = nameOf k t ∧ x.size ≤ maxLen := by
  cases k with
  | zero => exact h.elim
  | succ k =>
    obtain ⟨_, _, _, _, _, h1, h2, _⟩ := h
    injection h1 with e1 h1
    injection h1 with e2 h1
    injection h1 with e3 h1
    injection e1 with _ e1
    injection e3 with e3
    exact ⟨e1, e3, by rw [e3]; exact h2⟩

set_option maxRecDepth 100000 in
set_option maxHeartbeats 4000000 in
theorem namesIn_any (k B : Nat) (v : Value) (acs : List Value) (l : List (Pu.TT k)) (w : World) (hr : Row B w v l.length acs) (he : Each 7 (RT k B w) acs l) (hB : B ≤ w.heap.size) (hn : l.length ≤ 1073741824) :
    Calls Tryz.prog 109 #[v] w fun e w' => ∃ a c, e = .returned (.slice a (namesOf k l).length c) ∧ Fr No w w' ∧ Names w'.heap.size w' (.slice a (namesOf k l).length c) (namesOf k l) := by
  obtain ⟨a0, cp0, rfl, hcp1, hcp2⟩ := hr.form
  obtain ⟨i0, hif, hz0, hz1, hz2⟩ := info_parts Tryz.info9
  have HR := hide hr
  have HE := hide he
  have HB := hide hB
  have HN := hide hn
  clear hr he hB hn
  go_enter Tryz.func109, Tryz.ntmps109
  go_wp2_with fail
  go_loopw [3, 8] (fun r i wr => ∃ j : Nat, j ≤ l.length ∧ i = .int .i64 j ∧ Fr No w wr ∧ wr.ownsRow w.heap.size 9 1 r (namesOf k (l.take j)).length ((namesOf k (l.take j)).map .string) ∧ Short (namesOf k (l.take j))) (fun _ i _ => l.length - (intOf i).toNat)
  case atStart => exact ⟨0, Nat.zero_le _, rfl, Fr.refl _ _, World.ownsRow_nil _ _ _ _, fun y hy => by simp [namesOf] at hy⟩
  case round =>
    obtain ⟨j, hj, rfl, hf, hrow, hsh⟩ := hrel
    obtain ⟨ra, rc, rfl⟩ := row_form hrow
    by_cases hlt : j < l.length
    · have ho : Old B w wr := hf.old HB.out (fun _ _ e => e)
      obtain ⟨g, o, cap1, kd', n', x', y', b0, n0, e0, b1, n1, e1, b2, n2, e2, hav, hcap, hg, hgw, hrt, hcell⟩ := args_at HR.out HE.out j hlt
      injection hav with hav1 _ hav2
      subst hav1 hav2
      obtain ⟨hk1, hk2, hk3⟩ := RT.kn hrt
      have hcw : ∀ q, q < 7 → wr.cell? ⟨g, o + j * 7 + q, none⟩ = [Value.int .i64 kd', .int .i64 n', .string x', .string y', .slice b0 n0 e0, .slice b1 n1 e1, .slice b2 n2 e2][q]? := fun q hq => by
        rw [ho.cell (a := ⟨g, o + j * 7 + q, none⟩) hg]; exact hcell q hq
      have q0 : wr.cell? ⟨g, o + j * 7, none⟩ = some (.int .i64 kd') := hcw 0 (by omega)
      have q1 := hcw 1 (by omega)
      have q2 := hcw 2 (by omega)
      have q3 := hcw 3 (by omega)
      have q4 := hcw 4 (by omega)
      have q5 := hcw 5 (by omega)
      have q6 := hcw 6 (by omega)
      have hgl : g < wr.heap.size := Nat.lt_of_lt_of_le hgw hf.size
      have hsn := namesOf_succ k l j hlt
      rw [← hk1, ← hk2] at hsn
      have hnl := namesOf_le k (l.take j)
      rw [List.length_take] at hnl
      obtain ⟨acc, hacc⟩ : ∃ acc, acc = namesOf k (l.take j) := ⟨_, rfl⟩
      rw [← hacc] at hrow hsh hsn hnl ⊢
      have HF := hide hf
      have HSH := hide hsh
      have HK3 := hide hk3
      have hn2 := HN.out
      have hal : acc.length ≤ 1073741824 := by omega
      have fa : ∀ o', Fr No wr (wr.alloc o') := fun o' => (Fr.refl No wr).alloc o'
      have hrow0 : ∀ o', (wr.alloc o').ownsRow w.heap.size 9 1 (.slice ra acc.length rc) acc.length (acc.map .string) := fun o' => hrow.alloc o'
      have HR1 := hide hrow
      have s1 := hf.size
      clear hcw hcell hrt hf ho hk1 hk2 hk3 hacc hsh hrow hnl
      have i1 : (j : Int) < (l.length : Int) := by omega
      have i0' : (0 : Int) ≤ (j : Int) := by omega
      unfold maxLen at hcp2
      by_cases hkd : kd' = 1
      · subst hkd
        rw [if_pos (by decide)] at hsn
        have HSN := hide hsn
        clear hsn
        go_wp2_with (first
          | (at_builtin; refine wpList_append_own_at _ rfl _ _ 28 rfl w.heap.size 9 i0 (.string ⟨#[]⟩) 1 16 Tryz.underlying28 hif hz0 hz1 hz2 rfl (by decide) _ _ _ rfl ((hrow0 _).alloc _) ⟨wr.heap.size + 1, 0, none⟩ 1 1 [.string x'] rfl rfl (by have h := cell_one_new (wr.alloc (.cells #[.int .i64 1, .int .i64 n', .string x', .string y', .slice b0 n0 e0, .slice b1 n1 e1, .slice b2 n2 e2] 32)) (.string x') 9; rw [World.size_alloc] at h; exact h) (by simp [Value.oneCell']) (by unfold maxLen; omega) (by omega) (by simp; omega) ?_; intro v' w2 hown' hgrow2 hnil hloc; obtain ⟨a', c', rfl⟩ := row_form hown')
          | fail)
        go_wp2_with fail
        go_roundw
        case rel =>
          refine ⟨j + 1, by omega, by go_num, ?_, ?_, ?_⟩
          · exact ((HF.out.alloc _).alloc _).grown hgrow2 (fun q hq => .inr ((HR1.out.lt q hq).1))
          · rw [HSN.out, List.length_append, List.map_append]
            simpa using hown'
          · rw [HSN.out]
            intro y hy
            rcases List.mem_append.1 hy with h | h
            · exact HSH.out y h
            · rw [List.mem_singleton.1 h]; exact HK3.out
        case measure => simp [intOf]; omega
      · have hkd' : (kd' == 1) = false := by simpa using hkd
        rw [hkd', if_neg (by decide), List.append_nil] at hsn
        have HSN := hide hsn
        clear hsn hkd
        go_wp2_with fail
        go_roundw
        case rel =>
          refine ⟨j + 1, by omega, by go_num, HF.out.alloc _, ?_, ?_⟩
          · rw [HSN.out]; exact hrow0 _
          · rw [HSN.out]; exact HSH.out
        case measure => simp [intOf]; omega
    · have hil : j = l.length := by omega
      subst hil
      rw [List.take_length] at hrow hsh ⊢
      have HF := hide hf
      have HRW := hide hrow
      have HSH := hide hsh
      clear hf hrow hsh
      go_wp2_with fail
      go_ret
      exact ⟨_, _, rfl, HF.out, own_names HRW.out rfl HSH.out⟩
end Go.Proofs.YtomahbdidlglfacGreatDoor

/- own: 'repeated', walked: the names that were there ahead. -/
namespace Go.Proofs.YtomahbdidlglfacGreatDoor
open Go.RowKit Go.Maps Go.WideMaps

/-- The names among the first k that were there ahead. -/
def repTo (l : List ByteArray) (k : Nat) : List ByteArray := ((List.range k).filter fun j => Pu.has (l.take j) (l.getD j ⟨#[]⟩)).map fun j => l.getD j ⟨#[]⟩
theorem repTo_succ (l : List ByteArray) (k : Nat) (h : k < l.length) : repTo l (k + 1) = repTo l k ++ if Pu.has (l.take k) l[k] = true then [l[k]] else [] := by
  unfold repTo
  have e : l.getD k ⟨#[]⟩ = l[k] := by rw [List.getD_eq_getElem?_getD, List.getElem?_eq_getElem h]; rfl
  rw [List.range_succ, List.filter_append, List.map_append]
  congr 1
  by_cases e2 : Pu.has (l.take k) l[k] = true <;> simp [e, e2, -List.getD_eq_getElem?_getD]
theorem repTo_le (l : List ByteArray) (k : Nat) : (repTo l k).length ≤ k := by
  unfold repTo
  rw [List.length_map]
  exact Nat.le_trans (List.length_filter_le _ _) (by simp)
def rep (l : List ByteArray) : List ByteArray := repTo l l.length

theorem has_count (l : List ByteArray) (x : ByteArray) : decide (0 < l.countP (fun y => decide (y = x))) = Pu.has l x := by
  unfold Pu.has
  by_cases h : 0 < l.countP (fun y => decide (y = x))
  · rw [decide_eq_true h]
    rw [List.countP_pos_iff] at h
    obtain ⟨y, hy, e⟩ := h
    exact (List.any_eq_true.2 ⟨y, hy, e⟩).symm
  · rw [decide_eq_false h]
    cases hh : l.any (fun y => decide (y = x)) with
    | false => rfl
    | true =>
      obtain ⟨y, hy, e⟩ := List.any_eq_true.1 hh
      exact absurd (List.countP_pos_iff.2 ⟨y, hy, e⟩) h

set_option maxHeartbeats 1000000 in
theorem rep1_any (mb b K : Nat) (c : Pu.Cnt) (x : ByteArray) (w : World) (hm : w.heap[mb]? = some (.cells #[.map (some b)] 51 (0, 0))) (hc : CntAt w b K c) (hx : x.size ≤ maxLen) (hK : K < 1099511627776) (hcb : c x ≤ 1099511627776) :
    Calls Tryz.prog 126 #[.string x, .pointer (some ⟨mb, 0, none⟩)] w fun e w' => e = .returned (.bool (decide (0 < c x))) ∧ Fr (· = b) w w' ∧ CntAt w' b (K + 1) (fun y => if y = x then c x + 1 else c y) := by
  have h1 := look_cnt 51 Tryz.underlying51 hc hx
  have b1 : w.cell? ⟨mb, 0, none⟩ = some (.map (some b)) := by rw [cell_of_heap hm]; rfl
  have nb : mb ≠ b := hc.ne_cells hm
  obtain ⟨m, ⟨kk, D, hkk, hown, hD⟩, hmm⟩ := id hc
  have hkey := keyS hx
  obtain ⟨n, hn⟩ : ∃ n, n = c x := ⟨_, rfl⟩
  rw [← hn] at h1 hcb ⊢
  have HN := hide hn
  have HM := hide hm
  have HDD := hide hD
  have HMM := hide hmm
  have HNX : Hid (∀ w1, w.grownBy w1 (some b) → w1.ownsMap Tryz.prog 9 (plainElem Tryz.prog 3) b (kk + 1) (D.put (.string x.data.toList) (.lit (.int .i64 ((n : Int) + 1)))) → (w1.cell? ⟨mb, 0, none⟩ = some (.map (some b)) ∧ (Instr.lookup 51 (.map (some b)) (.string x) false).run Tryz.prog w1 = .ok (.int .i64 ((n + 1 : Nat) : Int)) w1 ∧ Fr (· = b) w w1 ∧ CntAt w1 b (K + 1) (fun y => if y = x then n + 1 else c y))) := by
    intro w1 hg ho
    have hf : Fr (· = b) w w1 := (Fr.refl _ w).grown hg (fun k hk => by cases hk; exact .inl rfl)
    have hc1 : CntAt w1 b (K + 1) (fun y => if y = x then n + 1 else c y) := cnt_up hkk hown.isMap HDD.out HMM.out ho (fun y hy => by simp [hy]) (by simp)
    refine ⟨by rw [cell_of_heap (fr_heap HM.out hf nb)]; rfl, ?_, hf, hc1⟩
    have := look_cnt 51 Tryz.underlying51 hc1 hx
    simpa using this
  clear hm hc hn hD hmm
  go_enter Tryz.func126, Tryz.ntmps126
  go_wp2_with (first
    | (at_mapUpdate; refine wpList_mapUpdate_own _ rfl _ _ _ 51 rfl 9 3 law Tryz.underlying51 _ b kk _ rfl hown (by unfold maxLen; omega) _ _ _ rfl rfl hkey _ [] (plainElem_int Tryz.underlying3 (WalkArith.wf_i64 (by omega))) ?_; intro w1 hown1 hgrow1; obtain ⟨c1, l1, F1, C1⟩ := HNX.out w1 hgrow1 hown1; have HF1 := hide F1; have HC1 := hide C1; clear F1 C1)
    | fail)
  go_wp2_with fail
  go_ret
  refine ⟨?_, HF1.out, HC1.out⟩
  have e1 : decide ((1 : Int) < ((n + 1 : Nat) : Int)) = decide (0 < n) := by
    by_cases h : 0 < n
    · rw [decide_eq_true h, decide_eq_true (by omega)]
    · rw [decide_eq_false h, decide_eq_false (by omega)]
  first
    | exact congrArg (fun q => Ending.returned (.bool q)) e1
    | (simp; omega)
end Go.Proofs.YtomahbdidlglfacGreatDoor
