/- One list of functions behind another, in a region that draws its order. -/
import Derived.Test.YtdcdegeeaakekacDoorP2Laid
import Derived.Test.YtdcdegeeaakekacDoorC2C3C4C6C7C9
import Derived.Test.YtdcdegeeaakekacDoorO3O4O5
namespace Go.Proofs.YtdcdegeeaakekacDoor
open Go.RowKit Go.Maps Go.WideMaps

theorem Tryd.infoFn : (Tryd.prog.info? 33).map (fun i => (i.zero, i.size, i.bytes)) = some (some (.agg #[.string ⟨#[]⟩, .slice none 0 0, .int .i64 0, .int .i64 0, .string ⟨#[]⟩, .string ⟨#[]⟩, .slice none 0 0, .slice none 0 0, .slice none 0 0]), 9, 160) := by kernel_rfl
theorem Tryd.ulFns : Tryd.prog.underlying 22 = some (.slice 33) := by kernel_rfl

theorem rf_one {k B : Nat} {w : World} {cs : List Value} {f : Pu.Fn k} (h : RF k B w cs f) : ∀ u ∈ cs, u.oneCell' = true := by
  obtain ⟨pv, b, rfl, _, hnm, _, hrt⟩ := h
  obtain ⟨kd, n, x, y, a0, n0, c0, a1, n1, c1, a2, n2, c2, rfl⟩ := hrt.form
  obtain ⟨a, c, rfl, _⟩ := hnm.1.form
  intro u hu
  simp only [List.mem_cons, List.not_mem_nil, or_false] at hu
  rcases hu with rfl | rfl | rfl | rfl | rfl | rfl | rfl | rfl | rfl <;> rfl
theorem each_one {α : Type} {n : Nat} {P : List Value → α → Prop} (hp : ∀ c a, P c a → ∀ u ∈ c, u.oneCell' = true) : ∀ {l : List α} {xs : List Value}, Each n P xs l → ∀ u ∈ xs, u.oneCell' = true
  | [], xs, h => by rw [show xs = [] from h]; intro u hu; simp at hu
  | _ :: _, xs, h => by
    obtain ⟨ck, rest, rfl, _, h3, h4⟩ := h
    intro u hu
    rcases List.mem_append.1 hu with h | h
    · exact hp _ _ h3 u h
    · exact each_one hp h4 u h

theorem app_row {base B : Nat} {w : World} {v u : Value} {n m : Nat} {xs ys : List Value} (ho : w.ownsRow base 33 9 v n xs) (hl : Row B w u m ys) (hy : ys.length = m * 9) (h1 : ∀ u ∈ ys, u.oneCell' = true) (hn : n + m ≤ 1073741824) (hb : base ≤ w.heap.size) :
    ∃ v' w', (Builtin.append_ #[22, 22] 22 #[v, u]).run Tryd.prog w = .ok v' w' ∧ w'.ownsRow base 33 9 v' (n + m) (xs ++ ys) ∧ w.grownBy w' v.ownBlock ∧ (v'.ownBlock = v.ownBlock ∨ v'.ownBlock = some w.heap.size) := by
  obtain ⟨i0, hi, hz0, hz1, hz2⟩ := info_parts Tryd.infoFn
  obtain ⟨a, cap, rfl, h2, h3, h4⟩ := hl
  by_cases hl0 : m = 0
  · subst hl0
    have hye : ys = [] := List.length_eq_zero_iff.1 (by omega)
    subst hye
    cases a with
    | none =>
      refine ⟨v, w, ?_, by simpa using ho, ⟨rfl, rfl, rfl, Nat.le_refl _, fun _ _ _ => rfl⟩, .inl rfl⟩
      rcases ho.2 with ⟨rfl, rfl⟩ | ⟨g, cap', cur, rfl, _, _, hnc, _⟩
      · simp [Builtin.append_, run_underlying Tryd.ulFns, sizeOf, typeInfo, hi, Builtin.lenOf, Builtin.firstCells]
      · simp [Builtin.append_, run_underlying Tryd.ulFns, sizeOf, typeInfo, hi, Builtin.lenOf, Builtin.firstCells, hnc, storeCells]
    | some a =>
      obtain ⟨v', w', h6, h7, h8, _, h9⟩ := run_append_own_at (P := Tryd.prog) (w := w) base 22 22 33 i0 _ 9 160 Tryd.ulFns hi hz0 hz1 hz2 rfl (by decide) v n xs ho a 0 cap [] rfl (fun j u hu => by simp at hu) (fun u hu => by simp at hu) (by unfold maxLen; omega) (by omega) hb
      exact ⟨v', w', h6, by simpa using h7, h8, h9⟩
  · obtain ⟨g, o, rfl, h6, h7, h8⟩ := h4 (by omega)
    obtain ⟨v', w', h9, h10, h11, _, h12⟩ := run_append_own_at (P := Tryd.prog) (w := w) base 22 22 33 i0 _ 9 160 Tryd.ulFns hi hz0 hz1 hz2 rfl (by decide) v n xs ho ⟨g, o, none⟩ m cap ys hy (fun j u hu => by
      have hj : j < ys.length := (List.getElem?_eq_some_iff.1 hu).1
      rw [Addr.add_lit, h8 j hj]; exact hu) h1 (by unfold maxLen; omega) (by omega) hb
    exact ⟨v', w', h9, h10, h11, h12⟩

theorem rowf_lit0 (base : Nat) (w : World) (hb : base ≤ w.heap.size) : (w.alloc (.cells #[] 33)).ownsRow base 33 9 (.slice (some ⟨w.heap.size, 0, none⟩) 0 0) 0 [] :=
  World.ownsRow_lit (base := base) (e := 33) (size := 9) w #[] 0 hb (by unfold maxLen; decide) rfl
/-- An append of a list of functions, in a region that draws its order. -/
theorem step_append_fns {w : World} {ops : Array Oper} {o : Oper} {a : Act} {K : Act → World → Prop} {Q : Exit → Act → World → Prop} {E : Prop} (hgd : o.guard = none) (s x : Operand)
    (ho : o.op = .call { callee := .builtin .append, args := #[s, x], argTypes := #[22, 22] }) (hty : o.type = 22) {base B n m : Nat} {v u : Value} {xs ys : List Value} (hs : a.eval s = v) (hx : a.eval x = u) (hown : w.ownsRow base 33 9 v n xs) (hl : Row B w u m ys) (hy : ys.length = m * 9) (h1 : ∀ u ∈ ys, u.oneCell' = true)
    (hn : n + m ≤ 1073741824) (hb : base ≤ w.heap.size)
    (h : ∀ v' w', w'.ownsRow base 33 9 v' (n + m) (xs ++ ys) → w.grownBy w' v.ownBlock → (v'.ownBlock = v.ownBlock ∨ v'.ownBlock = some w.heap.size) → K (a.put o.dst v') w') :
    if Region.wanted o (yielded ops a.tmps) = true then Oper.wp Tryd.prog o a w K Q else E := by
  have hw : Region.wanted o (yielded ops a.tmps) = true := by simp [Region.wanted, hgd]
  rw [if_pos hw]
  obtain ⟨v', w', hrun, h1, h2, h3⟩ := app_row hown hl hy h1 hn hb
  unfold Oper.wp execOp
  simp only [ho, hty, resolve, invoke, builtin, Sem.run_bind, Sem.run_pure, Result.andThen_ok, List.map_toArray, List.map_cons, List.map_nil, hs, hx, hrun]
  exact h v' w' h1 h2 h3
theorem rowf_d0 (w : World) : ((w.alloc (.cells #[] 33)).drew).ownsRow w.heap.size 33 9 (.slice (some ⟨w.heap.size, 0, none⟩) 0 0) 0 [] := rowf_lit0 w.heap.size w (Nat.le_refl _)
theorem rowf_d1 (w : World) (o : Obj) : (((w.alloc (.cells #[] 33)).alloc o).drew).ownsRow w.heap.size 33 9 (.slice (some ⟨w.heap.size, 0, none⟩) 0 0) 0 [] := (rowf_lit0 w.heap.size w (Nat.le_refl _)).alloc o
theorem rowf_d2 (w : World) (o : Obj) : (((w.alloc o).alloc (.cells #[] 33)).drew).ownsRow w.heap.size 33 9 (.slice (some ⟨w.heap.size + 1, 0, none⟩) 0 0) 0 [] := by
  have h := rowf_lit0 w.heap.size (w.alloc o) (by rw [World.size_alloc]; omega)
  rw [World.size_alloc] at h
  exact h
theorem srcf_two (D w5 : World) (cs : Array Value) (hg : (((D.alloc (.cells #[] 33)).alloc (.cells cs 33)).drew).grownBy w5 (some D.heap.size)) : w5.heap[D.heap.size + 1]? = some (.cells cs 33 (0, 0)) := by
  have h := heap_alloc_new (D.alloc (.cells #[] 33)) (.cells cs 33)
  rw [World.size_alloc] at h
  have h2 : (((D.alloc (.cells #[] 33)).alloc (.cells cs 33)).drew).heap[D.heap.size + 1]? = some (.cells cs 33 (0, 0)) := h
  rw [hg.block _ (lt_of_heap h2) (by intro e; injection e with e; omega)]
  exact h2
theorem srcf_three (D w5 : World) (cs : Array Value) (hg : (((D.alloc (.cells cs 33)).alloc (.cells #[] 33)).drew).grownBy w5 (some (D.heap.size + 1))) : w5.heap[D.heap.size]? = some (.cells cs 33 (0, 0)) := by
  have h := fr_heap (T := No) (heap_alloc_new D (.cells cs 33)) ((Fr.refl No _).alloc (.cells #[] 33)) (fun e => e)
  have h2 : (((D.alloc (.cells cs 33)).alloc (.cells #[] 33)).drew).heap[D.heap.size]? = some (.cells cs 33 (0, 0)) := h
  rw [hg.block _ (lt_of_heap h2) (by intro e; injection e with e; omega)]
  exact h2
/-- One function that lies in a block of its own. -/
theorem one_fn {w' : World} {cs : Array Value} {R : Nat} (h : w'.heap[R]? = some (.cells cs 33 (0, 0))) : Row (R + 1) w' (.slice (some ⟨R, 0, none⟩) 1 1) 1 cs.toList :=
  ⟨_, _, rfl, Nat.le_refl _, by unfold maxLen; decide, fun _ => ⟨_, _, rfl, Nat.lt_succ_self _, lt_of_heap h, fun i hi => by
    rw [show 0 + i = i by omega, cell_of_heap h, Array.getElem?_toList]⟩⟩
theorem row_own {w : World} {b : Nat} {v : Value} {n : Nat} {xs : List Value} (h : w.ownsRow b 33 9 v n xs) : Row w.heap.size w v n xs := by
  rcases h.2 with ⟨rfl, h0⟩ | ⟨g, cap, cur, rfl, hb, hgg, hcap, hcap', hsz, htk⟩
  · exact ⟨_, _, by rw [h0], by omega, Nat.zero_le _, fun hn => absurd hn (by omega)⟩
  · refine ⟨_, _, rfl, hcap, hcap', fun hn => ⟨g, 0, rfl, lt_of_heap hgg, lt_of_heap hgg, fun i hi => ?_⟩⟩
    have := h.cells (g := g) rfl i _ (List.getElem?_eq_getElem hi)
    rw [Addr.add_lit] at this
    rw [this]
    exact (List.getElem?_eq_getElem hi).symm
/-- The functions behind the appends. -/
theorem fns_snoc {K B b : Nat} {w w' : World} {v : Value} {acs cs : List Value} {l : List (Pu.Fn K)} {m : Pu.Fn K} (he : Each 9 (RF K B w) acs l) (hm : RF K B w cs m) (hc : cs.length = 9) (h : w'.ownsRow b 33 9 v (0 + l.length + 1) ([] ++ acs ++ cs)) (hf : Fr No w w') (hB : B ≤ w.heap.size) : Fns K w'.heap.size w' v (l ++ [m]) := by
  have ho := hf.old hB (fun _ _ e => e)
  have hk := hf.size
  refine ⟨acs ++ cs, ?_, ?_⟩
  · have := row_own h
    rw [show (l ++ [m]).length = 0 + l.length + 1 by simp, show acs ++ cs = [] ++ acs ++ cs by simp]
    exact this
  · exact Each.snoc hc (hm.kept ho (by omega) hk) (he.mono fun _ _ hx => hx.kept ho (by omega) hk)
end Go.Proofs.YtdcdegeeaakekacDoor
