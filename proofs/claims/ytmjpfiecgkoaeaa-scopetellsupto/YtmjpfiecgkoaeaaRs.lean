/- One list of names behind another, in a region that draws its order. -/
import Derived.Test.YtmjpfiecgkoaeaaR7
namespace Go.Proofs.Ytmjpfiecgkoaeaa
open Go.RowKit Go.Maps Go.WideMaps

theorem row_lit0 (base : Nat) (w : World) (hb : base ≤ w.heap.size) : (w.alloc (.cells #[] 9)).ownsRow base 9 1 (.slice (some ⟨w.heap.size, 0, none⟩) 0 0) 0 [] :=
  World.ownsRow_lit (base := base) (e := 9) (size := 1) w #[] 0 hb (by unfold maxLen; decide) rfl

/-- An append of a list of names, in a region that draws its order. -/
theorem step_append_names {w : World} {ops : Array Oper} {o : Oper} {a : Act} {K : Act → World → Prop} {Q : Exit → Act → World → Prop} {E : Prop} (hgd : o.guard = none) (s x : Operand)
    (ho : o.op = .call { callee := .builtin .append, args := #[s, x], argTypes := #[23, 23] }) (hty : o.type = 23) {base B n : Nat} {v u : Value} {xs : List Value} {l : List ByteArray} (hs : a.eval s = v) (hx : a.eval x = u) (hown : w.ownsRow base 9 1 v n xs) (hl : Names B w u l)
    (hn : n + l.length ≤ 1099511627776) (hb : base ≤ w.heap.size)
    (h : ∀ v' w', w'.ownsRow base 9 1 v' (n + l.length) (xs ++ l.map .string) → w.grownBy w' v.ownBlock → (v'.ownBlock = v.ownBlock ∨ v'.ownBlock = some w.heap.size) → K (a.put o.dst v') w') :
    if Region.wanted o (yielded ops a.tmps) = true then Oper.wp Try.prog o a w K Q else E := by
  have hw : Region.wanted o (yielded ops a.tmps) = true := by simp [Region.wanted, hgd]
  rw [if_pos hw]
  obtain ⟨v', w', hrun, h1, h2, h3⟩ := app_names hown hl hn hb
  unfold Oper.wp execOp
  simp only [ho, hty, resolve, invoke, builtin, Sem.run_bind, Sem.run_pure, Result.andThen_ok, List.map_toArray, List.map_cons, List.map_nil, hs, hx, hrun]
  exact h v' w' h1 h2 h3

theorem src_two (D w5 : World) (x : ByteArray) (hg : ((D.alloc (.cells #[] 9)).alloc (.cells #[.string x] 9)).grownBy w5 (some D.heap.size)) : w5.heap[D.heap.size + 1]? = some (.cells #[.string x] 9 (0, 0)) := by
  have h := heap_alloc_new (D.alloc (.cells #[] 9)) (.cells #[.string x] 9)
  rw [World.size_alloc] at h
  rw [hg.block _ (lt_of_heap h) (by intro e; injection e with e; omega)]
  exact h
theorem src_three (D w5 : World) (x : ByteArray) (hg : ((D.alloc (.cells #[.string x] 9)).alloc (.cells #[] 9)).grownBy w5 (some (D.heap.size + 1))) : w5.heap[D.heap.size]? = some (.cells #[.string x] 9 (0, 0)) := by
  have h := fr_heap (T := No) (heap_alloc_new D (.cells #[.string x] 9)) ((Fr.refl No _).alloc (.cells #[] 9)) (fun e => e)
  rw [hg.block _ (lt_of_heap h) (by intro e; injection e with e; omega)]
  exact h

/-- The same behind a draw. -/
theorem row_d0 (w : World) : ((w.alloc (.cells #[] 9)).drew).ownsRow w.heap.size 9 1 (.slice (some ⟨w.heap.size, 0, none⟩) 0 0) 0 [] := row_lit0 w.heap.size w (Nat.le_refl _)
theorem row_d1 (w : World) (o : Obj) : (((w.alloc (.cells #[] 9)).alloc o).drew).ownsRow w.heap.size 9 1 (.slice (some ⟨w.heap.size, 0, none⟩) 0 0) 0 [] := (row_lit0 w.heap.size w (Nat.le_refl _)).alloc o
theorem row_d2 (w : World) (o : Obj) : (((w.alloc o).alloc (.cells #[] 9)).drew).ownsRow w.heap.size 9 1 (.slice (some ⟨w.heap.size + 1, 0, none⟩) 0 0) 0 [] := by
  have h := row_lit0 w.heap.size (w.alloc o) (by rw [World.size_alloc]; omega)
  rw [World.size_alloc] at h
  exact h
theorem fr_d1 (w : World) (o : Obj) : Fr No w (w.alloc o).drew := ((Fr.refl No w).alloc o).drew
theorem fr_d2 (w : World) (o o' : Obj) : Fr No w ((w.alloc o).alloc o').drew := (((Fr.refl No w).alloc o).alloc o').drew
theorem src_two' (D w5 : World) (x : ByteArray) (hg : (((D.alloc (.cells #[] 9)).alloc (.cells #[.string x] 9)).drew).grownBy w5 (some D.heap.size)) : w5.heap[D.heap.size + 1]? = some (.cells #[.string x] 9 (0, 0)) := by
  have h := heap_alloc_new (D.alloc (.cells #[] 9)) (.cells #[.string x] 9)
  rw [World.size_alloc] at h
  have h2 : (((D.alloc (.cells #[] 9)).alloc (.cells #[.string x] 9)).drew).heap[D.heap.size + 1]? = some (.cells #[.string x] 9 (0, 0)) := h
  rw [hg.block _ (lt_of_heap h2) (by intro e; injection e with e; omega)]
  exact h2
theorem src_three' (D w5 : World) (x : ByteArray) (hg : (((D.alloc (.cells #[.string x] 9)).alloc (.cells #[] 9)).drew).grownBy w5 (some (D.heap.size + 1))) : w5.heap[D.heap.size]? = some (.cells #[.string x] 9 (0, 0)) := by
  have h := fr_heap (T := No) (heap_alloc_new D (.cells #[.string x] 9)) ((Fr.refl No _).alloc (.cells #[] 9)) (fun e => e)
  have h2 : (((D.alloc (.cells #[.string x] 9)).alloc (.cells #[] 9)).drew).heap[D.heap.size]? = some (.cells #[.string x] 9 (0, 0)) := h
  rw [hg.block _ (lt_of_heap h2) (by intro e; injection e with e; omega)]
  exact h2
end Go.Proofs.Ytmjpfiecgkoaeaa
