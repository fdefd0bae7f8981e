/- 'Same': lists of names. -/
import Derived.Test.YtdcdegeeaakekacDoorC2C3C4C6C7C9
import Derived.Test.YtdcdegeeaakekacDoorO3O4O5
import Derived.Test.YtdcdegeeaakekacDoorW5W6
namespace Go.Proofs.YtdcdegeeaakekacDoor
open Go.RowKit Go.Maps Go.WideMaps
namespace Pu
def sameList {α : Type} (S : α → α → Bool) : List α → List α → Bool
  | [], [] => true
  | a :: l, b :: r => S a b && sameList S l r
  | _, _ => false
def sameCase {α : Type} (S : α → α → Bool) (a b : Int × List ByteArray × α) : Bool := decide (a.1 = b.1) && decide (a.2.1 = b.2.1) && S a.2.2 b.2.2
def sameN {α : Type} (S : α → α → Bool) (a b : Node α) : Bool :=
  decide (a.kind = b.kind) && decide (a.n = b.n) && decide (a.name = b.name) && decide (a.token = b.token) && decide (a.vars = b.vars) && sameList S a.args b.args && sameList (sameCase S) a.cases b.cases
/-- Are two terms the same? -/
def same : (k : Nat) → TT k → TT k → Bool
  | 0, _, _ => true
  | k + 1, a, b => sameN (same k) a b
theorem sameList_ne {α : Type} (S : α → α → Bool) : ∀ (a b : List α), a.length ≠ b.length → sameList S a b = false
  | [], [], h => absurd rfl h
  | [], _ :: _, _ => rfl
  | _ :: _, [], _ => rfl
  | a :: l, b :: r, h => by simp only [sameList]; rw [sameList_ne S l r (by simpa using h)]; simp
theorem sameList_all {α : Type} (S : α → α → Bool) : ∀ (a b : List α), a.length = b.length → (∀ i (h : i < a.length) (h' : i < b.length), S a[i] b[i] = true) → sameList S a b = true
  | [], [], _, _ => rfl
  | [], _ :: _, h, _ => by simp at h
  | _ :: _, [], h, _ => by simp at h
  | a :: l, b :: r, h, hs => by
    simp only [sameList]
    rw [sameList_all S l r (by simpa using h) (fun i h1 h2 => hs (i + 1) (by simpa using h1) (by simpa using h2))]
    have := hs 0 (by simp) (by simp)
    simp at this
    simp [this]
theorem sameList_not {α : Type} (S : α → α → Bool) : ∀ (a b : List α) (i : Nat) (h : i < a.length) (h' : i < b.length), S a[i] b[i] = false → sameList S a b = false
  | [], _, i, h, _, _ => by simp at h
  | _ :: _, [], i, _, h, _ => by simp at h
  | a :: l, b :: r, 0, _, _, hs => by simp at hs; simp [sameList, hs]
  | a :: l, b :: r, i + 1, h, h', hs => by
    simp only [sameList]
    rw [sameList_not S l r i (by simpa using h) (by simpa using h') (by simpa using hs)]
    simp
theorem same_refl : ∀ (k : Nat) (t : TT k), same k t t = true
  | 0, _ => rfl
  | k + 1, t => by
    show sameN (same k) t t = true
    have h1 : sameList (same k) t.args t.args = true := sameList_all _ _ _ rfl (fun i _ _ => same_refl k _)
    have h2 : sameList (sameCase (same k)) t.cases t.cases = true := sameList_all _ _ _ rfl (fun i _ _ => by simp [sameCase, same_refl k])
    simp [sameN, h1, h2]
end Pu
theorem str_ne {x y : ByteArray} (h : ¬ x = y) : (!x.toList == y.toList) = true := by
  have : ¬ x.toList = y.toList := fun e => h (by rw [ByteArray.toList_eq, ByteArray.toList_eq] at e; exact WideShapes.bytes_inj e)
  simp [this]
theorem str_ne' {x y : ByteArray} (h : ¬ x = y) : (x.toList == y.toList) = false := by
  have := str_ne h
  simpa using this
theorem names_ext {a b : List ByteArray} (hl : a.length = b.length) (h : ∀ i (h1 : i < a.length) (h2 : i < b.length), a[i] = b[i]) : a = b := List.ext_getElem hl h
end Go.Proofs.YtdcdegeeaakekacDoor

/- One list of names behind another, in a region that draws its order. -/
namespace Go.Proofs.YtdcdegeeaakekacDoor
open Go.RowKit Go.Maps Go.WideMaps
/-- One list of names behind another: what append does. -/
theorem app_names {base : Nat} {w : World} {v u : Value} {n B : Nat} {xs : List Value} {l : List ByteArray} (ho : w.ownsRow base 9 1 v n xs) (hl : Names B w u l) (hn : n + l.length ≤ 1099511627776) (hb : base ≤ w.heap.size) :
    ∃ v' w', (Builtin.append_ #[27, 27] 27 #[v, u]).run Tryd.prog w = .ok v' w' ∧ w'.ownsRow base 9 1 v' (n + l.length) (xs ++ l.map .string) ∧ w.grownBy w' v.ownBlock ∧ (v'.ownBlock = v.ownBlock ∨ v'.ownBlock = some w.heap.size) := by
  obtain ⟨i0, hi, hz0, hz1, hz2⟩ := info_parts Tryd.info9
  obtain ⟨⟨a, cap, rfl, h2, h3, h4⟩, h5⟩ := hl
  by_cases hl0 : l.length = 0
  · have hle : l = [] := List.length_eq_zero_iff.1 hl0
    subst hle
    cases a with
    | none =>
      refine ⟨v, w, ?_, by simpa using ho, ⟨rfl, rfl, rfl, Nat.le_refl _, fun _ _ _ => rfl⟩, .inl rfl⟩
      rcases ho.2 with ⟨rfl, rfl⟩ | ⟨g, cap', cur, rfl, _, _, hnc, _⟩
      · simp [Builtin.append_, run_underlying Tryd.underlying27, sizeOf, typeInfo, hi, Builtin.lenOf, Builtin.firstCells]
      · simp [Builtin.append_, run_underlying Tryd.underlying27, sizeOf, typeInfo, hi, Builtin.lenOf, Builtin.firstCells, hnc, storeCells]
    | some a =>
      obtain ⟨v', w', h6, h7, h8, _, h9⟩ := run_append_own_at (P := Tryd.prog) (w := w) base 27 27 9 i0 _ 1 16 Tryd.underlying27 hi hz0 hz1 hz2 rfl (by decide) v n xs ho a 0 cap [] rfl (fun j u hu => by simp at hu) (fun u hu => by simp at hu) (by unfold maxLen; omega) (by omega) hb
      exact ⟨v', w', h6, by simpa using h7, h8, h9⟩
  · obtain ⟨g, o, rfl, h6, h7, h8⟩ := h4 (by omega)
    obtain ⟨v', w', h9, h10, h11, _, h12⟩ := run_append_own_at (P := Tryd.prog) (w := w) base 27 27 9 i0 _ 1 16 Tryd.underlying27 hi hz0 hz1 hz2 rfl (by decide) v n xs ho ⟨g, o, none⟩ l.length cap (l.map .string) (by simp) (fun j u hu => by
      have hj : j < (l.map Value.string).length := (List.getElem?_eq_some_iff.1 hu).1
      rw [Addr.add_lit, h8 j hj]; exact hu) (fun u hu => by obtain ⟨y, _, rfl⟩ := List.mem_map.1 hu; rfl) (by unfold maxLen; omega) (by omega) hb
    exact ⟨v', w', h9, h10, h11, h12⟩
theorem row_lit0 (base : Nat) (w : World) (hb : base ≤ w.heap.size) : (w.alloc (.cells #[] 9)).ownsRow base 9 1 (.slice (some ⟨w.heap.size, 0, none⟩) 0 0) 0 [] :=
  World.ownsRow_lit (base := base) (e := 9) (size := 1) w #[] 0 hb (by unfold maxLen; decide) rfl
/-- An append of a list of names, in a region that draws its order. -/
theorem step_append_names {w : World} {ops : Array Oper} {o : Oper} {a : Act} {K : Act → World → Prop} {Q : Exit → Act → World → Prop} {E : Prop} (hgd : o.guard = none) (s x : Operand)
    (ho : o.op = .call { callee := .builtin .append, args := #[s, x], argTypes := #[27, 27] }) (hty : o.type = 27) {base B n : Nat} {v u : Value} {xs : List Value} {l : List ByteArray} (hs : a.eval s = v) (hx : a.eval x = u) (hown : w.ownsRow base 9 1 v n xs) (hl : Names B w u l)
    (hn : n + l.length ≤ 1099511627776) (hb : base ≤ w.heap.size)
    (h : ∀ v' w', w'.ownsRow base 9 1 v' (n + l.length) (xs ++ l.map .string) → w.grownBy w' v.ownBlock → (v'.ownBlock = v.ownBlock ∨ v'.ownBlock = some w.heap.size) → K (a.put o.dst v') w') :
    if Region.wanted o (yielded ops a.tmps) = true then Oper.wp Tryd.prog o a w K Q else E := by
  have hw : Region.wanted o (yielded ops a.tmps) = true := by simp [Region.wanted, hgd]
  rw [if_pos hw]
  obtain ⟨v', w', hrun, h1, h2, h3⟩ := app_names hown hl hn hb
  unfold Oper.wp execOp
  simp only [ho, hty, resolve, invoke, builtin, Sem.run_bind, Sem.run_pure, Result.andThen_ok, List.map_toArray, List.map_cons, List.map_nil, hs, hx, hrun]
  exact h v' w' h1 h2 h3
/-- The same behind a draw. -/
theorem row_d0 (w : World) : ((w.alloc (.cells #[] 9)).drew).ownsRow w.heap.size 9 1 (.slice (some ⟨w.heap.size, 0, none⟩) 0 0) 0 [] := row_lit0 w.heap.size w (Nat.le_refl _)
theorem row_d1 (w : World) (o : Obj) : (((w.alloc (.cells #[] 9)).alloc o).drew).ownsRow w.heap.size 9 1 (.slice (some ⟨w.heap.size, 0, none⟩) 0 0) 0 [] := (row_lit0 w.heap.size w (Nat.le_refl _)).alloc o
theorem row_d2 (w : World) (o : Obj) : (((w.alloc o).alloc (.cells #[] 9)).drew).ownsRow w.heap.size 9 1 (.slice (some ⟨w.heap.size + 1, 0, none⟩) 0 0) 0 [] := by
  have h := row_lit0 w.heap.size (w.alloc o) (by rw [World.size_alloc]; omega)
  rw [World.size_alloc] at h
  exact h
theorem fr_d1 (w : World) (o : Obj) : Fr No w (w.alloc o).drew := ((Fr.refl No w).alloc o).drew
theorem fr_d2 (w : World) (o o' : Obj) : Fr No w ((w.alloc o).alloc o').drew := (((Fr.refl No w).alloc o).alloc o').drew
theorem src_two' (D w5 : World) (x : ByteArray) (hg : (((D.alloc (.cells #[] 9)).alloc (.cells #[.string x] 9)).drew).grownBy w5 (some D.heap.size)) : w5.heap[D.heap.size + 1]? = some (.cells #[.string x] 9 (0, 0)) := by
  have h := heap_alloc_new (D.alloc (.cells #[] 9)) (.cells #[.string x] 9)
  rw [World.size_alloc] at h
  have h2 : (((D.alloc (.cells #[] 9)).alloc (.cells #[.string x] 9)).drew).heap[D.heap.size + 1]? = some (.cells #[.string x] 9 (0, 0)) := h
  rw [hg.block _ (lt_of_heap h2) (by intro e; injection e with e; omega)]
  exact h2
theorem src_three' (D w5 : World) (x : ByteArray) (hg : (((D.alloc (.cells #[.string x] 9)).alloc (.cells #[] 9)).drew).grownBy w5 (some (D.heap.size + 1))) : w5.heap[D.heap.size]? = some (.cells #[.string x] 9 (0, 0)) := by
  have h := fr_heap (T := No) (heap_alloc_new D (.cells #[.string x] 9)) ((Fr.refl No _).alloc (.cells #[] 9)) (fun e => e)
  have h2 : (((D.alloc (.cells #[.string x] 9)).alloc (.cells #[] 9)).drew).heap[D.heap.size]? = some (.cells #[.string x] 9 (0, 0)) := h
  rw [hg.block _ (lt_of_heap h2) (by intro e; injection e with e; omega)]
  exact h2
end Go.Proofs.YtdcdegeeaakekacDoor

/- 'Has', walked; the first names of a list. -/
namespace Go.Proofs.YtdcdegeeaakekacDoor
open Go.RowKit Go.Maps Go.WideMaps
theorem Names.takeN {B : Nat} {w : World} {a : Option Addr} {c : Nat} {l : List ByteArray} (h : Names B w (.slice a l.length c) l) (i : Nat) (hi : i ≤ l.length) : Names B w (.slice a i c) (l.take i) := by
  obtain ⟨⟨a', cap, h1, h2, h3, h4⟩, h5⟩ := h
  injection h1 with h1 _ h6
  subst h1 h6
  have hl : (l.take i).length = i := by rw [List.length_take]; omega
  refine ⟨⟨a, c, by rw [hl], by omega, h3, fun hn => ?_⟩, fun x hx => h5 x (List.mem_of_mem_take hx)⟩
  obtain ⟨g, o, h7, h8, h9, h10⟩ := h4 (by omega)
  refine ⟨g, o, h7, h8, h9, fun j hj => ?_⟩
  simp at hj
  rw [h10 j (by simp; omega), List.map_take, List.getElem?_take]
  simp
  omega
theorem has_take (l : List ByteArray) (i : Nat) (h : i < l.length) (x : ByteArray) : Pu.has (l.take (i + 1)) x = (Pu.has (l.take i) x || decide (l[i] = x)) := by
  rw [List.take_succ_eq_append_getElem h, has_snoc]
set_option maxHeartbeats 1000000 in
theorem has_any (B : Nat) (v : Value) (l : List ByteArray) (x : ByteArray) (w : World) (hl : Names B w v l) :
    Calls Tryd.prog 10 #[v, .string x] w fun e w' => e = .returned (.bool (Pu.has l x)) ∧ w' = w := by
  obtain ⟨a0, c0, rfl, hc, hc'⟩ := hl.1.form
  unfold maxLen at hc'
  have HL := hide hl
  clear hl
  go_enter Tryd.func10, Tryd.ntmps10
  go_wp2_with fail
  go_loop [9] (fun q => ∃ i : Nat, i ≤ l.length ∧ q = .int .i64 i ∧ Pu.has (l.take i) x = false) (fun q => l.length - (intOf q).toNat)
  case atStart => exact ⟨0, Nat.zero_le _, rfl, rfl⟩
  case round =>
    obtain ⟨i, hi, rfl, hh⟩ := hrel
    have HH := hide hh
    clear hh
    by_cases hlt : i < l.length
    · obtain ⟨g, o, cp, hv, _, _, hg, hcell, _⟩ := HL.out.at hlt
      injection hv with hv1 _ hv2
      subst hv1 hv2
      have hst := has_take l i hlt x
      obtain ⟨z, hz⟩ : ∃ z, z = l[i] := ⟨_, rfl⟩
      rw [← hz] at hcell hst
      have HST := hide hst
      have HZ := hide hz
      clear hst hz
      have i1 : (i : Int) < (l.length : Int) := by omega
      have i0 : (0 : Int) ≤ (i : Int) := by omega
      by_cases e : z = x
      · subst e
        go_wp2_with fail
        go_ret
        have ht : Pu.has (l.take (i + 1)) z = true := by rw [HST.out]; simp
        have h2 : Pu.has l z = true := by
          unfold Pu.has at ht ⊢
          rw [List.any_eq_true] at ht ⊢
          obtain ⟨y, hy, hy2⟩ := ht
          exact ⟨y, List.mem_of_mem_take hy, hy2⟩
        rw [h2]
        exact ⟨rfl, rfl⟩
      · have e' := str_ne' e
        go_wp2_with fail
        go_round
        case rel => exact ⟨i + 1, by omega, by go_num, by rw [HST.out, HH.out, decide_eq_false e]; rfl⟩
        case measure => simp [intOf]; omega
    · have hil : i = l.length := by omega
      subst hil
      go_wp2_with fail
      go_ret
      have := HH.out
      rw [List.take_length] at this
      rw [this]
      exact ⟨rfl, rfl⟩
end Go.Proofs.YtdcdegeeaakekacDoor
