/- For the document's 'Wrong': names that are there, as a list; one list behind another. -/
import Derived.Test.YtmjpfiecgkoaeaaR1
import Derived.Test.YtmjpfiecgkoaeaaPf
import Derived.Test.YtmjpfiecgkoaeaaC7
namespace Go.Proofs.Ytmjpfiecgkoaeaa
open Go.RowKit Go.Maps Go.WideMaps

/-- All names are unlike: none is there twice, none is bad. -/
theorem unlike_eq (l : List ByteArray) : Pu.unlike l = (!twiceTo l l.length && !badTo l l.length) := by
  have step : ∀ j, j ≤ l.length → Pu.unlike l = (!twiceTo l j && !badTo l j && Pu.unlikeFrom (l.take j) (l.drop j)) := by
    intro j
    induction j with
    | zero => intro _; simp [Pu.unlike, twiceTo, badTo]
    | succ j ih =>
      intro hj
      rw [ih (by omega), unlike_step l j (by omega), twiceTo_succ l j (by omega), badTo_succ l j (by omega)]
      cases twiceTo l j <;> cases badTo l j <;> cases Pu.has (l.take j) l[j] <;> cases isName l[j] <;> simp
  rw [step l.length (Nat.le_refl _), List.take_length, List.drop_length]
  simp [Pu.unlikeFrom]

/-- The names that are bound, as counts and as a list. -/
def Agree (c : Pu.Cnt) (nm : List ByteArray) : Prop := ∀ x, decide (0 < c x) = Pu.has nm x
theorem Agree.with {c : Pu.Cnt} {nm : List ByteArray} (h : Agree c nm) (l : List ByteArray) : Agree (Pu.with' c l) (nm ++ l) := by
  intro x
  have h1 : Pu.has (nm ++ l) x = (Pu.has nm x || Pu.has l x) := by simp [Pu.has, List.any_append]
  rw [h1, ← h x]
  have h2 := with_has c l x
  by_cases hc : c x = 0
  · by_cases hl : Pu.has l x = false
    · rw [h2.2 ⟨hc, hl⟩, hc, hl]; rfl
    · have : ¬ Pu.with' c l x = 0 := fun e => hl (h2.1 e).2
      rw [decide_eq_true (by omega)]
      simp at hl
      simp [hl]
  · have : ¬ Pu.with' c l x = 0 := fun e => hc (h2.1 e).1
    rw [decide_eq_true (by omega), decide_eq_true (by omega)]
    rfl
theorem agree_params (l : List ByteArray) : Agree (Pu.with' (fun _ => 0) l) l := by
  have h0 : Agree (fun _ => 0) [] := fun x => rfl
  have := h0.with l
  simpa using this

/-- One list of names behind another: what append does. -/
theorem app_names {base : Nat} {w : World} {v u : Value} {n B : Nat} {xs : List Value} {l : List ByteArray} (ho : w.ownsRow base 9 1 v n xs) (hl : Names B w u l) (hn : n + l.length ≤ 1099511627776) (hb : base ≤ w.heap.size) :
    ∃ v' w', (Builtin.append_ #[23, 23] 23 #[v, u]).run Try.prog w = .ok v' w' ∧ w'.ownsRow base 9 1 v' (n + l.length) (xs ++ l.map .string) ∧ w.grownBy w' v.ownBlock ∧ (v'.ownBlock = v.ownBlock ∨ v'.ownBlock = some w.heap.size) := by
  obtain ⟨i0, hi, hz0, hz1, hz2⟩ := info_parts Try.info9
  obtain ⟨⟨a, cap, rfl, h2, h3, h4⟩, h5⟩ := hl
  by_cases hl0 : l.length = 0
  · have hle : l = [] := List.length_eq_zero_iff.1 hl0
    subst hle
    cases a with
    | none =>
      refine ⟨v, w, ?_, by simpa using ho, ⟨rfl, rfl, rfl, Nat.le_refl _, fun _ _ _ => rfl⟩, .inl rfl⟩
      rcases ho.2 with ⟨rfl, rfl⟩ | ⟨g, cap', cur, rfl, _, _, hnc, _⟩
      · simp [Builtin.append_, run_underlying Try.underlying23, sizeOf, typeInfo, hi, Builtin.lenOf, Builtin.firstCells]
      · simp [Builtin.append_, run_underlying Try.underlying23, sizeOf, typeInfo, hi, Builtin.lenOf, Builtin.firstCells, hnc, storeCells]
    | some a =>
      obtain ⟨v', w', h6, h7, h8, _, h9⟩ := run_append_own_at (P := Try.prog) (w := w) base 23 23 9 i0 _ 1 16 Try.underlying23 hi hz0 hz1 hz2 rfl (by decide) v n xs ho a 0 cap [] rfl (fun j u hu => by simp at hu) (fun u hu => by simp at hu) (by unfold maxLen; omega) (by omega) hb
      exact ⟨v', w', h6, by simpa using h7, h8, h9⟩
  · obtain ⟨g, o, rfl, h6, h7, h8⟩ := h4 (by omega)
    obtain ⟨v', w', h9, h10, h11, _, h12⟩ := run_append_own_at (P := Try.prog) (w := w) base 23 23 9 i0 _ 1 16 Try.underlying23 hi hz0 hz1 hz2 rfl (by decide) v n xs ho ⟨g, o, none⟩ l.length cap (l.map .string) (by simp) (fun j u hu => by
      have hj : j < (l.map Value.string).length := (List.getElem?_eq_some_iff.1 hu).1
      rw [Addr.add_lit, h8 j hj]; exact hu) (fun u hu => by obtain ⟨y, _, rfl⟩ := List.mem_map.1 hu; rfl) (by unfold maxLen; omega) (by omega) hb
    exact ⟨v', w', h9, h10, h11, h12⟩

/-- An append of a list of names, for the walk. -/
theorem wpList_append_names {w : World} {ops : Array Oper} {rest : List Oper} {o : Oper} {a : Act} {Q : Exit → Act → World → Prop} (s x : Operand) (hw : Region.wanted o (yielded ops a.tmps) = true)
    (ho : o.op = .call { callee := .builtin .append, args := #[s, x], argTypes := #[23, 23] }) (hty : o.type = 23) {base B n : Nat} {v u : Value} {xs : List Value} {l : List ByteArray} (hs : a.eval s = v) (hx : a.eval x = u) (hown : w.ownsRow base 9 1 v n xs) (hl : Names B w u l)
    (hn : n + l.length ≤ 1099511627776) (hb : base ≤ w.heap.size)
    (h : ∀ v' w', w'.ownsRow base 9 1 v' (n + l.length) (xs ++ l.map .string) → w.grownBy w' v.ownBlock → (v'.ownBlock = v.ownBlock ∨ v'.ownBlock = some w.heap.size) → wpList Try.prog ops Q rest (a.put o.dst v') w') : wpList Try.prog ops Q (o :: rest) a w := by
  obtain ⟨v', w', hrun, h1, h2, h3⟩ := app_names hown hl hn hb
  refine wpList_step fun K hK => ?_
  rw [if_pos hw]
  unfold Oper.wp execOp
  simp only [ho, hty, resolve, invoke, builtin, Sem.run_bind, Sem.run_pure, Result.andThen_ok, List.map_toArray, List.map_cons, List.map_nil, hs, hx, hrun]
  exact hK _ _ (h v' w' h1 h2 h3)
end Go.Proofs.Ytmjpfiecgkoaeaa
