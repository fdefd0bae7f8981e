/- 'needs': what a term asks for. -/
import Derived.Test.YtmjpfiecgkoaeaaW2
namespace Go.Proofs.Ytmjpfiecgkoaeaa
open Go.RowKit Go.Maps Go.WideMaps

/-! Sums over the first entries of a list. -/
def sumW {α : Type} (f : α → Nat) (l : List α) (i : Nat) : Nat := ((l.take i).map f).sum
theorem sumW_zero {α : Type} (f : α → Nat) (l : List α) : sumW f l 0 = 0 := rfl
theorem sumW_succ {α : Type} (f : α → Nat) (l : List α) (i : Nat) (h : i < l.length) : sumW f l (i + 1) = sumW f l i + f l[i] := by
  unfold sumW
  rw [List.take_succ_eq_append_getElem h, List.map_append, List.sum_append]
  simp
theorem sumW_all {α : Type} (f : α → Nat) (l : List α) : sumW f l l.length = (l.map f).sum := by unfold sumW; rw [List.take_length]
theorem sumW_le {α : Type} (f : α → Nat) : ∀ (l : List α) (i : Nat), sumW f l i ≤ (l.map f).sum
  | [], i => by simp [sumW]
  | a :: l, 0 => by simp [sumW]
  | a :: l, i + 1 => by
    have := sumW_le f l i
    simp only [sumW, List.take_succ_cons, List.map_cons, List.sum_cons] at this ⊢
    omega

theorem needsArgs_append {α : Type} (F : Pu.Cnt → α → List ByteArray → List ByteArray) (c : Pu.Cnt) (r : List α) : ∀ (l : List α) (acc : List ByteArray), Pu.needsArgs F c (l ++ r) acc = Pu.needsArgs F c r (Pu.needsArgs F c l acc)
  | [], _ => rfl
  | a :: l, acc => by simp only [List.cons_append, Pu.needsArgs]; exact needsArgs_append F c r l _
theorem needsArgs_succ {α : Type} (F : Pu.Cnt → α → List ByteArray → List ByteArray) (c : Pu.Cnt) (l : List α) (i : Nat) (h : i < l.length) (acc : List ByteArray) :
    Pu.needsArgs F c (l.take (i + 1)) acc = F c l[i] (Pu.needsArgs F c (l.take i) acc) := by
  rw [List.take_succ_eq_append_getElem h, needsArgs_append]; rfl
theorem needsCases_append {α : Type} (F : Pu.Cnt → α → List ByteArray → List ByteArray) (c : Pu.Cnt) (r : List (Int × List ByteArray × α)) : ∀ (l : List (Int × List ByteArray × α)) (acc : List ByteArray), Pu.needsCases F c (l ++ r) acc = Pu.needsCases F c r (Pu.needsCases F c l acc)
  | [], _ => rfl
  | a :: l, acc => by simp only [List.cons_append, Pu.needsCases]; exact needsCases_append F c r l _
theorem needsCases_succ {α : Type} (F : Pu.Cnt → α → List ByteArray → List ByteArray) (c : Pu.Cnt) (l : List (Int × List ByteArray × α)) (i : Nat) (h : i < l.length) (acc : List ByteArray) :
    Pu.needsCases F c (l.take (i + 1)) acc = F (Pu.with' c l[i].2.1) l[i].2.2 (Pu.needsCases F c (l.take i) acc) := by
  rw [List.take_succ_eq_append_getElem h, needsCases_append]; rfl

theorem asks_any (k : Int) (w : World) : Calls Try.prog 45 #[.int .i64 k] w fun e w' => e = .returned (.bool (Pu.asks k)) ∧ w' = w := by
  by_cases h1 : k = 1
  · subst h1
    go_enter Try.func45, Try.ntmps45
    go_wp2_with fail
    go_ret
    exact ⟨rfl, rfl⟩
  by_cases h2 : k = 8
  · subst h2
    go_enter Try.func45, Try.ntmps45
    go_wp2_with fail
    go_ret
    exact ⟨rfl, rfl⟩
  by_cases h3 : k = 9
  · subst h3
    go_enter Try.func45, Try.ntmps45
    go_wp2_with fail
    go_ret
    exact ⟨rfl, rfl⟩
  by_cases h4 : k = 10
  · subst h4
    go_enter Try.func45, Try.ntmps45
    go_wp2_with fail
    go_ret
    exact ⟨rfl, rfl⟩
  by_cases h5 : k = 11
  · subst h5
    go_enter Try.func45, Try.ntmps45
    go_wp2_with fail
    go_ret
    exact ⟨rfl, rfl⟩
  have e : Pu.asks k = false := by simp [Pu.asks, h1, h2, h3, h4, h5]
  rw [e]
  go_enter Try.func45, Try.ntmps45
  go_wp2_with fail
  go_ret
  exact ⟨rfl, rfl⟩

/-- The closure that is called for each name. -/
abbrev Clo (ab tb Nm : Nat) : Value := .func (.func 36) #[] #[.pointer (some ⟨ab, 0, none⟩), .pointer (some ⟨tb, 0, none⟩), .pointer (some ⟨Nm, 0, none⟩)]

/-- What has turned since. -/
def Moved (A Td Nm : Nat) (w w' : World) (v v' : Value) : Prop := Fr (TS A Td Nm v) w w' ∧ (v'.ownBlock = v.ownBlock ∨ ∃ g, v'.ownBlock = some g ∧ w.heap.size ≤ g)

theorem Moved.refl {A Td Nm : Nat} {w : World} {v : Value} : Moved A Td Nm w w v v := ⟨Fr.refl _ _, .inl rfl⟩
theorem Moved.trans {A Td Nm : Nat} {w w' w'' : World} {v v' v'' : Value} (h : Moved A Td Nm w w' v v') (k : Moved A Td Nm w' w'' v' v'') : Moved A Td Nm w w'' v v'' := by
  have hs := h.1.size
  refine ⟨h.1.trans' k.1 ?_, ?_⟩
  · intro i hi e
    rcases e with e | e | e | e
    · exact .inl e
    · exact .inr (.inl e)
    · exact .inr (.inr (.inl e))
    · rcases h.2 with h2 | ⟨g, h2, h3⟩
      · exact .inr (.inr (.inr (by rw [← h2]; exact e)))
      · rw [h2] at e; cases e; omega
  · rcases k.2 with k2 | ⟨g, k2, k3⟩
    · rcases h.2 with h2 | ⟨g, h2, h3⟩
      · exact .inl (k2.trans h2)
      · exact .inr ⟨g, k2.trans h2, h3⟩
    · exact .inr ⟨g, k2, by omega⟩
theorem Moved.no {A Td Nm : Nat} {w w' w'' : World} {v v' : Value} (h : Moved A Td Nm w w' v v') (k : Fr No w' w'') : Moved A Td Nm w w'' v v' := ⟨h.1.no k, h.2⟩
theorem Moved.alloc {A Td Nm : Nat} {w w' : World} {v v' : Value} (h : Moved A Td Nm w w' v v') (o : Obj) : Moved A Td Nm w (w'.alloc o) v v' := ⟨h.1.alloc o, h.2⟩
theorem Moved.setNew {A Td Nm : Nat} {w w' : World} {v v' : Value} (h : Moved A Td Nm w w' v v') {p : Addr} (hp : w.heap.size ≤ p.block) (u : Value) : Moved A Td Nm w (w'.setCell p u) v v' := ⟨h.1.setCell (.inr hp) u, h.2⟩

theorem FS.not_ts {B A Td Nm ab tb K : Nat} {w : World} {c : Pu.Cnt} {acc : List ByteArray} {v : Value} (h : FS B A Td Nm ab tb K w c acc v) {R : Nat} {cur : Array Value} {t : TypeId} {z : Nat × Nat} (hR : w.heap[R]? = some (.cells cur t z)) (h1 : t ≠ 9) (h2 : t ≠ 23) : ¬ TS A Td Nm v R := by
  rintro (e | e | e | e)
  · exact h.cnt.ne_cells hR e
  · exact h.told.ne_cells hR e
  · subst e; rw [h.box] at hR; injection hR with hR; injection hR with _ hR _; exact h2 hR.symm
  · exact row_ne_cells h.row hR h1 e
theorem FS.keep {B A Td Nm ab tb K : Nat} {w w' : World} {c : Pu.Cnt} {acc : List ByteArray} {v v' : Value} (h : FS B A Td Nm ab tb K w c acc v) {R : Nat} {cur : Array Value} {t : TypeId} {z : Nat × Nat} (hm : Moved A Td Nm w w' v v') (hR : w.heap[R]? = some (.cells cur t z)) (h1 : t ≠ 9) (h2 : t ≠ 23) :
    w'.heap[R]? = some (.cells cur t z) := fr_heap hR hm.1 (h.not_ts hR h1 h2)
theorem FS.old {B A Td Nm ab tb K : Nat} {w w' : World} {c : Pu.Cnt} {acc : List ByteArray} {v v' : Value} (h : FS B A Td Nm ab tb K w c acc v) (hm : Moved A Td Nm w w' v v') (hB : B ≤ w.heap.size) : Old B w w' := by
  refine hm.1.old hB ?_
  rintro i hi (e | e | e | e)
  · have := h.hA; omega
  · have := h.hT; omega
  · have := h.hN; omega
  · have := (h.row.lt i e).1; omega
theorem FS.no {B A Td Nm ab tb K : Nat} {w w' : World} {c : Pu.Cnt} {acc : List ByteArray} {v : Value} (h : FS B A Td Nm ab tb K w c acc v) (hf : Fr No w w') : FS B A Td Nm ab tb K w' c acc v :=
  ⟨h.cnt.fr hf (fun e => e), h.told.fr hf (fun e => e), fr_heap h.box hf (fun e => e), row_fr h.row hf (fun _ _ e => e), h.hA, h.hT, h.hN, h.ne, fr_heap h.bA hf (fun e => e), fr_heap h.bT hf (fun e => e), h.sh⟩
theorem FS.setNew {B A Td Nm ab tb K : Nat} {w : World} {c : Pu.Cnt} {acc : List ByteArray} {v : Value} (h : FS B A Td Nm ab tb K w c acc v) {R o : Nat} {cur : Array Value} {t : TypeId} {z : Nat × Nat} (hR : w.heap[R]? = some (.cells cur t z)) (h1 : t ≠ 9) (h2 : t ≠ 23) (h3 : t ≠ 61) (h4 : t ≠ 60) (u : Value) : FS B A Td Nm ab tb K (w.setCell ⟨R, o, none⟩ u) c acc v := by
  have hf : Fr (· = R) w (w.setCell ⟨R, o, none⟩ u) := (Fr.refl (· = R) w).setCell (.inl rfl) u
  have hn := h.not_ts hR h1 h2
  refine ⟨h.cnt.fr hf (fun e => hn (.inl e.symm)), h.told.fr hf (fun e => hn (.inr (.inl e.symm))), fr_heap h.box hf (fun e => hn (.inr (.inr (.inl e.symm)))), row_fr h.row hf (fun g hg e => hn (.inr (.inr (.inr (by rw [hg, show g = R from e]))))), h.hA, h.hT, h.hN, h.ne, fr_heap h.bA hf (fun e => ?_), fr_heap h.bT hf (fun e => ?_), h.sh⟩
  · have e : ab = R := e
    rw [← e, h.bA] at hR; injection hR with hR; injection hR with _ hR _; exact h3 hR.symm
  · have e : tb = R := e
    rw [← e, h.bT] at hR; injection hR with hR; injection hR with _ hR _; exact h4 hR.symm
theorem FS.mono {B A Td Nm ab tb K K' : Nat} {w : World} {c : Pu.Cnt} {acc : List ByteArray} {v : Value} (h : FS B A Td Nm ab tb K w c acc v) (hK : K ≤ K') : FS B A Td Nm ab tb K' w c acc v :=
  ⟨h.cnt.mono hK, h.told.mono hK, h.box, h.row, h.hA, h.hT, h.hN, h.ne, h.bA, h.bT, h.sh⟩

/-- What 'needs' does at terms of k levels. -/
def NeedsC (k : Nat) : Prop := ∀ (B A Td Nm ab tb K : Nat) (w : World) (c : Pu.Cnt) (acc : List ByteArray) (v : Value) (cs : List Value) (t : Pu.TT k), RT k B w cs t → FS B A Td Nm ab tb K w c acc v → B ≤ w.heap.size →
  (∀ x, c x + Pu.wt k t ≤ 1099511627776) → K + 3 * Pu.wt k t ≤ 1099511627776 → acc.length + Pu.wt k t ≤ 1099511627776 →
  Calls Try.prog 35 #[.agg cs.toArray, .map (some A), Clo ab tb Nm] w fun e w' => e = .returned (.tuple #[]) ∧ ∃ v', FS B A Td Nm ab tb (K + 3 * Pu.wt k t) w' c (Pu.needs k c t acc) v' ∧ Moved A Td Nm w w' v v'

theorem ask_length (c : Pu.Cnt) (x : ByteArray) (acc : List ByteArray) : (Pu.ask c x acc).length ≤ acc.length + 1 := by
  unfold Pu.ask; split <;> simp
end Go.Proofs.Ytmjpfiecgkoaeaa
