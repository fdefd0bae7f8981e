/- 'needs': what a term asks for. -/
import Derived.Test.YtdcdegeeaakekacDoorW1W2
namespace Go.Proofs.YtdcdegeeaakekacDoor
open Go.RowKit Go.Maps Go.WideMaps
def sumW {α : Type} (f : α → Nat) (l : List α) (i : Nat) : Nat := ((l.take i).map f).sum
theorem sumW_succ {α : Type} (f : α → Nat) (l : List α) (i : Nat) (h : i < l.length) : sumW f l (i + 1) = sumW f l i + f l[i] := by
  unfold sumW
  rw [List.take_succ_eq_append_getElem h, List.map_append, List.sum_append]
  simp
theorem sumW_all {α : Type} (f : α → Nat) (l : List α) : sumW f l l.length = (l.map f).sum := by unfold sumW; rw [List.take_length]
theorem sumW_le {α : Type} (f : α → Nat) : ∀ (l : List α) (i : Nat), sumW f l i ≤ (l.map f).sum
  | [], i => by simp [sumW]
  | a :: l, 0 => by simp [sumW]
  | a :: l, i + 1 => by
    have := sumW_le f l i
    simp only [sumW, List.take_succ_cons, List.map_cons, List.sum_cons] at this ⊢
    omega
theorem needsArgs_append {α : Type} (F : Pu.Cnt → α → List ByteArray → List ByteArray) (c : Pu.Cnt) (r : List α) : ∀ (l : List α) (acc : List ByteArray), Pu.needsArgs F c (l ++ r) acc = Pu.needsArgs F c r (Pu.needsArgs F c l acc)
  | [], _ => rfl
  | a :: l, acc => by simp only [List.cons_append, Pu.needsArgs]; exact needsArgs_append F c r l _
theorem needsArgs_succ {α : Type} (F : Pu.Cnt → α → List ByteArray → List ByteArray) (c : Pu.Cnt) (l : List α) (i : Nat) (h : i < l.length) (acc : List ByteArray) :
    Pu.needsArgs F c (l.take (i + 1)) acc = F c l[i] (Pu.needsArgs F c (l.take i) acc) := by
  rw [List.take_succ_eq_append_getElem h, needsArgs_append]; rfl
theorem needsCases_append {α : Type} (F : Pu.Cnt → α → List ByteArray → List ByteArray) (c : Pu.Cnt) (r : List (Int × List ByteArray × α)) : ∀ (l : List (Int × List ByteArray × α)) (acc : List ByteArray), Pu.needsCases F c (l ++ r) acc = Pu.needsCases F c r (Pu.needsCases F c l acc)
  | [], _ => rfl
  | a :: l, acc => by simp only [List.cons_append, Pu.needsCases]; exact needsCases_append F c r l _
theorem needsCases_succ {α : Type} (F : Pu.Cnt → α → List ByteArray → List ByteArray) (c : Pu.Cnt) (l : List (Int × List ByteArray × α)) (i : Nat) (h : i < l.length) (acc : List ByteArray) :
    Pu.needsCases F c (l.take (i + 1)) acc = F (Pu.with' c l[i].2.1) l[i].2.2 (Pu.needsCases F c (l.take i) acc) := by
  rw [List.take_succ_eq_append_getElem h, needsCases_append]; rfl
theorem asks_any (k : Int) (w : World) : Calls Tryd.prog 119 #[.int .i64 k] w fun e w' => e = .returned (.bool (Pu.asks k)) ∧ w' = w := by
  by_cases h1 : k = 1
  · subst h1
    go_enter Tryd.func119, Tryd.ntmps119
    go_wp2_with fail
    go_ret
    exact ⟨rfl, rfl⟩
  by_cases h2 : k = 8
  · subst h2
    go_enter Tryd.func119, Tryd.ntmps119
    go_wp2_with fail
    go_ret
    exact ⟨rfl, rfl⟩
  by_cases h3 : k = 9
  · subst h3
    go_enter Tryd.func119, Tryd.ntmps119
    go_wp2_with fail
    go_ret
    exact ⟨rfl, rfl⟩
  by_cases h4 : k = 10
  · subst h4
    go_enter Tryd.func119, Tryd.ntmps119
    go_wp2_with fail
    go_ret
    exact ⟨rfl, rfl⟩
  by_cases h5 : k = 11
  · subst h5
    go_enter Tryd.func119, Tryd.ntmps119
    go_wp2_with fail
    go_ret
    exact ⟨rfl, rfl⟩
  have e : Pu.asks k = false := by simp [Pu.asks, h1, h2, h3, h4, h5]
  rw [e]
  go_enter Tryd.func119, Tryd.ntmps119
  go_wp2_with fail
  go_ret
  exact ⟨rfl, rfl⟩
/-- The closure that is called for each name. -/
abbrev Clo (ab tb Nm : Nat) : Value := .func (.func 111) #[] #[.pointer (some ⟨ab, 0, none⟩), .pointer (some ⟨tb, 0, none⟩), .pointer (some ⟨Nm, 0, none⟩)]
/-- What has turned since. -/
def Moved (A Td Nm : Nat) (w w' : World) (v v' : Value) : Prop := Fr (TS A Td Nm v) w w' ∧ (v'.ownBlock = v.ownBlock ∨ ∃ g, v'.ownBlock = some g ∧ w.heap.size ≤ g)
theorem Moved.refl {A Td Nm : Nat} {w : World} {v : Value} : Moved A Td Nm w w v v := ⟨Fr.refl _ _, .inl rfl⟩
theorem Moved.trans {A Td Nm : Nat} {w w' w'' : World} {v v' v'' : Value} (h : Moved A Td Nm w w' v v') (k : Moved A Td Nm w' w'' v' v'') : Moved A Td Nm w w'' v v'' := by
  have hs := h.1.size
  refine ⟨h.1.trans' k.1 ?_, ?_⟩
  · intro i hi e
    rcases e with e | e | e | e
    · exact .inl e
    · exact .inr (.inl e)
    · exact .inr (.inr (.inl e))
    · rcases h.2 with h2 | ⟨g, h2, h3⟩
      · exact .inr (.inr (.inr (by rw [← h2]; exact e)))
      · rw [h2] at e; cases e; omega
  · rcases k.2 with k2 | ⟨g, k2, k3⟩
    · rcases h.2 with h2 | ⟨g, h2, h3⟩
      · exact .inl (k2.trans h2)
      · exact .inr ⟨g, k2.trans h2, h3⟩
    · exact .inr ⟨g, k2, by omega⟩
theorem Moved.no {A Td Nm : Nat} {w w' w'' : World} {v v' : Value} (h : Moved A Td Nm w w' v v') (k : Fr No w' w'') : Moved A Td Nm w w'' v v' := ⟨h.1.no k, h.2⟩
theorem Moved.alloc {A Td Nm : Nat} {w w' : World} {v v' : Value} (h : Moved A Td Nm w w' v v') (o : Obj) : Moved A Td Nm w (w'.alloc o) v v' := ⟨h.1.alloc o, h.2⟩
theorem FS.not_ts {B A Td Nm ab tb K : Nat} {w : World} {c : Pu.Cnt} {acc : List ByteArray} {v : Value} (h : FS B A Td Nm ab tb K w c acc v) {R : Nat} {cur : Array Value} {t : TypeId} {z : Nat × Nat} (hR : w.heap[R]? = some (.cells cur t z)) (h1 : t ≠ 9) (h2 : t ≠ 27) : ¬ TS A Td Nm v R := by
  rintro (e | e | e | e)
  · exact h.cnt.ne_cells hR e
  · exact h.told.ne_cells hR e
  · subst e; rw [h.box] at hR; injection hR with hR; injection hR with _ hR _; exact h2 hR.symm
  · exact row_ne_cells h.row hR h1 e
theorem FS.keep {B A Td Nm ab tb K : Nat} {w w' : World} {c : Pu.Cnt} {acc : List ByteArray} {v v' : Value} (h : FS B A Td Nm ab tb K w c acc v) {R : Nat} {cur : Array Value} {t : TypeId} {z : Nat × Nat} (hm : Moved A Td Nm w w' v v') (hR : w.heap[R]? = some (.cells cur t z)) (h1 : t ≠ 9) (h2 : t ≠ 27) :
    w'.heap[R]? = some (.cells cur t z) := fr_heap hR hm.1 (h.not_ts hR h1 h2)
theorem FS.old {B A Td Nm ab tb K : Nat} {w w' : World} {c : Pu.Cnt} {acc : List ByteArray} {v v' : Value} (h : FS B A Td Nm ab tb K w c acc v) (hm : Moved A Td Nm w w' v v') (hB : B ≤ w.heap.size) : Old B w w' := by
  refine hm.1.old hB ?_
  rintro i hi (e | e | e | e)
  · have := h.hA; omega
  · have := h.hT; omega
  · have := h.hN; omega
  · have := (h.row.lt i e).1; omega
theorem FS.no {B A Td Nm ab tb K : Nat} {w w' : World} {c : Pu.Cnt} {acc : List ByteArray} {v : Value} (h : FS B A Td Nm ab tb K w c acc v) (hf : Fr No w w') : FS B A Td Nm ab tb K w' c acc v :=
  ⟨h.cnt.fr hf (fun e => e), h.told.fr hf (fun e => e), fr_heap h.box hf (fun e => e), row_fr h.row hf (fun _ _ e => e), h.hA, h.hT, h.hN, h.ne, fr_heap h.bA hf (fun e => e), fr_heap h.bT hf (fun e => e), h.sh⟩
theorem FS.mono {B A Td Nm ab tb K K' : Nat} {w : World} {c : Pu.Cnt} {acc : List ByteArray} {v : Value} (h : FS B A Td Nm ab tb K w c acc v) (hK : K ≤ K') : FS B A Td Nm ab tb K' w c acc v :=
  ⟨h.cnt.mono hK, h.told.mono hK, h.box, h.row, h.hA, h.hT, h.hN, h.ne, h.bA, h.bT, h.sh⟩
/-- What 'needs' does at terms of k levels. -/
def NeedsC (k : Nat) : Prop := ∀ (B A Td Nm ab tb K : Nat) (w : World) (c : Pu.Cnt) (acc : List ByteArray) (v : Value) (cs : List Value) (t : Pu.TT k), RT k B w cs t → FS B A Td Nm ab tb K w c acc v → B ≤ w.heap.size →
  (∀ x, c x + Pu.wt k t ≤ 1099511627776) → K + 3 * Pu.wt k t ≤ 1099511627776 → acc.length + Pu.wt k t ≤ 1099511627776 →
  Calls Tryd.prog 110 #[.agg cs.toArray, .map (some A), Clo ab tb Nm] w fun e w' => e = .returned (.tuple #[]) ∧ ∃ v', FS B A Td Nm ab tb (K + 3 * Pu.wt k t) w' c (Pu.needs k c t acc) v' ∧ Moved A Td Nm w w' v v'
theorem ask_length (c : Pu.Cnt) (x : ByteArray) (acc : List ByteArray) : (Pu.ask c x acc).length ≤ acc.length + 1 := by
  unfold Pu.ask; split <;> simp
end Go.Proofs.YtdcdegeeaakekacDoor

/- 'needs', walked. -/
namespace Go.Proofs.YtdcdegeeaakekacDoor
open Go.RowKit Go.Maps Go.WideMaps
theorem args_at {k B : Nat} {w : World} {av : Value} {acs : List Value} {args : List (Pu.TT k)} (hr : Row B w av args.length acs) (he : Each 7 (RT k B w) acs args) (i : Nat) (hi : i < args.length) :
    ∃ g o cap kd n x y a0 n0 c0 a1 n1 c1 a2 n2 c2, av = .slice (some ⟨g, o, none⟩) args.length cap ∧ cap ≤ maxLen ∧ g < B ∧ g < w.heap.size ∧
      RT k B w [.int .i64 kd, .int .i64 n, .string x, .string y, .slice a0 n0 c0, .slice a1 n1 c1, .slice a2 n2 c2] args[i] ∧
      ∀ j, j < 7 → w.cell? ⟨g, o + i * 7 + j, none⟩ = [Value.int .i64 kd, .int .i64 n, .string x, .string y, .slice a0 n0 c0, .slice a1 n1 c1, .slice a2 n2 c2][j]? := by
  obtain ⟨g, o, cap, h1, h2, h3, h4, h5, h6⟩ := hr.at (by omega)
  obtain ⟨ck, hl, hrt, hxs⟩ := he.get i _ (List.getElem?_eq_getElem hi)
  obtain ⟨kd, n, x, y, a0, n0, c0, a1, n1, c1, a2, n2, c2, rfl⟩ := hrt.form
  refine ⟨g, o, cap, kd, n, x, y, a0, n0, c0, a1, n1, c1, a2, n2, c2, h1, h3, h4, h5, hrt, fun j hj => ?_⟩
  have hlen := he.length
  rw [Nat.add_assoc, h6 _ (by rw [hlen]; have := Nat.mul_le_mul_right 7 (show i + 1 ≤ args.length by omega); omega), hxs j hj]
theorem cases_at {k B : Nat} {w : World} {av : Value} {acs : List Value} {l : List (Int × List ByteArray × Pu.TT k)} (hr : Row B w av l.length acs) (he : Each 9 (RC (RT k B w) B w) acs l) (i : Nat) (hi : i < l.length) :
    ∃ g o cap ag av0 ac kd n x y a0 n0 c0 a1 n1 c1 a2 n2 c2, av = .slice (some ⟨g, o, none⟩) l.length cap ∧ cap ≤ maxLen ∧ g < B ∧ g < w.heap.size ∧ Names B w (.slice ag av0 ac) l[i].2.1 ∧ av0 = l[i].2.1.length ∧
      RT k B w [.int .i64 kd, .int .i64 n, .string x, .string y, .slice a0 n0 c0, .slice a1 n1 c1, .slice a2 n2 c2] l[i].2.2 ∧
      ∀ j, j < 9 → w.cell? ⟨g, o + i * 9 + j, none⟩ = [Value.int .i64 l[i].1, .slice ag av0 ac, Value.int .i64 kd, .int .i64 n, .string x, .string y, .slice a0 n0 c0, .slice a1 n1 c1, .slice a2 n2 c2][j]? := by
  obtain ⟨g, o, cap, h1, h2, h3, h4, h5, h6⟩ := hr.at (by omega)
  obtain ⟨ck, hl, ⟨vv, b, rfl, hnm, _, hrt⟩, hxs⟩ := he.get i _ (List.getElem?_eq_getElem hi)
  obtain ⟨kd, n, x, y, a0, n0, c0, a1, n1, c1, a2, n2, c2, rfl⟩ := hrt.form
  obtain ⟨ag, ac, rfl, _⟩ := hnm.1.form
  refine ⟨g, o, cap, ag, _, ac, kd, n, x, y, a0, n0, c0, a1, n1, c1, a2, n2, c2, h1, h3, h4, h5, hnm, rfl, hrt, fun j hj => ?_⟩
  have hlen := he.length
  rw [Nat.add_assoc, h6 _ (by rw [hlen]; have := Nat.mul_le_mul_right 9 (show i + 1 ≤ l.length by omega); omega), hxs j hj]
theorem Row.old {B : Nat} {w w' : World} {v : Value} {n : Nat} {xs : List Value} (h : Row B w v n xs) (ho : Old B w w') (hs : w.heap.size ≤ w'.heap.size) : Row B w' v n xs := h.kept ho (Nat.le_refl _) hs
theorem RT.old {B : Nat} {w w' : World} {k : Nat} {cs : List Value} {t : Pu.TT k} (h : RT k B w cs t) (ho : Old B w w') (hs : w.heap.size ≤ w'.heap.size) : RT k B w' cs t := h.kept ho (Nat.le_refl _) hs
theorem args_old {k B : Nat} {w w' : World} {acs : List Value} {args : List (Pu.TT k)} (he : Each 7 (RT k B w) acs args) (ho : Old B w w') (hs : w.heap.size ≤ w'.heap.size) : Each 7 (RT k B w') acs args := he.mono fun _ _ h => h.old ho hs
theorem cases_old {k B : Nat} {w w' : World} {acs : List Value} {l : List (Int × List ByteArray × Pu.TT k)} (he : Each 9 (RC (RT k B w) B w) acs l) (ho : Old B w w') (hs : w.heap.size ≤ w'.heap.size) : Each 9 (RC (RT k B w') B w') acs l :=
  he.mono fun _ _ h => h.kept ho (Nat.le_refl _) hs (fun _ _ h => RT.old h ho hs)
/-- The three variables of 'needs'. -/
structure Bx (A ab tb Nm s s1 s2 : Nat) (w : World) (cs : Array Value) : Prop where
  t : w.heap[s]? = some (.cells cs 31 (0, 0))
  m : w.heap[s1]? = some (.cells #[.map (some A)] 129 (0, 0))
  f : w.heap[s2]? = some (.cells #[Clo ab tb Nm] 100 (0, 0))
theorem Bx.moved {B A Td Nm ab tb K s s1 s2 : Nat} {w w' : World} {c : Pu.Cnt} {acc : List ByteArray} {v v' : Value} {cs : Array Value} (h : Bx A ab tb Nm s s1 s2 w cs) (hs : FS B A Td Nm ab tb K w c acc v) (hm : Moved A Td Nm w w' v v') : Bx A ab tb Nm s s1 s2 w' cs :=
  ⟨hs.keep hm h.t (by decide) (by decide), hs.keep hm h.m (by decide) (by decide), hs.keep hm h.f (by decide) (by decide)⟩
theorem Bx.no {A ab tb Nm s s1 s2 : Nat} {w w' : World} {cs : Array Value} (h : Bx A ab tb Nm s s1 s2 w cs) (hf : Fr No w w') : Bx A ab tb Nm s s1 s2 w' cs :=
  ⟨fr_heap h.t hf (fun e => e), fr_heap h.m hf (fun e => e), fr_heap h.f hf (fun e => e)⟩
set_option maxHeartbeats 1000000 in
theorem needs1_any (k : Nat) (hN : NeedsC k) (B A Td Nm ab tb K s s1 s2 : Nat) (w : World) (c : Pu.Cnt) (acc : List ByteArray) (v : Value) (c0 c1 c2 c3 c4 c6 av : Value) (acs : List Value) (args : List (Pu.TT k)) (h2' : args.length = 2)
    (hb : Bx A ab tb Nm s s1 s2 w #[c0, c1, c2, c3, c4, av, c6]) (hr : Row B w av args.length acs) (he : Each 7 (RT k B w) acs args) (hs : FS B A Td Nm ab tb K w c acc v) (hB : B ≤ w.heap.size)
    (hc : ∀ x, c x + Pu.wt k (args[1]'(by omega)) ≤ 1099511627776) (hK : K + 3 * Pu.wt k (args[1]'(by omega)) ≤ 1099511627776) (ha : acc.length + Pu.wt k (args[1]'(by omega)) ≤ 1099511627776) :
    Calls Tryd.prog 121 #[.pointer (some ⟨s, 0, none⟩), .pointer (some ⟨s1, 0, none⟩), .pointer (some ⟨s2, 0, none⟩)] w fun e w' => e = .returned (.tuple #[]) ∧ ∃ v', FS B A Td Nm ab tb (K + 3 * Pu.wt k (args[1]'(by omega))) w' c (Pu.needs k c (args[1]'(by omega)) acc) v' ∧ Moved A Td Nm w w' v v' := by
  obtain ⟨g, o, cap, kd, n, x, y, a0, n0, d0, a1, n1, d1, a2, n2, d2, rfl, hcap, hg, hgw, hrt, hcell⟩ := args_at hr he 1 (by omega)
  have e0 : w.cell? ⟨g, o + 7, none⟩ = some (.int .i64 kd) := hcell 0 (by omega)
  have e1 : w.cell? ⟨g, o + 7 + 1, none⟩ = some (.int .i64 n) := hcell 1 (by omega)
  have e2 : w.cell? ⟨g, o + 7 + 2, none⟩ = some (.string x) := hcell 2 (by omega)
  have e3 : w.cell? ⟨g, o + 7 + 3, none⟩ = some (.string y) := hcell 3 (by omega)
  have e4 : w.cell? ⟨g, o + 7 + 4, none⟩ = some (.slice a0 n0 d0) := hcell 4 (by omega)
  have e5 : w.cell? ⟨g, o + 7 + 5, none⟩ = some (.slice a1 n1 d1) := hcell 5 (by omega)
  have e6 : w.cell? ⟨g, o + 7 + 6, none⟩ = some (.slice a2 n2 d2) := hcell 6 (by omega)
  have b0 : w.cell? ⟨s, 5, none⟩ = some (.slice (some ⟨g, o, none⟩) 2 cap) := by rw [cell_of_heap hb.t]; simp [h2']
  have b1 : w.cell? ⟨s1, 0, none⟩ = some (.map (some A)) := by rw [cell_of_heap hb.m]; rfl
  have b2 : w.cell? ⟨s2, 0, none⟩ = some (Clo ab tb Nm) := by rw [cell_of_heap hb.f]; rfl
  have AS : Hid (∀ W, (∃ m, W = w.drewN m) → Calls Tryd.prog 110 #[.agg #[.int .i64 kd, .int .i64 n, .string x, .string y, .slice a0 n0 d0, .slice a1 n1 d1, .slice a2 n2 d2], .map (some A), Clo ab tb Nm] W fun e w' => e = .returned (.tuple #[]) ∧ (∃ v', FS B A Td Nm ab tb (K + 3 * Pu.wt k args[1]) w' c (Pu.needs k c args[1] acc) v' ∧ Moved A Td Nm w w' v v') ∧ (w'.cell? ⟨g, o + 7, none⟩ = some (.int .i64 kd) ∧ w'.cell? ⟨g, o + 7 + 1, none⟩ = some (.int .i64 n) ∧ w'.cell? ⟨g, o + 7 + 2, none⟩ = some (.string x) ∧ w'.cell? ⟨g, o + 7 + 3, none⟩ = some (.string y) ∧ w'.cell? ⟨g, o + 7 + 4, none⟩ = some (.slice a0 n0 d0) ∧ w'.cell? ⟨g, o + 7 + 5, none⟩ = some (.slice a1 n1 d1) ∧ w'.cell? ⟨g, o + 7 + 6, none⟩ = some (.slice a2 n2 d2) ∧ w'.cell? ⟨s, 5, none⟩ = some (.slice (some ⟨g, o, none⟩) 2 cap) ∧ w'.cell? ⟨s1, 0, none⟩ = some (.map (some A)) ∧ w'.cell? ⟨s2, 0, none⟩ = some (Clo ab tb Nm))) := by
    rintro W ⟨m, rfl⟩
    refine (hN B A Td Nm ab tb K (w.drewN m) c acc v _ _ (hrt.old (Old.of_heap rfl) (Nat.le_refl _)) (hs.no ((Fr.refl No w).drewN m)) hB hc hK ha).mono ?_
    rintro e w' ⟨he, v', h1, h2⟩
    have hm : Moved A Td Nm w w' v v' := (Moved.refl.no ((Fr.refl No w).drewN m)).trans h2
    have ho := hs.old hm hB
    have cg : ∀ i u, w.cell? ⟨g, i, none⟩ = some u → w'.cell? ⟨g, i, none⟩ = some u := fun i u hu => by rw [ho.cell (a := ⟨g, i, none⟩) hg]; exact hu
    have hb' := hb.moved hs hm
    exact ⟨he, ⟨v', h1, hm⟩, cg _ _ e0, cg _ _ e1, cg _ _ e2, cg _ _ e3, cg _ _ e4, cg _ _ e5, cg _ _ e6, by rw [cell_of_heap hb'.t]; simp [h2'], by rw [cell_of_heap hb'.m]; rfl, by rw [cell_of_heap hb'.f]; rfl⟩
  have HZ : Hid (w.drew.cell? ⟨g, o + 7, none⟩ = some (.int .i64 kd) ∧ w.drew.cell? ⟨g, o + 7 + 1, none⟩ = some (.int .i64 n) ∧ w.drew.cell? ⟨g, o + 7 + 2, none⟩ = some (.string x) ∧ w.drew.cell? ⟨g, o + 7 + 3, none⟩ = some (.string y) ∧ w.drew.cell? ⟨g, o + 7 + 4, none⟩ = some (.slice a0 n0 d0) ∧ w.drew.cell? ⟨g, o + 7 + 5, none⟩ = some (.slice a1 n1 d1) ∧ w.drew.cell? ⟨g, o + 7 + 6, none⟩ = some (.slice a2 n2 d2) ∧ w.drew.cell? ⟨s, 5, none⟩ = some (.slice (some ⟨g, o, none⟩) 2 cap) ∧ w.drew.cell? ⟨s1, 0, none⟩ = some (.map (some A)) ∧ w.drew.cell? ⟨s2, 0, none⟩ = some (Clo ab tb Nm)) := ⟨e0, e1, e2, e3, e4, e5, e6, b0, b1, b2⟩
  clear hcell hrt he hr hs hc hb hN hK ha hB
  go_enter Tryd.func121, Tryd.ntmps121
  go_wp2_with fail
  go_region_held3 (fun w' : World => w'.cell? ⟨g, o + 7, none⟩ = some (.int .i64 kd) ∧ w'.cell? ⟨g, o + 7 + 1, none⟩ = some (.int .i64 n) ∧ w'.cell? ⟨g, o + 7 + 2, none⟩ = some (.string x) ∧ w'.cell? ⟨g, o + 7 + 3, none⟩ = some (.string y) ∧ w'.cell? ⟨g, o + 7 + 4, none⟩ = some (.slice a0 n0 d0) ∧ w'.cell? ⟨g, o + 7 + 5, none⟩ = some (.slice a1 n1 d1) ∧ w'.cell? ⟨g, o + 7 + 6, none⟩ = some (.slice a2 n2 d2) ∧ w'.cell? ⟨s, 5, none⟩ = some (.slice (some ⟨g, o, none⟩) 2 cap) ∧ w'.cell? ⟨s1, 0, none⟩ = some (.map (some A)) ∧ w'.cell? ⟨s2, 0, none⟩ = some (Clo ab tb Nm)) (first | assumption | exact HZ.out | go_keep)
    (first
      | (go_at_call 110; refine (AS.out _ ⟨1, rfl⟩).mono ?_; rintro e w1 ⟨rfl, hv1, hz1⟩))
  all_goals
    go_end0
    exact ⟨rfl, hv1⟩
end Go.Proofs.YtdcdegeeaakekacDoor
