/- For the document's 'Wrong': names that are there, as a list; one list behind another. -/
import Derived.Test.YtdgmengfdfkgaabDoorR1Pf
import Derived.Test.YtdgmengfdfkgaabDoorC6C7C9
namespace Go.Proofs.YtdgmengfdfkgaabDoor
open Go.RowKit Go.Maps Go.WideMaps
/-- All names are unlike: none is there twice, none is bad. -/
theorem unlike_eq (l : List ByteArray) : Pu.unlike l = (!twiceTo l l.length && !badTo l l.length) := by
  have step : ∀ j, j ≤ l.length → Pu.unlike l = (!twiceTo l j && !badTo l j && Pu.unlikeFrom (l.take j) (l.drop j)) := by
    intro j
    induction j with
    | zero => intro _; simp [Pu.unlike, twiceTo, badTo]
    | succ j ih =>
      intro hj
      rw [ih (by omega), unlike_step l j (by omega), twiceTo_succ l j (by omega), badTo_succ l j (by omega)]
      cases twiceTo l j <;> cases badTo l j <;> cases Pu.has (l.take j) l[j] <;> cases isName l[j] <;> simp
  rw [step l.length (Nat.le_refl _), List.take_length, List.drop_length]
  simp [Pu.unlikeFrom]
/-- The names that are bound, as counts and as a list. -/
def Agree (c : Pu.Cnt) (nm : List ByteArray) : Prop := ∀ x, decide (0 < c x) = Pu.has nm x
theorem Agree.with {c : Pu.Cnt} {nm : List ByteArray} (h : Agree c nm) (l : List ByteArray) : Agree (Pu.with' c l) (nm ++ l) := by
  intro x
  have h1 : Pu.has (nm ++ l) x = (Pu.has nm x || Pu.has l x) := by simp [Pu.has, List.any_append]
  rw [h1, ← h x]
  have h2 := with_has c l x
  by_cases hc : c x = 0
  · by_cases hl : Pu.has l x = false
    · rw [h2.2 ⟨hc, hl⟩, hc, hl]; rfl
    · have : ¬ Pu.with' c l x = 0 := fun e => hl (h2.1 e).2
      rw [decide_eq_true (by omega)]
      simp at hl
      simp [hl]
  · have : ¬ Pu.with' c l x = 0 := fun e => hc (h2.1 e).1
    rw [decide_eq_true (by omega), decide_eq_true (by omega)]
    rfl
theorem agree_params (l : List ByteArray) : Agree (Pu.with' (fun _ => 0) l) l := by
  have h0 : Agree (fun _ => 0) [] := fun x => rfl
  have := h0.with l
  simpa using this
/-- One list of names behind another: what append does. -/
theorem app_names {base : Nat} {w : World} {v u : Value} {n B : Nat} {xs : List Value} {l : List ByteArray} (ho : w.ownsRow base 9 1 v n xs) (hl : Names B w u l) (hn : n + l.length ≤ 1099511627776) (hb : base ≤ w.heap.size) :
    ∃ v' w', (Builtin.append_ #[34, 34] 34 #[v, u]).run Tryd.prog w = .ok v' w' ∧ w'.ownsRow base 9 1 v' (n + l.length) (xs ++ l.map .string) ∧ w.grownBy w' v.ownBlock ∧ (v'.ownBlock = v.ownBlock ∨ v'.ownBlock = some w.heap.size) := by
  obtain ⟨i0, hi, hz0, hz1, hz2⟩ := info_parts Tryd.info9
  obtain ⟨⟨a, cap, rfl, h2, h3, h4⟩, h5⟩ := hl
  by_cases hl0 : l.length = 0
  · have hle : l = [] := List.length_eq_zero_iff.1 hl0
    subst hle
    cases a with
    | none =>
      refine ⟨v, w, ?_, by simpa using ho, ⟨rfl, rfl, rfl, Nat.le_refl _, fun _ _ _ => rfl⟩, .inl rfl⟩
      rcases ho.2 with ⟨rfl, rfl⟩ | ⟨g, cap', cur, rfl, _, _, hnc, _⟩
      · simp [Builtin.append_, run_underlying Tryd.underlying34, sizeOf, typeInfo, hi, Builtin.lenOf, Builtin.firstCells]
      · simp [Builtin.append_, run_underlying Tryd.underlying34, sizeOf, typeInfo, hi, Builtin.lenOf, Builtin.firstCells, hnc, storeCells]
    | some a =>
      obtain ⟨v', w', h6, h7, h8, _, h9⟩ := run_append_own_at (P := Tryd.prog) (w := w) base 34 34 9 i0 _ 1 16 Tryd.underlying34 hi hz0 hz1 hz2 rfl (by decide) v n xs ho a 0 cap [] rfl (fun j u hu => by simp at hu) (fun u hu => by simp at hu) (by unfold maxLen; omega) (by omega) hb
      exact ⟨v', w', h6, by simpa using h7, h8, h9⟩
  · obtain ⟨g, o, rfl, h6, h7, h8⟩ := h4 (by omega)
    obtain ⟨v', w', h9, h10, h11, _, h12⟩ := run_append_own_at (P := Tryd.prog) (w := w) base 34 34 9 i0 _ 1 16 Tryd.underlying34 hi hz0 hz1 hz2 rfl (by decide) v n xs ho ⟨g, o, none⟩ l.length cap (l.map .string) (by simp) (fun j u hu => by
      have hj : j < (l.map Value.string).length := (List.getElem?_eq_some_iff.1 hu).1
      rw [Addr.add_lit, h8 j hj]; exact hu) (fun u hu => by obtain ⟨y, _, rfl⟩ := List.mem_map.1 hu; rfl) (by unfold maxLen; omega) (by omega) hb
    exact ⟨v', w', h9, h10, h11, h12⟩
end Go.Proofs.YtdgmengfdfkgaabDoor

/- The document's 'Wrong': what is wrong with a term, as a plain function; what is wrong at once. -/
namespace Go.Proofs.YtdgmengfdfkgaabDoor
open Go.RowKit Go.Maps Go.WideMaps
/-- What 'Wrong' answers at terms of k levels. -/
def RWrongC (k : Nat) : Prop := ∀ (B Bn m K : Nat) (w : World) (cs : List Value) (t : Pu.TT k) (nv : Value) (nm : List ByteArray) (fns : ByteArray → Option Int) (c : Pu.Cnt) (d : Nat), RT k B w cs t → Names Bn w nv nm → MapC w m K fns → Agree c nm → B ≤ w.heap.size → d ≤ 25 → nm.length + Pu.wt k t ≤ 1073741824 →
  Calls Tryd.prog 29 #[.map (some m), .agg cs.toArray, nv, .int .i64 d] w fun e w' => e = .returned (.int .i64 (Pu.term fns k c t d)) ∧ Fr No w w'
/-- The same, of one kind of terms. -/
def RWrongK (k : Nat) (kd : Int) : Prop := ∀ (B Bn m K : Nat) (w : World) (cs : List Value) (t : Pu.TT (k + 1)) (nv : Value) (nm : List ByteArray) (fns : ByteArray → Option Int) (c : Pu.Cnt) (d : Nat), RT (k + 1) B w cs t → Pu.Node.kind t = kd → Names Bn w nv nm → MapC w m K fns → Agree c nm → B ≤ w.heap.size → ¬ 24 < d → nm.length + Pu.wt (k + 1) t ≤ 1073741824 →
  Calls Tryd.prog 29 #[.map (some m), .agg cs.toArray, nv, .int .i64 d] w fun e w' => e = .returned (.int .i64 (Pu.term fns (k + 1) c t d)) ∧ Fr No w w'
section
variable {k d : Nat} {fns : ByteArray → Option Int} {c : Pu.Cnt} {t : Pu.Node (Pu.TT k)}
theorem term_5 (hd : ¬ 24 < d) (hk : ¬ (t.kind < 1 ∨ 7 < t.kind)) (hf : Pu.fits t = false) : Pu.term fns (k + 1) c t d = 5 := by
  have : Pu.own fns c t d = 5 := by unfold Pu.own; rw [if_neg hd, if_neg hk, if_pos hf]
  show Pu.termN _ _ _ _ _ = _
  unfold Pu.termN
  rw [this]; rfl
theorem term_e {e : Int} (hd : ¬ 24 < d) (hk : ¬ (t.kind < 1 ∨ 7 < t.kind)) (hf : Pu.fits t = true) (ha : Pu.alone fns c t = e) (he : e ≠ 0) : Pu.term fns (k + 1) c t d = e := by
  have : Pu.own fns c t d = e := by unfold Pu.own; rw [if_neg hd, if_neg hk, if_neg (by rw [hf]; decide), ha]
  show Pu.termN _ _ _ _ _ = _
  unfold Pu.termN
  rw [this, if_neg he]
theorem term_0 (hd : ¬ 24 < d) (hk : ¬ (t.kind < 1 ∨ 7 < t.kind)) (hf : Pu.fits t = true) (ha : Pu.alone fns c t = 0) : Pu.term fns (k + 1) c t d =
    (if Pu.chkArgs (Pu.term fns k) c (decide (t.kind = 6)) t.name (d + 1) 0 t.args = 0 then (if t.kind = 7 then Pu.cases' (Pu.term fns k) c (d + 1) t.cases else 0)
    else Pu.chkArgs (Pu.term fns k) c (decide (t.kind = 6)) t.name (d + 1) 0 t.args) := by
  have : Pu.own fns c t d = 0 := by unfold Pu.own; rw [if_neg hd, if_neg hk, if_neg (by rw [hf]; decide), ha]
  show Pu.termN _ _ _ _ _ = _
  unfold Pu.termN
  rw [this, if_pos rfl]
theorem term_9 (hd : 24 < d) : Pu.term fns (k + 1) c t d = 9 := by
  have : Pu.own fns c t d = 9 := by unfold Pu.own; rw [if_pos hd]
  show Pu.termN _ _ _ _ _ = _
  unfold Pu.termN
  rw [this]; rfl
theorem term_1 (hd : ¬ 24 < d) (hk : t.kind < 1 ∨ 7 < t.kind) : Pu.term fns (k + 1) c t d = 1 := by
  have : Pu.own fns c t d = 1 := by unfold Pu.own; rw [if_neg hd, if_pos hk]
  show Pu.termN _ _ _ _ _ = _
  unfold Pu.termN
  rw [this]; rfl
end
set_option maxHeartbeats 4000000 in
set_option maxRecDepth 100000 in
theorem wrong_all (k : Nat) (h1 : RWrongK k 1) (h2 : RWrongK k 2) (h3 : RWrongK k 3) (h4 : RWrongK k 4) (h5 : RWrongK k 5) (h6 : RWrongK k 6) (h7 : RWrongK k 7) : RWrongC (k + 1) := by
  intro B Bn m K w cs t nv nm fns c d ht hnm hm ha hB hd hw
  by_cases hin : ¬ 24 < d ∧ 1 ≤ Pu.Node.kind t ∧ Pu.Node.kind t ≤ 7
  · obtain ⟨hd', hk1, hk7⟩ := hin
    have hk : Pu.Node.kind t = 1 ∨ Pu.Node.kind t = 2 ∨ Pu.Node.kind t = 3 ∨ Pu.Node.kind t = 4 ∨ Pu.Node.kind t = 5 ∨ Pu.Node.kind t = 6 ∨ Pu.Node.kind t = 7 := by omega
    rcases hk with h | h | h | h | h | h | h
    · exact h1 B Bn m K w cs t nv nm fns c d ht h hnm hm ha hB hd' hw
    · exact h2 B Bn m K w cs t nv nm fns c d ht h hnm hm ha hB hd' hw
    · exact h3 B Bn m K w cs t nv nm fns c d ht h hnm hm ha hB hd' hw
    · exact h4 B Bn m K w cs t nv nm fns c d ht h hnm hm ha hB hd' hw
    · exact h5 B Bn m K w cs t nv nm fns c d ht h hnm hm ha hB hd' hw
    · exact h6 B Bn m K w cs t nv nm fns c d ht h hnm hm ha hB hd' hw
    · exact h7 B Bn m K w cs t nv nm fns c d ht h hnm hm ha hB hd' hw
  obtain ⟨vv, av, cv, acs, ccs, rfl, hx, hnn, hvars, hr, he, hq, hf⟩ := ht
  obtain ⟨a0, d0, rfl, _⟩ := hvars.1.form
  obtain ⟨a1, d1, rfl, _⟩ := hr.form
  obtain ⟨a2, d2, rfl, _⟩ := hq.form
  obtain ⟨an0, cn0, rfl, _⟩ := hnm.1.form
  clear hx hnn hvars hr he hq hf hnm hm ha h1 h2 h3 h4 h5 h6 h7 hw
  show Calls Tryd.prog 29 #[.map (some m), .agg #[.int .i64 t.kind, .int .i64 t.n, .string t.name, .string t.token, .slice a0 t.vars.length d0, .slice a1 t.args.length d1, .slice a2 t.cases.length d2], .slice an0 nm.length cn0, .int .i64 d] w _
  by_cases h24 : 24 < d
  · have h24' : 24 < (d : Int) := by omega
    have hE : Pu.term fns (k + 1) c t d = 9 := term_9 h24
    rw [hE]
    clear hin h24 hE
    go_enter Tryd.func29, Tryd.ntmps29
    go_wp2_with fail
    go_ret
    exact ⟨rfl, (Fr.refl No w).alloc _⟩
  have h24' : ¬ 24 < (d : Int) := by omega
  by_cases hk1 : Pu.Node.kind t < 1
  · have hE : Pu.term fns (k + 1) c t d = 1 := term_1 h24 (.inl hk1)
    rw [hE]
    clear hE
    obtain ⟨kd, hkd⟩ : ∃ kd, kd = Pu.Node.kind t := ⟨_, rfl⟩
    rw [← hkd] at hk1 ⊢
    clear hin h24 hkd
    go_enter Tryd.func29, Tryd.ntmps29
    go_wp2_with fail
    go_ret
    exact ⟨rfl, (Fr.refl No w).alloc _⟩
  · have hk7 : 7 < Pu.Node.kind t := by omega
    have hE : Pu.term fns (k + 1) c t d = 1 := term_1 h24 (.inr hk7)
    rw [hE]
    clear hE
    obtain ⟨kd, hkd⟩ : ∃ kd, kd = Pu.Node.kind t := ⟨_, rfl⟩
    rw [← hkd] at hk1 hk7 ⊢
    clear hin h24 hkd
    go_enter Tryd.func29, Tryd.ntmps29
    go_wp2_with fail
    go_ret
    exact ⟨rfl, (Fr.refl No w).alloc _⟩
end Go.Proofs.YtdgmengfdfkgaabDoor

/- One list of names behind another, in a region that draws its order. -/
namespace Go.Proofs.YtdgmengfdfkgaabDoor
open Go.RowKit Go.Maps Go.WideMaps
theorem row_lit0 (base : Nat) (w : World) (hb : base ≤ w.heap.size) : (w.alloc (.cells #[] 9)).ownsRow base 9 1 (.slice (some ⟨w.heap.size, 0, none⟩) 0 0) 0 [] :=
  World.ownsRow_lit (base := base) (e := 9) (size := 1) w #[] 0 hb (by unfold maxLen; decide) rfl
/-- An append of a list of names, in a region that draws its order. -/
theorem step_append_names {w : World} {ops : Array Oper} {o : Oper} {a : Act} {K : Act → World → Prop} {Q : Exit → Act → World → Prop} {E : Prop} (hgd : o.guard = none) (s x : Operand)
    (ho : o.op = .call { callee := .builtin .append, args := #[s, x], argTypes := #[34, 34] }) (hty : o.type = 34) {base B n : Nat} {v u : Value} {xs : List Value} {l : List ByteArray} (hs : a.eval s = v) (hx : a.eval x = u) (hown : w.ownsRow base 9 1 v n xs) (hl : Names B w u l)
    (hn : n + l.length ≤ 1099511627776) (hb : base ≤ w.heap.size)
    (h : ∀ v' w', w'.ownsRow base 9 1 v' (n + l.length) (xs ++ l.map .string) → w.grownBy w' v.ownBlock → (v'.ownBlock = v.ownBlock ∨ v'.ownBlock = some w.heap.size) → K (a.put o.dst v') w') :
    if Region.wanted o (yielded ops a.tmps) = true then Oper.wp Tryd.prog o a w K Q else E := by
  have hw : Region.wanted o (yielded ops a.tmps) = true := by simp [Region.wanted, hgd]
  rw [if_pos hw]
  obtain ⟨v', w', hrun, h1, h2, h3⟩ := app_names hown hl hn hb
  unfold Oper.wp execOp
  simp only [ho, hty, resolve, invoke, builtin, Sem.run_bind, Sem.run_pure, Result.andThen_ok, List.map_toArray, List.map_cons, List.map_nil, hs, hx, hrun]
  exact h v' w' h1 h2 h3
/-- The same behind a draw. -/
theorem row_d0 (w : World) : ((w.alloc (.cells #[] 9)).drew).ownsRow w.heap.size 9 1 (.slice (some ⟨w.heap.size, 0, none⟩) 0 0) 0 [] := row_lit0 w.heap.size w (Nat.le_refl _)
theorem row_d1 (w : World) (o : Obj) : (((w.alloc (.cells #[] 9)).alloc o).drew).ownsRow w.heap.size 9 1 (.slice (some ⟨w.heap.size, 0, none⟩) 0 0) 0 [] := (row_lit0 w.heap.size w (Nat.le_refl _)).alloc o
theorem row_d2 (w : World) (o : Obj) : (((w.alloc o).alloc (.cells #[] 9)).drew).ownsRow w.heap.size 9 1 (.slice (some ⟨w.heap.size + 1, 0, none⟩) 0 0) 0 [] := by
  have h := row_lit0 w.heap.size (w.alloc o) (by rw [World.size_alloc]; omega)
  rw [World.size_alloc] at h
  exact h
theorem fr_d1 (w : World) (o : Obj) : Fr No w (w.alloc o).drew := ((Fr.refl No w).alloc o).drew
theorem fr_d2 (w : World) (o o' : Obj) : Fr No w ((w.alloc o).alloc o').drew := (((Fr.refl No w).alloc o).alloc o').drew
theorem src_two' (D w5 : World) (x : ByteArray) (hg : (((D.alloc (.cells #[] 9)).alloc (.cells #[.string x] 9)).drew).grownBy w5 (some D.heap.size)) : w5.heap[D.heap.size + 1]? = some (.cells #[.string x] 9 (0, 0)) := by
  have h := heap_alloc_new (D.alloc (.cells #[] 9)) (.cells #[.string x] 9)
  rw [World.size_alloc] at h
  have h2 : (((D.alloc (.cells #[] 9)).alloc (.cells #[.string x] 9)).drew).heap[D.heap.size + 1]? = some (.cells #[.string x] 9 (0, 0)) := h
  rw [hg.block _ (lt_of_heap h2) (by intro e; injection e with e; omega)]
  exact h2
theorem src_three' (D w5 : World) (x : ByteArray) (hg : (((D.alloc (.cells #[.string x] 9)).alloc (.cells #[] 9)).drew).grownBy w5 (some (D.heap.size + 1))) : w5.heap[D.heap.size]? = some (.cells #[.string x] 9 (0, 0)) := by
  have h := fr_heap (T := No) (heap_alloc_new D (.cells #[.string x] 9)) ((Fr.refl No _).alloc (.cells #[] 9)) (fun e => e)
  have h2 : (((D.alloc (.cells #[.string x] 9)).alloc (.cells #[] 9)).drew).heap[D.heap.size]? = some (.cells #[.string x] 9 (0, 0)) := h
  rw [hg.block _ (lt_of_heap h2) (by intro e; injection e with e; omega)]
  exact h2
end Go.Proofs.YtdgmengfdfkgaabDoor
