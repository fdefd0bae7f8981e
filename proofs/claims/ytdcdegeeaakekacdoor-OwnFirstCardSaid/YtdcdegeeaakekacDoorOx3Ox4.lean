/- own: 'Fn', walked. -/
import Derived.Test.YtdcdegeeaakekacDoorOx1Ox2
import Derived.Test.YtdcdegeeaakekacDoorO3O4O5
namespace Go.Proofs.YtdcdegeeaakekacDoor
open Go.RowKit Go.Maps Go.WideMaps

theorem infoF9 : (Tryd.prog.info? 33).map (·.size) = some 9 := by kernel_rfl
theorem retF {fn : Func} {p : Tmp} (h : fn.results = #[.cell p 33]) (tmps : Array Value) (w : World) (g : Nat) (u0 u1 u2 u3 u4 u5 u6 u7 u8 : Value) (z : Nat × Nat) (hp : tmps.getD p undef = .pointer (some ⟨g, 0, none⟩)) (hg : w.heap[g]? = some (.cells #[u0, u1, u2, u3, u4, u5, u6, u7, u8] 33 z)) :
    (results fn tmps).run Tryd.prog w = .ok (.agg #[u0, u1, u2, u3, u4, u5, u6, u7, u8]) w := results_cell_row h tmps w g _ _ z _ hp hg Tryd.underlying33 rfl infoF9
theorem set9f {w : World} {g : Nat} {x0 x1 x2 x3 x4 x5 x6 x7 x8 : Value} {t : TypeId} {z : Nat × Nat} (h : w.heap[g]? = some (.cells #[x0, x1, x2, x3, x4, x5, x6, x7, x8] t z)) (u0 u1 u2 u3 u4 u5 u6 u7 u8 : Value) :
    (((((((((w.setCell ⟨g, 0, none⟩ u0).setCell ⟨g, 1, none⟩ u1).setCell ⟨g, 2, none⟩ u2).setCell ⟨g, 3, none⟩ u3).setCell ⟨g, 4, none⟩ u4).setCell ⟨g, 5, none⟩ u5).setCell ⟨g, 6, none⟩ u6).setCell ⟨g, 7, none⟩ u7).setCell ⟨g, 8, none⟩ u8).heap[g]? = some (.cells #[u0, u1, u2, u3, u4, u5, u6, u7, u8] t z) ∧
    Fr (· = g) w (((((((((w.setCell ⟨g, 0, none⟩ u0).setCell ⟨g, 1, none⟩ u1).setCell ⟨g, 2, none⟩ u2).setCell ⟨g, 3, none⟩ u3).setCell ⟨g, 4, none⟩ u4).setCell ⟨g, 5, none⟩ u5).setCell ⟨g, 6, none⟩ u6).setCell ⟨g, 7, none⟩ u7).setCell ⟨g, 8, none⟩ u8) :=
  ⟨by simp [World.setCell, Array.getElem?_modify, h], (((((((((Fr.refl (· = g) w).setCell (p := ⟨g, 0, none⟩) (.inl rfl) u0).setCell (p := ⟨g, 1, none⟩) (.inl rfl) u1).setCell (p := ⟨g, 2, none⟩) (.inl rfl) u2).setCell (p := ⟨g, 3, none⟩) (.inl rfl) u3).setCell (p := ⟨g, 4, none⟩) (.inl rfl) u4).setCell (p := ⟨g, 5, none⟩) (.inl rfl) u5).setCell (p := ⟨g, 6, none⟩) (.inl rfl) u6).setCell (p := ⟨g, 7, none⟩) (.inl rfl) u7).setCell (p := ⟨g, 8, none⟩) (.inl rfl) u8⟩
theorem set9b {w : World} {g : Nat} {x0 x1 x2 x3 x4 x5 x6 x7 x8 : Value} {t : TypeId} {z : Nat × Nat} (h : w.heap[g]? = some (.cells #[x0, x1, x2, x3, x4, x5, x6, x7, x8] t z)) (u2 u3 u4 u5 u6 u7 u8 : Value) :
    (((((((w.setCell ⟨g, 2, none⟩ u2).setCell ⟨g, 3, none⟩ u3).setCell ⟨g, 4, none⟩ u4).setCell ⟨g, 5, none⟩ u5).setCell ⟨g, 6, none⟩ u6).setCell ⟨g, 7, none⟩ u7).setCell ⟨g, 8, none⟩ u8).heap[g]? = some (.cells #[x0, x1, u2, u3, u4, u5, u6, u7, u8] t z) ∧
    Fr (· = g) w (((((((w.setCell ⟨g, 2, none⟩ u2).setCell ⟨g, 3, none⟩ u3).setCell ⟨g, 4, none⟩ u4).setCell ⟨g, 5, none⟩ u5).setCell ⟨g, 6, none⟩ u6).setCell ⟨g, 7, none⟩ u7).setCell ⟨g, 8, none⟩ u8) :=
  ⟨by simp [World.setCell, Array.getElem?_modify, h], (((((((Fr.refl (· = g) w).setCell (p := ⟨g, 2, none⟩) (.inl rfl) u2).setCell (p := ⟨g, 3, none⟩) (.inl rfl) u3).setCell (p := ⟨g, 4, none⟩) (.inl rfl) u4).setCell (p := ⟨g, 5, none⟩) (.inl rfl) u5).setCell (p := ⟨g, 6, none⟩) (.inl rfl) u6).setCell (p := ⟨g, 7, none⟩) (.inl rfl) u7).setCell (p := ⟨g, 8, none⟩) (.inl rfl) u8⟩

/-- The zero function. -/
abbrev fnZero : Array Value := #[.string ⟨#[]⟩, .slice none 0 0, .int .i64 0, .int .i64 0, .string ⟨#[]⟩, .string ⟨#[]⟩, .slice none 0 0, .slice none 0 0, .slice none 0 0]

/-- One function, in a row of one. -/
theorem fns_one {k B : Nat} {w : World} {cs : List Value} {f : Pu.Fn k} (h : RF k B w cs f) (hl : cs.length = 9) (hB : B ≤ w.heap.size) : Fns k (w.heap.size + 1) (w.alloc (.cells cs.toArray 33)) (.slice (some ⟨w.heap.size, 0, none⟩) 1 1) [f] := by
  have hf : Fr No w (w.alloc (.cells cs.toArray 33)) := (Fr.refl No w).alloc _
  refine ⟨cs, ⟨_, 1, rfl, Nat.le_refl _, by unfold maxLen; decide, fun _ => ⟨w.heap.size, 0, rfl, Nat.lt_succ_self _, by rw [World.size_alloc]; exact Nat.lt_succ_self _, fun i hi => ?_⟩⟩, cs, [], by simp, hl, h.kept (hf.old hB (fun _ _ e => e)) (by omega) hf.size, rfl⟩
  rw [Nat.zero_add, cell_of_heap (heap_alloc_new w _) i]
  simp

theorem RF.form9 {k B : Nat} {w : World} {cs : List Value} {f : Pu.Fn k} (h : RF k B w cs f) : ∃ pa pc kd n x y a0 n0 c0 a1 n1 c1 a2 n2 c2, cs = [.string f.1, .slice pa f.2.1.length pc, .int .i64 kd, .int .i64 n, .string x, .string y, .slice a0 n0 c0, .slice a1 n1 c1, .slice a2 n2 c2] := by
  obtain ⟨pv, b, rfl, _, hn, _, hb⟩ := h
  obtain ⟨pa, pc, rfl, _⟩ := hn.1.form
  obtain ⟨kd, n, x, y, a0, n0, c0, a1, n1, c1, a2, n2, c2, rfl⟩ := hb.form
  exact ⟨_, _, _, _, _, _, _, _, _, _, _, _, _, _, _, rfl⟩

/-- What Fns lays of one function. -/
structure OneAt (k : Nat) (S : Nat → Prop) (w : World) (g o : Nat) (cap : Nat) (pa : Option Addr) (pc : Nat) (kd n : Int) (x y : ByteArray) (a0 : Option Addr) (n0 c0 : Nat) (a1 : Option Addr) (n1 c1 : Nat) (a2 : Option Addr) (n2 c2 : Nat) (f : Pu.Fn k) : Prop where
  cap : cap ≤ maxLen
  lt : g < w.heap.size
  mem : S g
  names : NamesS S w (.slice pa f.2.1.length pc) f.2.1
  term : RTS k S w [.int .i64 kd, .int .i64 n, .string x, .string y, .slice a0 n0 c0, .slice a1 n1 c1, .slice a2 n2 c2] f.2.2
  cells : ∀ j, j < 9 → w.cell? ⟨g, o + j, none⟩ = [Value.string f.1, .slice pa f.2.1.length pc, .int .i64 kd, .int .i64 n, .string x, .string y, .slice a0 n0 c0, .slice a1 n1 c1, .slice a2 n2 c2][j]?

theorem fnsOne_any (k B : Nat) (v : Value) (f : Pu.Fn k) (w : World) (hl : Fns k B w v [f]) (hB : B ≤ w.heap.size) (hw : wf f ≤ 1073741824) :
    Calls Tryd.prog 40 #[v] w fun e w' => ∃ g o cap pa pc kd n x y a0 n0 c0 a1 n1 c1 a2 n2 c2, e = .returned (.slice (some ⟨g, o, none⟩) 1 cap) ∧ Fr No w w' ∧ OneAt k (New w w') w' g o cap pa pc kd n x y a0 n0 c0 a1 n1 c1 a2 n2 c2 f :=
  (fnsCopy_any k B v [f] w hl hB (by simpa using hw)).mono fun e w' ⟨a, c, he, hf, acs, hr, hea⟩ => by
    obtain ⟨a', cap, hv, _, hcap, hrow⟩ := hr
    injection hv with hv1 _ hv2
    subst hv1 hv2
    obtain ⟨g, o, rfl, hS, hg, _, hcell⟩ := hrow (by simp)
    obtain ⟨ck, rest, rfl, hlen, hfs, hrest⟩ := hea
    have hrest' : rest = [] := hrest
    subst hrest'
    obtain ⟨pv, b, rfl, h1, h2, h3, h4⟩ := hfs
    obtain ⟨pa, pc, rfl, _⟩ := rowS_form h2.1
    obtain ⟨kd, n, x, y, a0, n0, c0, a1, n1, c1, a2, n2, c2, rfl⟩ := h4.form
    exact ⟨g, o, c, pa, pc, kd, n, x, y, a0, n0, c0, a1, n1, c1, a2, n2, c2, he, hf, hcap, hg, hS, h2, h4, fun j hj => by rw [hcell j (by simpa using hj)]; simp⟩

set_option maxRecDepth 100000 in
set_option maxHeartbeats 4000000 in
theorem ownFn_any' (k : Nat) (f : Pu.Fn k) (t' : Tm) (hst : StepC k f.2.2 t') (B : Nat) (w : World) (cs : List Value) (hf : RF k B w cs f) (hB : B ≤ w.heap.size) (hw : wf f ≤ 1073741824) :
    Calls Tryd.prog 21 #[.agg cs.toArray] w fun e w' => ∃ pa pc kd n x y a0 n0 c0 a1 n1 c1 a2 n2 c2, e = .returned (.agg #[.string f.1, .slice pa f.2.1.length pc, .int .i64 kd, .int .i64 n, .string x, .string y, .slice a0 n0 c0, .slice a1 n1 c1, .slice a2 n2 c2]) ∧ Fr No w w' ∧ NamesS (New w w') w' (.slice pa f.2.1.length pc) f.2.1 ∧ RS (New w w') w' [.int .i64 kd, .int .i64 n, .string x, .string y, .slice a0 n0 c0, .slice a1 n1 c1, .slice a2 n2 c2] (cnt 9 (gone k f.2.2 f.2.1) t') := by
  have hlen : cs.length = 9 := by obtain ⟨_, _, _, _, _, _, _, _, _, _, _, _, _, _, _, h⟩ := hf.form9; rw [h]; rfl
  obtain ⟨W0, hW0⟩ : ∃ W0, W0 = ((w.alloc (.cells cs.toArray 33)).alloc (.cells fnZero 33)) := ⟨_, rfl⟩
  have f0 : Fr No w W0 := by rw [hW0]; exact ((Fr.refl No w).alloc _).alloc _
  have b0 : W0.heap[w.heap.size]? = some (.cells cs.toArray 33 (0, 0)) := by rw [hW0]; exact fr_heap (heap_alloc_new w _) ((Fr.refl No _).alloc _) (fun e => e)
  have b1 : W0.heap[w.heap.size + 1]? = some (.cells fnZero 33 (0, 0)) := by
    have h := heap_alloc_new (w.alloc (.cells cs.toArray 33)) (.cells fnZero 33)
    rw [World.size_alloc] at h
    rw [hW0]; exact h
  have hs0 : W0.heap.size = w.heap.size + 2 := by rw [hW0]; simp
  have hf0 : RF k B W0 cs f := hf.kept (f0.old hB (fun _ _ e => e)) (Nat.le_refl _) f0.size
  have CF : Hid (Calls Tryd.prog 40 #[.slice (some ⟨w.heap.size + 1 + 1, 0, none⟩) 1 1] (W0.alloc (.cells cs.toArray 33)) fun e w' => ∃ g o cap pa pc kd n x y a0 n0 c0 a1 n1 c1 a2 n2 c2, e = .returned (.slice (some ⟨g, o, none⟩) 1 cap) ∧ Fr No (W0.alloc (.cells cs.toArray 33)) w' ∧ OneAt k (New (W0.alloc (.cells cs.toArray 33)) w') w' g o cap pa pc kd n x y a0 n0 c0 a1 n1 c1 a2 n2 c2 f) :=
    by
      have h := fnsOne_any k (W0.heap.size + 1) _ f _ (fns_one hf0 hlen (Nat.le_trans hB f0.size)) (by rw [World.size_alloc]; exact Nat.le_refl _) hw
      rw [hs0] at h
      exact h
  have CT : Hid (∀ W S ov d0 d1 d2 d3 d4 d5 d6, RTS k S W [d0, d1, d2, d3, d4, d5, d6] f.2.2 → (∀ g, S g → g < W.heap.size) → Names W.heap.size W ov f.2.1 → Calls Tryd.prog 41 #[.agg #[d0, d1, d2, d3, d4, d5, d6], ov] W fun e w' => ∃ kd' n' x' y' a0' n0' c0' a1' n1' c1' a2' n2' c2', e = .returned (.agg #[.int .i64 kd', .int .i64 n', .string x', .string y', .slice a0' n0' c0', .slice a1' n1' c1', .slice a2' n2' c2']) ∧ Fr No W w' ∧ RS (fun g => S g ∨ New W w' g) w' [.int .i64 kd', .int .i64 n', .string x', .string y', .slice a0' n0' c0', .slice a1' n1' c1', .slice a2' n2' c2'] (cnt 9 (gone k f.2.2 f.2.1) t')) := fun W S ov d0 d1 d2 d3 d4 d5 d6 hr hS hl =>
    (term_of_step k f.2.2 t' hst S W _ ov _ hr hS hl (by unfold wf at hw; omega) (by unfold wf at hw; omega)).mono fun e w' ⟨cs', he, hf, hr⟩ => by
      obtain ⟨_, _, _, _, _, _, _, _, _, _, _, _, _, rfl⟩ := hr.form
      exact ⟨_, _, _, _, _, _, _, _, _, _, _, _, _, he, hf, hr⟩
  obtain ⟨pa0, pc0, kd0, n0, x0, y0, a00, n00, c00, a10, n10, c10, a20, n20, c20, rfl⟩ := hf.form9
  have HW0 := hide hW0
  have HF0 := hide f0
  have HB1 := hide b1
  have k0 := cell_of_heap b0
  rw [hW0] at k0
  clear hf hst hW0 f0 b0 b1 hf0 hlen hw hB
  show Calls Tryd.prog 21 #[.agg #[.string f.1, .slice pa0 f.2.1.length pc0, .int .i64 kd0, .int .i64 n0, .string x0, .string y0, .slice a00 n00 c00, .slice a10 n10 c10, .slice a20 n20 c20]] w _
  go_enter Tryd.func21, Tryd.ntmps21
  go_wp2_with fail
  rw [← HW0.out]
  clear k0
  obtain ⟨W1, hW1⟩ : ∃ W1, W1 = W0.alloc (.cells #[.string f.1, .slice pa0 f.2.1.length pc0, .int .i64 kd0, .int .i64 n0, .string x0, .string y0, .slice a00 n00 c00, .slice a10 n10 c10, .slice a20 n20 c20] 33) := ⟨_, rfl⟩
  have hCF := CF.out
  rw [← hW1] at hCF ⊢
  have f01 : Fr No W0 W1 := by rw [hW1]; exact (Fr.refl No W0).alloc _
  clear CF
  refine hCF.mono ?_
  clear hCF hW1
  rintro e w1 ⟨g, o, cap, pa, pc, kd, n, x, y, a0, m0, c0, a1, m1, c1, a2, m2, c2, rfl, hf1, h1⟩
  have q0 : w1.cell? ⟨g, o, none⟩ = some (.string f.1) := h1.cells 0 (by omega)
  have q1 := h1.cells 1 (by omega)
  have q2 := h1.cells 2 (by omega)
  have q3 := h1.cells 3 (by omega)
  have q4 := h1.cells 4 (by omega)
  have q5 := h1.cells 5 (by omega)
  have q6 := h1.cells 6 (by omega)
  have q7 := h1.cells 7 (by omega)
  have q8 := h1.cells 8 (by omega)
  have hgl := h1.lt
  have hcp := h1.cap
  unfold maxLen at hcp
  have H1 := hide h1
  have F01 := hide (f01.trans hf1)
  have hs1 : W0.heap.size ≤ W1.heap.size := f01.size
  have hs2 : W1.heap.size ≤ w1.heap.size := hf1.size
  clear h1 hf1 f01
  go_wp2_with fail
  obtain ⟨W2, hW2⟩ : ∃ W2, W2 = w1.alloc (.cells #[.string f.1, .slice pa f.2.1.length pc, .int .i64 kd, .int .i64 n, .string x, .string y, .slice a0 m0 c0, .slice a1 m1 c1, .slice a2 m2 c2] 33) := ⟨_, rfl⟩
  rw [← hW2]
  have f12 : Fr No w1 W2 := by rw [hW2]; exact (Fr.refl No w1).alloc _
  have o2 : W2.heap[w1.heap.size]? = some (.cells #[.string f.1, .slice pa f.2.1.length pc, .int .i64 kd, .int .i64 n, .string x, .string y, .slice a0 m0 c0, .slice a1 m1 c1, .slice a2 m2 c2] 33 (0, 0)) := by rw [hW2]; exact heap_alloc_new w1 _
  have hs3 : W2.heap.size = w1.heap.size + 1 := by rw [hW2]; simp
  have hnm2 : NamesS (New W1 w1) W2 (.slice pa f.2.1.length pc) f.2.1 := H1.out.names.kept (stays_of_fr f12)
  clear hW2
  refine (CT.out W2 (New W1 w1) _ _ _ _ _ _ _ _ (H1.out.term.kept (stays_of_fr f12)) (fun g h => by have := h.2; omega) ⟨hnm2.1.row (fun g h => by have := h.2; omega), hnm2.2⟩).mono ?_
  rintro e w2 ⟨kd', n', x', y', a0', n0', c0', a1', n1', c1', a2', n2', c2', rfl, hf2, hr2⟩
  have o3 := fr_heap o2 hf2 (fun e => e)
  have r3 := fr_heap HB1.out ((F01.out.trans f12).trans hf2) (fun e => e)
  have k5 := cell_of_heap o3
  have z5 := frozen_of_heap o3
  have l5 := lt_of_heap o3
  have k6 := cell_of_heap r3
  have z6 := frozen_of_heap r3
  have l6 := lt_of_heap r3
  have hne1 : ¬ w1.heap.size = w.heap.size + 1 := by have := HF0.out.size; omega
  have hne2 : ¬ w.heap.size + 1 = w1.heap.size := by omega
  have O3 := hide o3
  have R3 := hide r3
  have HR2 := hide hr2
  have F2 := hide (((HF0.out.trans F01.out).trans f12).trans hf2)
  have HN2 := hide (hnm2.kept (stays_of_fr hf2))
  have hs4 := hf2.size
  clear o2 o3 r3 hr2 hf2 f12 hnm2 q0 q1 q2 q3 q4 q5 q6 q7 q8 CT
  go_wp2_with fail
  obtain ⟨s1, s2⟩ := set9b O3.out (.int .i64 kd') (.int .i64 n') (.string x') (.string y') (.slice a0' n0' c0') (.slice a1' n1' c1') (.slice a2' n2' c2')
  obtain ⟨Z1, hZ1⟩ : ∃ Z1, Z1 = (((((((w2.setCell ⟨w1.heap.size, 2, none⟩ (.int .i64 kd')).setCell ⟨w1.heap.size, 3, none⟩ (.int .i64 n')).setCell ⟨w1.heap.size, 4, none⟩ (.string x')).setCell ⟨w1.heap.size, 5, none⟩ (.string y')).setCell ⟨w1.heap.size, 6, none⟩ (.slice a0' n0' c0')).setCell ⟨w1.heap.size, 7, none⟩ (.slice a1' n1' c1')).setCell ⟨w1.heap.size, 8, none⟩ (.slice a2' n2' c2')) := ⟨_, rfl⟩
  rw [← hZ1] at s1 s2 ⊢
  clear hZ1
  have r4 := fr_heap R3.out s2 (fun e => hne2 e)
  obtain ⟨t1, t2⟩ := set9f r4 (.string f.1) (.slice pa f.2.1.length pc) (.int .i64 kd') (.int .i64 n') (.string x') (.string y') (.slice a0' n0' c0') (.slice a1' n1' c1') (.slice a2' n2' c2')
  obtain ⟨Z2, hZ2⟩ : ∃ Z2, Z2 = (((((((((Z1.setCell ⟨w.heap.size + 1, 0, none⟩ (.string f.1)).setCell ⟨w.heap.size + 1, 1, none⟩ (.slice pa f.2.1.length pc)).setCell ⟨w.heap.size + 1, 2, none⟩ (.int .i64 kd')).setCell ⟨w.heap.size + 1, 3, none⟩ (.int .i64 n')).setCell ⟨w.heap.size + 1, 4, none⟩ (.string x')).setCell ⟨w.heap.size + 1, 5, none⟩ (.string y')).setCell ⟨w.heap.size + 1, 6, none⟩ (.slice a0' n0' c0')).setCell ⟨w.heap.size + 1, 7, none⟩ (.slice a1' n1' c1')).setCell ⟨w.heap.size + 1, 8, none⟩ (.slice a2' n2' c2')) := ⟨_, rfl⟩
  rw [← hZ2] at t1 t2 ⊢
  clear hZ2
  have hfz := HF0.out.size
  have u1 := s2.size
  have u2 := t2.size
  have hst : ∀ S : Nat → Prop, (∀ g, S g → w.heap.size + 2 ≤ g ∧ g ≠ w1.heap.size ∧ g < w2.heap.size) → Stays S (New w Z2) w2 Z2 := fun S hS => by
    refine ⟨Nat.le_trans u1 u2, fun g hg hl => ⟨⟨by have := hS g hg; omega, by have := hS g hg; omega⟩, ?_⟩⟩
    exact (t2.block g (Nat.lt_of_lt_of_le hl u1) (fun e => by have e : g = w.heap.size + 1 := e; have := hS g hg; omega)).trans (s2.block g hl (fun e => (hS g hg).2.1 e))
  have P1 : Fr No w Z2 := (F2.out.trans' s2 (fun i hi e => by have e : i = w1.heap.size := e; omega)).trans' t2 (fun i hi e => by have e : i = w.heap.size + 1 := e; omega)
  have P2 := HN2.out.kept (hst _ (fun g hg => ⟨by have := hg.1; omega, by have := hg.2; omega, by have := hg.2; omega⟩))
  have P3 := HR2.out.kept (hst _ (fun g hg => by
    rcases hg with h | h
    · exact ⟨by have := h.1; omega, by have := h.2; omega, by have := h.2; omega⟩
    · exact ⟨by have := h.1; omega, by have := h.1; omega, h.2⟩))
  refine bodyPost_ret (retF rfl _ _ (w.heap.size + 1) _ _ _ _ _ _ _ _ _ (0, 0) rfl t1) rfl ?_
  exact ⟨pa, pc, kd', n', x', y', a0', n0', c0', a1', n1', c1', a2', n2', c2', rfl, P1, P2, P3⟩
end Go.Proofs.YtdcdegeeaakekacDoor

/- own: 'All' at one function, walked. -/
namespace Go.Proofs.YtdcdegeeaakekacDoor
open Go.RowKit Go.Maps Go.WideMaps

set_option maxRecDepth 100000 in
set_option maxHeartbeats 4000000 in
theorem ownAll_one (k : Nat) (f : Pu.Fn k) (t' : Tm) (hst : StepC k f.2.2 t') (B : Nat) (v : Value) (w : World) (hl : Fns k B w v [f]) (hB : B ≤ w.heap.size) (hw : wf f ≤ 1073741824) :
    Calls Tryd.prog 16 #[v] w fun e w' => ∃ a c, e = .returned (.slice a 1 c) ∧ Fr No w w' := by
  have hform : ∃ a cap, v = .slice a 1 cap ∧ 1 ≤ cap ∧ cap ≤ maxLen := by obtain ⟨acs, hr, _⟩ := hl; exact hr.form
  obtain ⟨a0, cp0, rfl, hcp1, hcp2⟩ := hform
  unfold maxLen at hcp2
  obtain ⟨g, o, cap, ag, an, ac, kd', n', x', y', b0, n0, e0, b1, n1, e1, b2, n2, e2, hav, hcap, hg', hgw, hnm, han, hxn, hrt, hcell⟩ := fns_at hl 0 (by simp)
  injection hav with hav1 hle hav2
  clear hle
  subst hav1 hav2
  simp only [List.getElem_cons_zero, Nat.zero_mul, Nat.add_zero] at hnm han hxn hrt hcell
  subst han
  have HRF : RF k B w [.string f.1, .slice ag f.2.1.length ac, .int .i64 kd', .int .i64 n', .string x', .string y', .slice b0 n0 e0, .slice b1 n1 e1, .slice b2 n2 e2] f := ⟨_, _, rfl, hxn, hnm, rfl, hrt⟩
  have CFN : Hid (∀ W, Fr No w W → Calls Tryd.prog 21 #[.agg #[.string f.1, .slice ag f.2.1.length ac, .int .i64 kd', .int .i64 n', .string x', .string y', .slice b0 n0 e0, .slice b1 n1 e1, .slice b2 n2 e2]] W fun e w' => (∃ pa pc kd n x y a0 n0 c0 a1 n1 c1 a2 n2 c2, e = .returned (.agg #[.string f.1, .slice pa f.2.1.length pc, .int .i64 kd, .int .i64 n, .string x, .string y, .slice a0 n0 c0, .slice a1 n1 c1, .slice a2 n2 c2])) ∧ Fr No W w') := fun W hW =>
    (ownFn_any' k f t' hst B W _ (HRF.kept (hW.old hB (fun _ _ e => e)) (Nat.le_refl _) hW.size) (Nat.le_trans hB hW.size) hw).mono fun e w' ⟨pa, pc, kd, n, x, y, a0, n0, c0, a1, n1, c1, a2, n2, c2, he, hf, _⟩ => ⟨⟨pa, pc, kd, n, x, y, a0, n0, c0, a1, n1, c1, a2, n2, c2, he⟩, hf⟩
  obtain ⟨i0, hi, hz0, hz1, hz2⟩ := info_parts Tryd.info33
  obtain ⟨m, hm⟩ : ∃ m : Nat, m = 1 := ⟨_, rfl⟩
  have HM := hide hm
  show Calls Tryd.prog 16 #[.slice (some ⟨g, o, none⟩) 1 cp0] w fun e w' => ∃ a c, e = .returned (.slice a 1 c) ∧ Fr No w w'
  rw [← hm]
  rw [← hm] at hcp1
  have hm0 : ¬ (m : Int) = 0 := by omega
  have hmk : ∀ u : World, (Instr.makeSlice 22 (.int .i64 (m : Int)) (.int .i64 (m : Int))).run Tryd.prog u =
      .ok (.slice (some ⟨u.heap.size, 0, none⟩) m m) (u.alloc (.cells (madeCells #[.string ⟨#[]⟩, .slice none 0 0, .int .i64 0, .int .i64 0, .string ⟨#[]⟩, .string ⟨#[]⟩, .slice none 0 0, .slice none 0 0, .slice none 0 0] (m * 9)) 33)) := fun u => by
    have h := run_make (P := Tryd.prog) u 22 33 i0 _ Tryd.underlying22 hi hz0 .i64 .i64 (m : Int) (m : Int) (by omega) (Int.le_refl _) (by rw [hz2]; omega) (by omega)
    rw [Int.toNat_natCast] at h
    simpa [hz1, Value.cells] using h
  have HC := hide hcell
  clear hl hst hnm hxn hrt HRF hcell hm
  go_enter Tryd.func16, Tryd.ntmps16
  go_wp2_with fail
  clear hmk hm0
  go_loopw [11] (fun q wr => (q = .int .i64 0 ∨ q = .int .i64 1) ∧ Fr No w wr ∧ ∃ cur, wr.heap[w.heap.size]? = some (.cells cur 33 (0, 0)) ∧ cur.size = m * 9) (fun q _ => 1 - (intOf q).toNat)
  case atStart => exact ⟨.inl rfl, (Fr.refl No w).alloc _, _, heap_alloc_new _ _, size_madeCells _ _⟩
  case round =>
    obtain ⟨hq, hf, cur, hg, hsz⟩ := hrel
    rcases hq with rfl | rfl
    · have i1 : (0 : Int) < (m : Int) := by have := HM.out; omega
      have hsz9 : cur.size = 9 := by have := HM.out; omega
      have hcw : ∀ j, j < 9 → wr.cell? ⟨g, o + j, none⟩ = [Value.string f.1, .slice ag f.2.1.length ac, .int .i64 kd', .int .i64 n', .string x', .string y', .slice b0 n0 e0, .slice b1 n1 e1, .slice b2 n2 e2][j]? := fun j hj => by
        rw [show wr.cell? ⟨g, o + j, none⟩ = w.cell? ⟨g, o + j, none⟩ from by simp only [World.cell?, hf.block g hgw (fun e => e)]]; exact HC.out j hj
      have q0 : wr.cell? ⟨g, o, none⟩ = some (.string f.1) := hcw 0 (by omega)
      have q1 := hcw 1 (by omega)
      have q2 := hcw 2 (by omega)
      have q3 := hcw 3 (by omega)
      have q4 := hcw 4 (by omega)
      have q5 := hcw 5 (by omega)
      have q6 := hcw 6 (by omega)
      have q7 := hcw 7 (by omega)
      have q8 := hcw 8 (by omega)
      have hgl : g < wr.heap.size := Nat.lt_of_lt_of_le hgw hf.size
      have HF := hide hf
      have HG := hide hg
      clear hcw hf hg
      go_wp2_with fail
      refine (CFN.out _ (by first | exact HF.out.alloc _ | exact HF.out)).mono ?_
      rintro e w1 ⟨⟨pa, pc, kd2, m2, x2, y2, p0, r0, s0, p1, r1, s1, p2, r2, s2, rfl⟩, hf1⟩
      have F1 : Fr No w w1 := (HF.out.alloc _).trans hf1
      have g1 := fr_heap HG.out (((Fr.refl No wr).alloc _).trans hf1) (fun e => e)
      obtain ⟨u0, hu0⟩ := some_at g1 (o := 0) (by omega)
      obtain ⟨u1, hu1⟩ := some_at g1 (o := 1) (by omega)
      obtain ⟨u2, hu2⟩ := some_at g1 (o := 2) (by omega)
      obtain ⟨u3, hu3⟩ := some_at g1 (o := 3) (by omega)
      obtain ⟨u4, hu4⟩ := some_at g1 (o := 4) (by omega)
      obtain ⟨u5, hu5⟩ := some_at g1 (o := 5) (by omega)
      obtain ⟨u6, hu6⟩ := some_at g1 (o := 6) (by omega)
      obtain ⟨u7, hu7⟩ := some_at g1 (o := 7) (by omega)
      obtain ⟨u8, hu8⟩ := some_at g1 (o := 8) (by omega)
      have z1 := frozen_of_heap g1
      have G1 := hide g1
      have HF1 := hide F1
      have lw := lt_of_heap g1
      clear g1 F1 hf1 CFN q0 q1 q2 q3 q4 q5 q6 q7 q8
      go_wp2_with fail
      go_roundw
      case rel =>
        obtain ⟨cur', c1, c2, c3, c4, c5⟩ := sets_heap w.heap.size 33 (0, 0) [.string f.1, .slice pa f.2.1.length pc, .int .i64 kd2, .int .i64 m2, .string x2, .string y2, .slice p0 r0 s0, .slice p1 r1 s1, .slice p2 r2 s2] 0 w1 cur G1.out (by simp; omega)
        exact ⟨.inr rfl, HF1.out.trans' c5 (fun j hj e => by have e : j = w.heap.size := e; omega), cur', c1, by omega⟩
      case measure => decide
    · have i1 : ¬ (1 : Int) < (m : Int) := by have := HM.out; omega
      have HF := hide hf
      clear hf hg
      go_wp2_with fail
      go_ret
      first
        | exact ⟨_, _, rfl, HF.out⟩
        | exact ⟨⟨_, _, rfl⟩, HF.out⟩
        | (rw [HM.out]; exact ⟨_, _, rfl, HF.out⟩)
end Go.Proofs.YtdcdegeeaakekacDoor
