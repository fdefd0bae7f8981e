/- How values lie in memory. No walk in it. -/
import Derived.Test.YtdgmengfdfkgaabDoorPuPeRel
import Derived.Test.YtdgmengfdfkgaabDoorO1O2
import Derived.Laws.ResultCell
import Derived.Laws.Rows
namespace Go.Proofs.YtdgmengfdfkgaabDoor
open Go.RowKit Go.Maps Go.WideMaps

theorem Tryd.info29 : (Tryd.prog.info? 29).map (fun i => (i.zero, i.size, i.bytes)) = some (some (.agg #[.bool false, .int .i64 0, .slice none 0 0]), 3, 40) := by kernel_rfl

/-- Whatever block. -/
abbrev Any : Nat → Prop := fun _ => True

/-- New blocks. -/
abbrev New (w w' : World) : Nat → Prop := fun g => w.heap.size ≤ g ∧ g < w'.heap.size

/-- A value in three cells. -/
def RV : (k : Nat) → (S : Nat → Prop) → World → List Value → Pu.V → Prop
  | 0, _, _, _, _ => False
  | k + 1, S, w, cs, v => ∃ kv xs, cs = [.bool v.con, .int .i64 v.n, kv] ∧ v.kids.length ≤ 1073741824 ∧ RowS S w kv v.kids.length xs ∧ Each 3 (RV k S w) xs v.kids

theorem RowS.form {S : Nat → Prop} {w : World} {v : Value} {n : Nat} {xs : List Value} (h : RowS S w v n xs) : ∃ a cap, v = .slice a n cap ∧ n ≤ cap ∧ cap ≤ maxLen := by
  obtain ⟨a, cap, h1, h2, h3, _⟩ := h; exact ⟨a, cap, h1, h2, h3⟩
theorem RowS.nil (S : Nat → Prop) (w : World) : RowS S w (.slice none 0 0) 0 [] := ⟨none, 0, rfl, Nat.le_refl _, Nat.zero_le _, fun h => absurd h (by omega)⟩

theorem RV.kept {S S' : Nat → Prop} {w w' : World} (hs : Stays S S' w w') : ∀ {k : Nat} {cs : List Value} {v : Pu.V}, RV k S w cs v → RV k S' w' cs v
  | 0, _, _, h => h
  | _ + 1, _, _, h => by
    obtain ⟨kv, xs, h1, h2, h3, h4⟩ := h
    exact ⟨kv, xs, h1, h2, h3.kept hs, h4.mono fun _ _ h => RV.kept hs h⟩
theorem RV.up {S : Nat → Prop} {w : World} : ∀ {k : Nat} {cs : List Value} {v : Pu.V}, RV k S w cs v → RV (k + 1) S w cs v
  | 0, _, _, h => h.elim
  | _ + 1, _, _, h => by
    obtain ⟨kv, xs, h1, h2, h3, h4⟩ := h
    exact ⟨kv, xs, h1, h2, h3, h4.mono fun _ _ h => RV.up h⟩
theorem RV.le {S : Nat → Prop} {w : World} {k : Nat} {cs : List Value} {v : Pu.V} (h : RV k S w cs v) : ∀ n, RV (k + n) S w cs v
  | 0 => h
  | n + 1 => RV.up (RV.le h n)
theorem RV.form {k : Nat} {S : Nat → Prop} {w : World} {cs : List Value} {v : Pu.V} (h : RV k S w cs v) : ∃ a c, cs = [.bool v.con, .int .i64 v.n, .slice a v.kids.length c] := by
  cases k with
  | zero => exact h.elim
  | succ k =>
    obtain ⟨kv, xs, h1, _, h3, _⟩ := h
    obtain ⟨a, c, rfl, _⟩ := h3.form
    exact ⟨a, c, h1⟩
theorem RV.any {k : Nat} {S : Nat → Prop} {w : World} {cs : List Value} {v : Pu.V} (h : RV k S w cs v) : RV k Any w cs v := h.kept ⟨Nat.le_refl _, fun _ _ _ => ⟨trivial, rfl⟩⟩
theorem RV.fr {k : Nat} {w w' : World} {cs : List Value} {v : Pu.V} (h : RV k Any w cs v) (hf : Fr No w w') : RV k Any w' cs v := h.kept (stays_fr hf (fun _ _ _ e => e) (fun _ h => h))
theorem RV.zero (S : Nat → Prop) (w : World) (k : Nat) : RV (k + 1) S w [.bool false, .int .i64 0, .slice none 0 0] Pu.V.zero := ⟨_, [], rfl, Nat.zero_le _, RowS.nil S w, rfl⟩
theorem RV.num (S : Nat → Prop) (w : World) (k : Nat) (b : Bool) (n : Int) : RV (k + 1) S w [.bool b, .int .i64 n, .slice none 0 0] ⟨b, n, []⟩ := ⟨_, [], rfl, Nat.zero_le _, RowS.nil S w, rfl⟩

theorem kids_at {k : Nat} {S : Nat → Prop} {w : World} {av : Value} {xs : List Value} {l : List Pu.V} (hr : RowS S w av l.length xs) (he : Each 3 (RV k S w) xs l) (i : Nat) (hi : i < l.length) :
    ∃ g o cap a m c, av = .slice (some ⟨g, o, none⟩) l.length cap ∧ l.length ≤ cap ∧ cap ≤ maxLen ∧ S g ∧ g < w.heap.size ∧ m = l[i].kids.length ∧ RV k S w [.bool l[i].con, .int .i64 l[i].n, .slice a m c] l[i] ∧
      w.cell? ⟨g, o + i * 3, none⟩ = some (.bool l[i].con) ∧ w.cell? ⟨g, o + i * 3 + 1, none⟩ = some (.int .i64 l[i].n) ∧ w.cell? ⟨g, o + i * 3 + 2, none⟩ = some (.slice a m c) := by
  obtain ⟨a0, cap, h1, h2, h3, h4⟩ := hr
  obtain ⟨g, o, h5, h6, h7, h8⟩ := h4 (by omega)
  obtain ⟨ck, hl, hrt, hxs⟩ := he.get i _ (List.getElem?_eq_getElem hi)
  obtain ⟨a, c, rfl⟩ := hrt.form
  subst h5
  have hlen := he.length
  have hc : ∀ j, j < 3 → w.cell? ⟨g, o + i * 3 + j, none⟩ = [Value.bool l[i].con, .int .i64 l[i].n, .slice a l[i].kids.length c][j]? := fun j hj => by
    rw [Nat.add_assoc, h8 _ (by rw [hlen]; have := Nat.mul_le_mul_right 3 (show i + 1 ≤ l.length by omega); omega), hxs j hj]
  exact ⟨g, o, cap, a, _, c, h1, h2, h3, h6, h7, rfl, hrt, hc 0 (by omega), hc 1 (by omega), hc 2 (by omega)⟩

theorem v_ext {a b : Pu.V} (h1 : a.con = b.con) (h2 : a.n = b.n) (h3 : a.kids = b.kids) : a = b := by
  cases a; cases b; simp only at h1 h2 h3; subst h1 h2 h3; rfl

/-! What is told of a value in a cell of the call's own. -/
theorem set3 {w : World} {g : Nat} {x0 x1 x2 : Value} {t : TypeId} {z : Nat × Nat} (h : w.heap[g]? = some (.cells #[x0, x1, x2] t z)) (u0 u1 u2 : Value) :
    (((w.setCell ⟨g, 0, none⟩ u0).setCell ⟨g, 1, none⟩ u1).setCell ⟨g, 2, none⟩ u2).heap[g]? = some (.cells #[u0, u1, u2] t z) ∧ Fr (· = g) w (((w.setCell ⟨g, 0, none⟩ u0).setCell ⟨g, 1, none⟩ u1).setCell ⟨g, 2, none⟩ u2) :=
  ⟨by simp [World.setCell, Array.getElem?_modify, h], (((Fr.refl (· = g) w).setCell (p := ⟨g, 0, none⟩) (.inl rfl) u0).setCell (p := ⟨g, 1, none⟩) (.inl rfl) u1).setCell (p := ⟨g, 2, none⟩) (.inl rfl) u2⟩
theorem keep3 {W : World} {rb g o : Nat} (u0 u1 u2 : Value) (h : g ≠ rb) : (((W.setCell ⟨rb, 0, none⟩ u0).setCell ⟨rb, 1, none⟩ u1).setCell ⟨rb, 2, none⟩ u2).cell? ⟨g, o, none⟩ = W.cell? ⟨g, o, none⟩ := by
  have h1 : ∀ (W : World) (p : Nat) (u : Value), (W.setCell ⟨rb, p, none⟩ u).cell? ⟨g, o, none⟩ = W.cell? ⟨g, o, none⟩ := fun W p u => by
    simp only [World.cell?]
    rw [show (W.setCell ⟨rb, p, none⟩ u).heap[g]? = W.heap[g]? from Below.heap_setCell _ _ _ _ h]
  rw [h1, h1, h1]
theorem infoV : (Tryd.prog.info? 29).map (·.size) = some 3 := by kernel_rfl
theorem ret1 {fn : Func} {p : Tmp} (h : fn.results = #[.cell p 29]) (tmps : Array Value) (w : World) (g : Nat) (u0 u1 u2 : Value) (z : Nat × Nat) (hp : tmps.getD p undef = .pointer (some ⟨g, 0, none⟩)) (hg : w.heap[g]? = some (.cells #[u0, u1, u2] 29 z)) :
    (results fn tmps).run Tryd.prog w = .ok (.agg #[u0, u1, u2]) w := results_cell_row h tmps w g _ _ z _ hp hg Tryd.underlying29 rfl infoV
theorem ret2 {fn : Func} {p u : Tmp} (h : fn.results = #[.cell p 29, .tmp u]) (tmps : Array Value) (w : World) (g : Nat) (u0 u1 u2 e : Value) (z : Nat × Nat) (hp : tmps.getD p undef = .pointer (some ⟨g, 0, none⟩)) (he : tmps.getD u undef = e) (hg : w.heap[g]? = some (.cells #[u0, u1, u2] 29 z)) :
    (results fn tmps).run Tryd.prog w = .ok (.tuple #[.agg #[u0, u1, u2], e]) w := by
  rw [results_cell_tmp h, hp, he]
  simp [asAddr, Result.andThen, run_loadVar_row w g _ 29 _ z _ hg Tryd.underlying29 rfl infoV]

/-- A list of values. -/
def Vals (S : Nat → Prop) (w : World) (v : Value) (l : List Pu.V) : Prop := ∃ k xs, l.length ≤ 1073741824 ∧ RowS S w v l.length xs ∧ Each 3 (RV k S w) xs l
/-- A value. -/
def AV (S : Nat → Prop) (w : World) (cs : List Value) (v : Pu.V) : Prop := ∃ k, RV k S w cs v
theorem Vals.kept {S S' : Nat → Prop} {w w' : World} {v : Value} {l : List Pu.V} (h : Vals S w v l) (hs : Stays S S' w w') : Vals S' w' v l := by
  obtain ⟨k, xs, h0, h1, h2⟩ := h; exact ⟨k, xs, h0, h1.kept hs, h2.mono fun _ _ h => h.kept hs⟩
theorem AV.kept {S S' : Nat → Prop} {w w' : World} {cs : List Value} {v : Pu.V} (h : AV S w cs v) (hs : Stays S S' w w') : AV S' w' cs v := by
  obtain ⟨k, h⟩ := h; exact ⟨k, h.kept hs⟩
theorem AV.form {S : Nat → Prop} {w : World} {cs : List Value} {v : Pu.V} (h : AV S w cs v) : ∃ a c, cs = [.bool v.con, .int .i64 v.n, .slice a v.kids.length c] := by
  obtain ⟨k, h⟩ := h; exact h.form
theorem AV.con {S : Nat → Prop} {w : World} {v : Value} {l : List Pu.V} (h : Vals S w v l) (n : Int) : AV S w [.bool true, .int .i64 n, v] ⟨true, n, l⟩ := by
  obtain ⟨k, xs, h0, h1, h2⟩ := h; exact ⟨k + 1, v, xs, rfl, h0, h1, h2⟩
theorem AV.kids {S : Nat → Prop} {w : World} {b n kv : Value} {v : Pu.V} (h : AV S w [b, n, kv] v) : Vals S w kv v.kids := by
  obtain ⟨k, h⟩ := h
  cases k with
  | zero => exact h.elim
  | succ k =>
    obtain ⟨kv', xs, h1, h2, h3, h4⟩ := h
    injection h1 with _ h1
    injection h1 with _ h1
    injection h1 with h1 _
    subst h1
    exact ⟨k, xs, h2, h3, h4⟩
theorem Vals.nil (S : Nat → Prop) (w : World) : Vals S w (.slice none 0 0) [] := ⟨0, [], Nat.zero_le _, RowS.nil S w, rfl⟩
theorem Vals.form {S : Nat → Prop} {w : World} {v : Value} {l : List Pu.V} (h : Vals S w v l) : ∃ a cap, v = .slice a l.length cap ∧ l.length ≤ cap ∧ cap ≤ maxLen := by
  obtain ⟨k, xs, _, h1, _⟩ := h; exact h1.form
theorem Vals.at {S : Nat → Prop} {w : World} {av : Value} {l : List Pu.V} (h : Vals S w av l) (i : Nat) (hi : i < l.length) :
    ∃ g o cap a m c, av = .slice (some ⟨g, o, none⟩) l.length cap ∧ l.length ≤ cap ∧ cap ≤ maxLen ∧ S g ∧ g < w.heap.size ∧ m = l[i].kids.length ∧ AV S w [.bool l[i].con, .int .i64 l[i].n, .slice a m c] l[i] ∧
      w.cell? ⟨g, o + i * 3, none⟩ = some (.bool l[i].con) ∧ w.cell? ⟨g, o + i * 3 + 1, none⟩ = some (.int .i64 l[i].n) ∧ w.cell? ⟨g, o + i * 3 + 2, none⟩ = some (.slice a m c) := by
  obtain ⟨k, xs, _, h1, h2⟩ := h
  obtain ⟨g, o, cap, a, m, c, p1, p2, p3, p4, p5, p6, p7, p8⟩ := kids_at h1 h2 i hi
  exact ⟨g, o, cap, a, m, c, p1, p2, p3, p4, p5, p6, ⟨k, p7⟩, p8⟩
/-- Values one behind the other at one level. -/
theorem each_level {S : Nat → Prop} {w : World} : ∀ {l : List Pu.V} {xs : List Value}, Each 3 (fun cs v => AV S w cs v) xs l → ∃ k, Each 3 (RV k S w) xs l
  | [], xs, h => ⟨0, h⟩
  | a :: l, xs, ⟨ck, rest, h1, h2, ⟨k, h3⟩, h4⟩ => by
    obtain ⟨k', h5⟩ := each_level h4
    exact ⟨k + k', ck, rest, h1, h2, h3.le k', h5.mono fun _ _ h => by rw [Nat.add_comm]; exact h.le k⟩
end Go.Proofs.YtdgmengfdfkgaabDoor

/- Numbers, primitives, walked. -/
namespace Go.Proofs.YtdgmengfdfkgaabDoor
open Go.RowKit Go.Maps Go.WideMaps

theorem wrap_64_32 (n : Int) : wrap64 (wrap32 n) = wrap32 n := by unfold wrap64 wrap32; omega

theorem number_any (n : Int) (w : World) : Calls Tryd.prog 30 #[.int .i64 n] w fun e w' => e = .returned (.agg #[.bool false, .int .i64 (wrap32 n), .slice none 0 0]) ∧ Fr No w w' := by
  go_enter Tryd.func30, Tryd.ntmps30
  go_wp2_with fail
  refine bodyPost_ret (ret1 rfl _ _ w.heap.size (.bool false) (.int .i64 (wrap32 n)) (.slice none 0 0) (0, 0) rfl ?_) rfl ⟨rfl, (Fr.refl No w).alloc _⟩
  rw [wrap_64_32]
  exact heap_alloc_new _ _

theorem whether_any (b : Bool) (w : World) : Calls Tryd.prog 45 #[.bool b] w fun e w' => e = .returned (.agg #[.bool true, .int .i64 (if b = true then 1 else 0), .slice none 0 0]) ∧ Fr No w w' := by
  cases b
  all_goals
    go_enter Tryd.func45, Tryd.ntmps45
    go_wp2_with fail
    refine bodyPost_ret (ret1 rfl _ _ w.heap.size (.bool true) _ (.slice none 0 0) (0, 0) rfl (heap_alloc_new _ _)) rfl ⟨rfl, (Fr.refl No w).alloc _⟩

theorem prim_kids (p a b : Int) : (Pu.prim p a b).1.kids = [] := by
  unfold Pu.prim
  repeat' split
  all_goals rfl

/-- A value without others, as it is told with an errno. -/
def Told (v : Pu.V) (e : Int) : Value := .tuple #[.agg #[.bool v.con, .int .i64 v.n, .slice none 0 0], .int .i64 e]

set_option maxHeartbeats 2000000 in
theorem prim_any (p a b : Int) (w : World) : Calls Tryd.prog 21 #[.int .i64 p, .int .i64 a, .int .i64 b] w fun e w' => e = .returned (Told (Pu.prim p a b).1 (Pu.prim p a b).2) ∧ Fr No w w' := by
  have z0 := heap_alloc_new w (.cells #[.bool false, .int .i64 0, .slice none 0 0] 29)
  have Z0 := hide z0
  have F0 := hide ((Fr.refl No w).alloc (.cells #[.bool false, .int .i64 0, .slice none 0 0] 29))
  clear z0
  by_cases h1 : p = 1
  · subst h1
    have e : Pu.prim 1 a b = (Pu.num (wrap64 (a + b)), 0) := rfl
    rw [e]
    clear e
    go_enter Tryd.func21, Tryd.ntmps21
    go_wp2_with fail
    refine (number_any _ _).mono ?_
    rintro e w1 ⟨rfl, hf1⟩
    have g1 := fr_heap Z0.out hf1 (fun e => e)
    have c1 := cell_of_heap g1
    have z1 := frozen_of_heap g1
    have hl1 := lt_of_heap g1
    have F1 := hide (F0.out.trans hf1)
    have G1 := hide g1
    clear g1 hf1

    go_wp2_with fail
    obtain ⟨s1, s2⟩ := set3 G1.out (.bool false) (.int .i64 (wrap32 (wrap64 (a + b)))) (.slice none 0 0)
    refine bodyPost_ret (ret2 rfl _ _ w.heap.size (.bool false) (.int .i64 (wrap32 (wrap64 (a + b)))) (.slice none 0 0) (.int .i64 0) (0, 0) rfl rfl s1) rfl ⟨rfl, ?_⟩
    exact F1.out.trans' s2 (fun j hj e => by have e : j = w.heap.size := e; omega)
  by_cases h2 : p = 2
  · subst h2
    have e : Pu.prim 2 a b = (Pu.num (wrap64 (a - b)), 0) := rfl
    rw [e]
    clear e
    go_enter Tryd.func21, Tryd.ntmps21
    go_wp2_with fail
    refine (number_any _ _).mono ?_
    rintro e w1 ⟨rfl, hf1⟩
    have g1 := fr_heap Z0.out hf1 (fun e => e)
    have c1 := cell_of_heap g1
    have z1 := frozen_of_heap g1
    have hl1 := lt_of_heap g1
    have F1 := hide (F0.out.trans hf1)
    have G1 := hide g1
    clear g1 hf1

    go_wp2_with fail
    obtain ⟨s1, s2⟩ := set3 G1.out (.bool false) (.int .i64 (wrap32 (wrap64 (a - b)))) (.slice none 0 0)
    refine bodyPost_ret (ret2 rfl _ _ w.heap.size (.bool false) (.int .i64 (wrap32 (wrap64 (a - b)))) (.slice none 0 0) (.int .i64 0) (0, 0) rfl rfl s1) rfl ⟨rfl, ?_⟩
    exact F1.out.trans' s2 (fun j hj e => by have e : j = w.heap.size := e; omega)
  by_cases h3 : p = 3
  · subst h3
    have e : Pu.prim 3 a b = (Pu.num (wrap64 (a * b)), 0) := rfl
    rw [e]
    clear e
    go_enter Tryd.func21, Tryd.ntmps21
    go_wp2_with fail
    refine (number_any _ _).mono ?_
    rintro e w1 ⟨rfl, hf1⟩
    have g1 := fr_heap Z0.out hf1 (fun e => e)
    have c1 := cell_of_heap g1
    have z1 := frozen_of_heap g1
    have hl1 := lt_of_heap g1
    have F1 := hide (F0.out.trans hf1)
    have G1 := hide g1
    clear g1 hf1

    go_wp2_with fail
    obtain ⟨s1, s2⟩ := set3 G1.out (.bool false) (.int .i64 (wrap32 (wrap64 (a * b)))) (.slice none 0 0)
    refine bodyPost_ret (ret2 rfl _ _ w.heap.size (.bool false) (.int .i64 (wrap32 (wrap64 (a * b)))) (.slice none 0 0) (.int .i64 0) (0, 0) rfl rfl s1) rfl ⟨rfl, ?_⟩
    exact F1.out.trans' s2 (fun j hj e => by have e : j = w.heap.size := e; omega)
  by_cases h4 : p = 4
  · subst h4
    have e : Pu.prim 4 a b = (Pu.truth (decide (a < b)), 0) := rfl
    rw [e]
    clear e
    go_enter Tryd.func21, Tryd.ntmps21
    go_wp2_with fail
    refine (whether_any _ _).mono ?_
    rintro e w1 ⟨rfl, hf1⟩
    have g1 := fr_heap Z0.out hf1 (fun e => e)
    have c1 := cell_of_heap g1
    have z1 := frozen_of_heap g1
    have hl1 := lt_of_heap g1
    have F1 := hide (F0.out.trans hf1)
    have G1 := hide g1
    clear g1 hf1
    generalize hvv : (if (decide (a < b)) = true then (1 : Int) else 0) = vv
    go_wp2_with fail
    obtain ⟨s1, s2⟩ := set3 G1.out (.bool true) (.int .i64 vv) (.slice none 0 0)
    refine bodyPost_ret (ret2 rfl _ _ w.heap.size (.bool true) (.int .i64 vv) (.slice none 0 0) (.int .i64 0) (0, 0) rfl rfl s1) rfl ⟨by rw [← hvv]; rfl, ?_⟩
    exact F1.out.trans' s2 (fun j hj e => by have e : j = w.heap.size := e; omega)
  by_cases h5 : p = 5
  · subst h5
    have e : Pu.prim 5 a b = (Pu.truth (decide (a = b)), 0) := rfl
    rw [e]
    clear e
    go_enter Tryd.func21, Tryd.ntmps21
    go_wp2_with fail
    refine (whether_any _ _).mono ?_
    rintro e w1 ⟨rfl, hf1⟩
    have g1 := fr_heap Z0.out hf1 (fun e => e)
    have c1 := cell_of_heap g1
    have z1 := frozen_of_heap g1
    have hl1 := lt_of_heap g1
    have F1 := hide (F0.out.trans hf1)
    have G1 := hide g1
    clear g1 hf1
    generalize hvv : (if (decide (a = b)) = true then (1 : Int) else 0) = vv
    go_wp2_with fail
    obtain ⟨s1, s2⟩ := set3 G1.out (.bool true) (.int .i64 vv) (.slice none 0 0)
    refine bodyPost_ret (ret2 rfl _ _ w.heap.size (.bool true) (.int .i64 vv) (.slice none 0 0) (.int .i64 0) (0, 0) rfl rfl s1) rfl ⟨by rw [← hvv]; rfl, ?_⟩
    exact F1.out.trans' s2 (fun j hj e => by have e : j = w.heap.size := e; omega)
  have e : Pu.prim p a b = (Pu.V.zero, 1) := by unfold Pu.prim; rw [if_neg h1, if_neg h2, if_neg h3, if_neg h4, if_neg h5]
  rw [e]
  clear e
  go_enter Tryd.func21, Tryd.ntmps21
  go_wp2_with fail
  refine bodyPost_ret (ret2 rfl _ _ w.heap.size (.bool false) (.int .i64 0) (.slice none 0 0) (.int .i64 1) (0, 0) rfl rfl Z0.out) rfl ⟨rfl, F0.out⟩

theorem nothing_any (x : ByteArray) (w : World) : Calls Tryd.prog 53 #[.string x] w fun e w' => e = .returned (Told Pu.V.zero 6) ∧ Fr No w w' := by
  have z0 := heap_alloc_new w (.cells #[.bool false, .int .i64 0, .slice none 0 0] 29)
  have Z0 := hide z0
  clear z0
  go_enter Tryd.func53, Tryd.ntmps53
  go_wp2_with fail
  refine bodyPost_ret (ret2 rfl _ _ w.heap.size (.bool false) (.int .i64 0) (.slice none 0 0) (.int .i64 6) (0, 0) rfl rfl Z0.out) rfl ⟨rfl, (Fr.refl No w).alloc _⟩

set_option maxHeartbeats 4000000 in
/-- 'prim' of values. -/
theorem evprim_any (p : Int) (v : Value) (l : List Pu.V) (S : Nat → Prop) (c : Nat) (w : World) (hl : Vals S w v l) :
    Calls Tryd.prog 71 #[.int .i64 p, v] w fun e w' => e = .returned (Told (Pu.evPrim p l c).v (Pu.evPrim p l c).e) ∧ Fr No w w' := by
  have z0 := heap_alloc_new w (.cells #[.bool false, .int .i64 0, .slice none 0 0] 29)
  have Z0 := hide z0
  have F0 := hide ((Fr.refl No w).alloc (.cells #[.bool false, .int .i64 0, .slice none 0 0] 29))
  clear z0
  by_cases h2 : l.length = 2
  rotate_left
  · have e : Pu.evPrim p l c = ⟨Pu.V.zero, 5, c⟩ := by
      unfold Pu.evPrim
      split
      · exact absurd rfl h2
      · rfl
    rw [e]
    clear e
    obtain ⟨a, cp, rfl, _⟩ := hl.form
    have h2' : ((l.length : Int) != 2) = true := by simp; omega
    clear hl h2
    go_enter Tryd.func71, Tryd.ntmps71
    go_wp2_with fail
    refine bodyPost_ret (ret2 rfl _ _ w.heap.size (.bool false) (.int .i64 0) (.slice none 0 0) (.int .i64 5) (0, 0) rfl rfl Z0.out) rfl ⟨rfl, F0.out⟩
  obtain ⟨x, y, rfl⟩ : ∃ x y, l = [x, y] := by
    match l, h2 with
    | [x, y], _ => exact ⟨x, y, rfl⟩
  obtain ⟨g, o, cap, b1, m1, e1, rfl, hc1, hc2, _, hgw, hm1, _, q0, q1, q2⟩ := hl.at 0 (by simp)
  obtain ⟨g', o', cap', b2, m2, e2, hav, _, _, _, _, hm2, _, p0, p1, p2⟩ := hl.at 1 (by simp)
  injection hav with hav1 _ hav2
  injection hav1 with hav1
  injection hav1 with hg ho _
  subst hg ho hav2
  simp only [List.getElem_cons_zero, List.getElem_cons_succ, Nat.zero_mul, Nat.one_mul, Nat.add_zero] at q0 q1 q2 p0 p1 p2
  have e : Pu.evPrim p [x, y] c = if x.con = true ∨ y.con = true then ⟨Pu.V.zero, 10, c⟩ else ⟨(Pu.prim p x.n y.n).1, (Pu.prim p x.n y.n).2, c⟩ := rfl
  rw [e]
  clear e hl hm1 hm2 h2
  simp only [List.length_cons, List.length_nil] at hc1 ⊢
  unfold maxLen at hc2
  obtain ⟨bx, hbx⟩ : ∃ b, b = x.con := ⟨_, rfl⟩
  obtain ⟨by', hby⟩ : ∃ b, b = y.con := ⟨_, rfl⟩
  obtain ⟨nx, hnx⟩ : ∃ b, b = x.n := ⟨_, rfl⟩
  obtain ⟨ny, hny⟩ : ∃ b, b = y.n := ⟨_, rfl⟩
  rw [← hbx, ← hby, ← hnx, ← hny]
  rw [← hbx] at q0
  rw [← hnx] at q1
  rw [← hby] at p0
  rw [← hny] at p1
  clear hbx hby hnx hny
  cases bx with
  | true =>
    rw [if_pos (.inl rfl)]
    go_enter Tryd.func71, Tryd.ntmps71
    go_wp2_with fail
    refine bodyPost_ret (ret2 rfl _ _ w.heap.size (.bool false) (.int .i64 0) (.slice none 0 0) (.int .i64 10) (0, 0) rfl rfl Z0.out) rfl ⟨rfl, F0.out⟩
  | false =>
  cases by' with
  | true =>
    rw [if_pos (.inr rfl)]
    go_enter Tryd.func71, Tryd.ntmps71
    go_wp2_with fail
    refine bodyPost_ret (ret2 rfl _ _ w.heap.size (.bool false) (.int .i64 0) (.slice none 0 0) (.int .i64 10) (0, 0) rfl rfl Z0.out) rfl ⟨rfl, F0.out⟩
  | false =>
    rw [if_neg (by simp)]
    obtain ⟨W0, hW0⟩ : ∃ W0, W0 = w.alloc (.cells #[.bool false, .int .i64 0, .slice none 0 0] 29) := ⟨_, rfl⟩
    rw [← hW0] at Z0 F0
    have hgo : ∀ {W : World}, Fr No w W → ∀ (oo : Nat), W.cell? ⟨g, oo, none⟩ = w.cell? ⟨g, oo, none⟩ := fun hW oo => by simp only [World.cell?, hW.block g hgw (fun e => e)]
    have SA : Hid (∀ W, Fr No W0 W → (W.cell? ⟨g, o + 1, none⟩ = some (.int .i64 nx) ∧ W.cell? ⟨g, o + 3 + 1, none⟩ = some (.int .i64 ny))) := fun W hW =>
      ⟨(hgo (F0.out.trans hW) _).trans q1, (hgo (F0.out.trans hW) _).trans p1⟩
    have K3 : Hid (∀ (W : World) (u0 u1 u2 : Value), (W.cell? ⟨g, o + 1, none⟩ = some (.int .i64 nx) ∧ W.cell? ⟨g, o + 3 + 1, none⟩ = some (.int .i64 ny)) → ((((W.setCell ⟨w.heap.size, 0, none⟩ u0).setCell ⟨w.heap.size, 1, none⟩ u1).setCell ⟨w.heap.size, 2, none⟩ u2).cell? ⟨g, o + 1, none⟩ = some (.int .i64 nx) ∧ (((W.setCell ⟨w.heap.size, 0, none⟩ u0).setCell ⟨w.heap.size, 1, none⟩ u1).setCell ⟨w.heap.size, 2, none⟩ u2).cell? ⟨g, o + 3 + 1, none⟩ = some (.int .i64 ny))) := fun W u0 u1 u2 ⟨h1, h2⟩ =>
      ⟨(keep3 u0 u1 u2 (by omega)).trans h1, (keep3 u0 u1 u2 (by omega)).trans h2⟩
    obtain ⟨pv, hpv⟩ : ∃ pv, pv = Pu.prim p nx ny := ⟨_, rfl⟩
    have AP : Hid (∀ W, Fr No W0 W → Calls Tryd.prog 21 #[.int .i64 p, .int .i64 nx, .int .i64 ny] W fun e w' => e = .returned (.tuple #[.agg #[.bool pv.1.con, .int .i64 pv.1.n, .slice none 0 0], .int .i64 pv.2]) ∧ Fr No W0 w' ∧ (w'.cell? ⟨g, o + 1, none⟩ = some (.int .i64 nx) ∧ w'.cell? ⟨g, o + 3 + 1, none⟩ = some (.int .i64 ny)) ∧ w'.cell? ⟨w.heap.size, 0, none⟩ = some (.bool false) ∧ w'.cell? ⟨w.heap.size, 1, none⟩ = some (.int .i64 0) ∧ w'.cell? ⟨w.heap.size, 2, none⟩ = some (.slice none 0 0) ∧ (∀ o, w'.frozen? ⟨w.heap.size, o, none⟩ = false)) := fun W hW => by
      rw [hpv]
      refine (prim_any p nx ny W).mono ?_
      rintro e w' ⟨he, h1⟩
      have g1 := fr_heap Z0.out (hW.trans h1) (fun e => e)
      exact ⟨he, hW.trans h1, SA.out _ (hW.trans h1), cell_of_heap g1 0, cell_of_heap g1 1, cell_of_heap g1 2, frozen_of_heap g1⟩
    rw [← hpv]
    clear hpv
    have D0 : Fr No W0 W0.drew := (Fr.refl No W0).drew
    have HZ := hide (SA.out W0.drew D0)
    go_enter Tryd.func71, Tryd.ntmps71
    go_wp2_with fail
    rw [← hW0]
    clear hW0 q0 q1 q2 p0 p1 p2
    have hl0 : w.heap.size < W0.heap.size := lt_of_heap Z0.out
    go_region_held3 (fun w' : World => w'.cell? ⟨g, o + 1, none⟩ = some (.int .i64 nx) ∧ w'.cell? ⟨g, o + 3 + 1, none⟩ = some (.int .i64 ny)) (first | with_reducible assumption | with_reducible exact HZ.out | with_reducible exact K3.out _ _ _ _ (by with_reducible assumption))
      (first
        | (go_at_call 21; refine (AP.out _ ?_).mono ?_; (first | with_reducible assumption | exact D0); rintro e w5 ⟨rfl, hf5, hz5, r0, r1, r2, rz⟩))
    have g5 := fr_heap Z0.out hf5 (fun e => e)
    obtain ⟨s1, s2⟩ := set3 g5 (.bool pv.1.con) (.int .i64 pv.1.n) (.slice none 0 0)
    have F5 := hide (F0.out.trans hf5)
    clear g5 hf5 hz5 r0 r1 r2 rz AP SA K3 HZ D0
    go_wp2_with fail
    refine bodyPost_ret (ret2 rfl _ _ w.heap.size (.bool pv.1.con) (.int .i64 pv.1.n) (.slice none 0 0) (.int .i64 pv.2) (0, 0) rfl rfl s1) rfl ⟨rfl, ?_⟩
    exact F5.out.trans' s2 (fun j hj e => by have e : j = w.heap.size := e; omega)
end Go.Proofs.YtdgmengfdfkgaabDoor
