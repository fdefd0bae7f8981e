/- The document's reader: numbers; terms of one word, walked. -/
import Derived.Test.YtdcdegeeaakekacDoorP1
import Derived.Test.YtdcdegeeaakekacDoorShelf
import Derived.Lib.AtoiAllCases
import Derived.Lib.AtoiErrMem
import Derived.Lib.ItoaNum
import Derived.Test.YtdcdegeeaakekacDoorRows
import Derived.ProofKit
import Derived.LaidMore
import Derived.OpenShut
import Derived.Stop.Joined
import Derived.Stop.LaidErr
import Derived.SizedLaws
namespace Go.Proofs.YtdcdegeeaakekacDoor
open Go.RowKit Go.Maps Go.WideMaps

/-- What the listed variables hold. -/
def Env (w : World) : Prop :=
  Lib.TabIs Tryd.prog w "internal/strconv.uint64pow10" .u64 Lib.pow10Tab ∧ (∃ tp p, w.var? Tryd.prog "strconv.ErrSyntax" = some #[.iface tp p]) ∧ (∃ tp p, w.var? Tryd.prog "strconv.ErrRange" = some #[.iface tp p])

theorem var_kept {w w' : World} (name : String) (g : Nat) (hg : Tryd.prog.globalNamed name = some g) (h : w'.heap[g]? = w.heap[g]?) : w'.var? Tryd.prog name = w.var? Tryd.prog name := by
  simp only [World.var?, hg, Option.bind_some, h]
theorem named0 : Tryd.prog.globalNamed "strconv.ErrSyntax" = some 1 := by kernel_rfl
theorem named1 : Tryd.prog.globalNamed "strconv.ErrRange" = some 2 := by kernel_rfl
theorem named2 : Tryd.prog.globalNamed "internal/strconv.uint64pow10" = some 0 := by kernel_rfl
theorem Env.kept {w w' : World} (h : Env w) (hb : ∀ k, k < 3 → w'.heap[k]? = w.heap[k]?) : Env w' := by
  obtain ⟨h1, h2, h3⟩ := h
  refine ⟨?_, ?_, ?_⟩
  · unfold Lib.TabIs; rw [var_kept _ 0 named2 (hb 0 (by omega))]; exact h1
  · rw [var_kept _ 1 named0 (hb 1 (by omega))]; exact h2
  · rw [var_kept _ 2 named1 (hb 2 (by omega))]; exact h3
theorem Env.fr {T : Nat → Prop} {w w' : World} (h : Env w) (hf : Fr T w w') (h3 : 3 ≤ w.heap.size) (hT : ∀ i, i < 3 → ¬ T i) : Env w' := h.kept fun k hk => hf.block k (by omega) (hT k hk)

theorem fr_below {w w' : World} (h : Below w.heap.size w w') : Fr No w w' := ⟨h.os, h.tape, h.output, h.size, fun k hk _ => h.block k hk⟩
theorem below_grow (w : World) (k : Nat) (os : Array Obj) : Below w.heap.size w (Sort.grow (w.drewN k) os) :=
  ⟨rfl, rfl, rfl, by simp [Sort.grow, World.drewN], fun i hi => by
    show (w.heap ++ os)[i]? = _
    rw [Array.getElem?_append_left hi]⟩

theorem itoa_any (n : Int) (w : World) (h0 : -9223372036854775808 ≤ n) (h1 : n ≤ 9223372036854775807) (henv : Env w) :
    Calls Tryd.prog 76 #[.int .i64 n] w fun e w' => e = .returned (.string ⟨(Lib.itoa n).toArray⟩) ∧ Fr No w w' :=
  (Tryd.strconv_Itoa n h0 h1 w henv.1).mono fun _ _ ⟨he, k, os, hw⟩ => ⟨he, by rw [hw]; exact fr_below (below_grow w k os)⟩

/-- A number, if a word is one. -/
def number (x : ByteArray) : Int × Bool :=
  match Lib.atoiAll x.data.toList with
  | .ok v => (v, Lib.itoa v == x.toList)
  | .range => (Lib.atoiSat x.data.toList, false)
  | _ => (0, false)

theorem ret_num2 {a b : Int × Bool} (h : a = b) : Ending.returned (.tuple #[.int .i64 b.1, .bool b.2]) = .returned (.tuple #[.int .i64 a.1, .bool a.2]) := by rw [h]

set_option maxHeartbeats 400000 in
theorem number2_any (x : ByteArray) (w : World) (hx : x.size ≤ 1600) (henv : Env w) (h3 : 3 ≤ w.heap.size) :
    Calls Tryd.prog 97 #[.string x] w fun e w' => e = .returned (.tuple #[.int .i64 (number x).1, .bool (number x).2]) ∧ Fr No w w' := by
  obtain ⟨ht, ⟨tp, p, hv⟩, ⟨tp', p', hv'⟩⟩ := id henv
  have HE : Hid (Env w) := henv
  have HV := hide (hv)
  have HV' : Hid _ := hv'
  clear henv hv hv' ht
  cases h : Lib.atoiAll x.data.toList with
  | ok v =>
    have hn : Hid (number x = (v, Lib.itoa v == x.toList)) := by simp only [Hid, number, h]
    have hbd := Lib.atoiAll_bounds h
    have H := hide (h)
    clear h
    go_enter Tryd.func97, Tryd.ntmps97
    go_wp2_with fail
    refine (Tryd.strconv_Atoi_ok x (by omega) v H.out _).mono ?_
    rintro e w1 ⟨rfl, hw⟩
    have hb1 : Fr No w w1 := by
      rcases hw with rfl | ⟨t, rfl⟩
      · exact Fr.refl _ _
      · exact fr_below (Lib.bytesWorld_below _ _ _)
    have he1 := HE.out.fr hb1 h3 (fun _ _ e => e)
    have HB1 := hide hb1
    have HE1 := hide he1
    clear hw hb1 he1
    go_wp2_with fail
    refine (itoa_any v _ hbd.1 hbd.2 HE1.out).mono ?_
    rintro e w2 ⟨rfl, hb2⟩
    have HB2 := hide (HB1.out.trans hb2)
    clear hb2
    go_wp2_with fail
    go_ret2
    exact ⟨ret_num2 hn.out, HB2.out⟩
  | range =>
    have hn : Hid (number x = (Lib.atoiSat x.data.toList, false)) := by simp only [Hid, number, h]
    have H := hide (h)
    clear h
    go_enter Tryd.func97, Tryd.ntmps97
    go_wp2_with fail
    refine (Tryd.strconv_Atoi_range_var x (by omega) H.out tp' p' _ HV'.out).mono ?_
    rintro e w1 ⟨N, rfl, _, _, hb1⟩
    have HB1 : Hid (Fr No w w1) := fr_below hb1
    clear hb1
    go_wp2_with fail
    go_ret2
    exact ⟨ret_num2 hn.out, HB1.out⟩
  | _ =>
    have hn : Hid (number x = (0, false)) := by simp only [Hid, number, h]
    have H := hide (h)
    clear h
    go_enter Tryd.func97, Tryd.ntmps97
    go_wp2_with fail
    refine (Tryd.strconv_Atoi_syntax_var x (by omega) H.out tp p _ HV.out).mono ?_
    rintro e w1 ⟨N, rfl, _, _, hb1⟩
    have HB1 : Hid (Fr No w w1) := fr_below hb1
    clear hb1
    go_wp2_with fail
    go_ret2
    exact ⟨ret_num2 hn.out, HB1.out⟩

theorem itoa2 : Lib.itoa 2 = [50] := by simp [Lib.itoa, Lib.decDigits]
theorem number_2 : number ⟨#[50]⟩ = (2, true) := by
  have e : Lib.atoiAll (⟨#[50]⟩ : ByteArray).data.toList = .ok 2 := rfl
  unfold number; rw [e]; dsimp only; rw [itoa2, ByteArray.toList_eq]; rfl
theorem number_x : (number ⟨#[120]⟩).2 = false := by
  have e : (match Lib.atoiAll (⟨#[120]⟩ : ByteArray).data.toList with | .ok _ => false | _ => true) = true := rfl
  unfold number
  cases h : Lib.atoiAll (⟨#[120]⟩ : ByteArray).data.toList with
  | ok v => rw [h] at e; exact absurd (show false = true from e) (by decide)
  | range => rfl
  | _ => rfl

theorem infoT : (Tryd.prog.info? 31).map (·.size) = some 7 := by kernel_rfl
theorem retT {fn : Func} {p : Tmp} (h : fn.results = #[.cell p 31]) (tmps : Array Value) (w : World) (g : Nat) (u0 u1 u2 u3 u4 u5 u6 : Value) (z : Nat × Nat) (hp : tmps.getD p undef = .pointer (some ⟨g, 0, none⟩)) (hg : w.heap[g]? = some (.cells #[u0, u1, u2, u3, u4, u5, u6] 31 z)) :
    (results fn tmps).run Tryd.prog w = .ok (.agg #[u0, u1, u2, u3, u4, u5, u6]) w := results_cell_row h tmps w g _ _ z _ hp hg Tryd.underlying31 rfl infoT
theorem set7 {w : World} {g : Nat} {x0 x1 x2 x3 x4 x5 x6 : Value} {t : TypeId} {z : Nat × Nat} (h : w.heap[g]? = some (.cells #[x0, x1, x2, x3, x4, x5, x6] t z)) (u0 u1 u2 u3 u4 u5 u6 : Value) :
    (((((((w.setCell ⟨g, 0, none⟩ u0).setCell ⟨g, 1, none⟩ u1).setCell ⟨g, 2, none⟩ u2).setCell ⟨g, 3, none⟩ u3).setCell ⟨g, 4, none⟩ u4).setCell ⟨g, 5, none⟩ u5).setCell ⟨g, 6, none⟩ u6).heap[g]? = some (.cells #[u0, u1, u2, u3, u4, u5, u6] t z) ∧
    Fr (· = g) w (((((((w.setCell ⟨g, 0, none⟩ u0).setCell ⟨g, 1, none⟩ u1).setCell ⟨g, 2, none⟩ u2).setCell ⟨g, 3, none⟩ u3).setCell ⟨g, 4, none⟩ u4).setCell ⟨g, 5, none⟩ u5).setCell ⟨g, 6, none⟩ u6) :=
  ⟨by simp [World.setCell, Array.getElem?_modify, h], (((((((Fr.refl (· = g) w).setCell (p := ⟨g, 0, none⟩) (.inl rfl) u0).setCell (p := ⟨g, 1, none⟩) (.inl rfl) u1).setCell (p := ⟨g, 2, none⟩) (.inl rfl) u2).setCell (p := ⟨g, 3, none⟩) (.inl rfl) u3).setCell (p := ⟨g, 4, none⟩) (.inl rfl) u4).setCell (p := ⟨g, 5, none⟩) (.inl rfl) u5).setCell (p := ⟨g, 6, none⟩) (.inl rfl) u6⟩

/-- What 'Term' has laid ahead. -/
structure TAhead (w W : World) (pb : Nat) (d : Int) : Prop where
  fr : Fr No w W
  p : W.heap[w.heap.size]? = some (.cells #[.pointer (some ⟨pb, 0, none⟩)] 97 (0, 0))
  d : W.heap[w.heap.size + 1]? = some (.cells #[.int .i64 d] 3 (0, 0))
  r : W.heap[w.heap.size + 1 + 1]? = some (.cells #[.int .i64 0, .int .i64 0, .string ⟨#[]⟩, .string ⟨#[]⟩, .slice none 0 0, .slice none 0 0, .slice none 0 0] 31 (0, 0))
theorem tahead_new (w : World) (pb : Nat) (d : Int) : TAhead w (((w.alloc (.cells #[.pointer (some ⟨pb, 0, none⟩)] 97)).alloc (.cells #[.int .i64 d] 3)).alloc (.cells #[.int .i64 0, .int .i64 0, .string ⟨#[]⟩, .string ⟨#[]⟩, .slice none 0 0, .slice none 0 0, .slice none 0 0] 31)) pb d := by
  refine ⟨(((Fr.refl No w).alloc _).alloc _).alloc _, fr_heap (heap_alloc_new w _) (((Fr.refl No _).alloc _).alloc _) (fun e => e), ?_, ?_⟩
  · have h := heap_alloc_new (w.alloc (.cells #[.pointer (some ⟨pb, 0, none⟩)] 97)) (.cells #[.int .i64 d] 3)
    rw [World.size_alloc] at h
    exact fr_heap h ((Fr.refl No _).alloc _) (fun e => e)
  · have h := heap_alloc_new ((w.alloc (.cells #[.pointer (some ⟨pb, 0, none⟩)] 97)).alloc (.cells #[.int .i64 d] 3)) (.cells #[.int .i64 0, .int .i64 0, .string ⟨#[]⟩, .string ⟨#[]⟩, .slice none 0 0, .slice none 0 0, .slice none 0 0] 31)
    rw [World.size_alloc, World.size_alloc] at h
    exact h
theorem TAhead.step {w W W' : World} {pb : Nat} {d : Int} (h : TAhead w W pb d) {T : Nat → Prop} (hf : Fr T W W') (hT : ∀ i, w.heap.size ≤ i → ¬ T i) : W'.heap[w.heap.size]? = some (.cells #[.pointer (some ⟨pb, 0, none⟩)] 97 (0, 0)) ∧ W'.heap[w.heap.size + 1]? = some (.cells #[.int .i64 d] 3 (0, 0)) ∧ W'.heap[w.heap.size + 1 + 1]? = some (.cells #[.int .i64 0, .int .i64 0, .string ⟨#[]⟩, .string ⟨#[]⟩, .slice none 0 0, .slice none 0 0, .slice none 0 0] 31 (0, 0)) :=
  ⟨fr_heap h.p hf (hT _ (Nat.le_refl _)), fr_heap h.d hf (hT _ (by omega)), fr_heap h.r hf (hT _ (by omega))⟩
theorem pkb_self {S : ByteArray} {at' a k : Nat} (h : pkb S at' a k = true) : pkb S a a k = true := by
  unfold pkb at h ⊢
  simp only [Bool.and_eq_true, decide_eq_true_eq, List.all_eq_true, List.mem_range] at h ⊢
  obtain ⟨⟨⟨⟨h1, h2, h3⟩, h4⟩, h5⟩, h6⟩ := h
  exact ⟨⟨⟨⟨Nat.le_refl _, h2, h3⟩, fun j hj => by simp [hj]⟩, h5⟩, h6⟩

set_option maxRecDepth 100000 in
set_option maxHeartbeats 1000000 in
theorem leaf_two (pb : Nat) (S : ByteArray) (at' a k d : Nat) (w : World) (h : PS pb S at' 0 w) (hS : S.size ≤ 1600) (hp : pkb S at' a k = true) (hak : a < k) (hks : k ≤ S.size) (hx : wd S a k = ⟨#[50]⟩) (hd : d ≤ 24) (henv : Env w) (h3 : 3 ≤ pb) :
    Calls Tryd.prog 75 #[.pointer (some ⟨pb, 0, none⟩), .int .i64 d] w fun e w' => e = .returned (.agg #[.int .i64 2, .int .i64 2, .string ⟨#[]⟩, .string ⟨#[]⟩, .slice none 0 0, .slice none 0 0, .slice none 0 0]) ∧ Fr (· = pb) w w' ∧ PS pb S k 0 w' := by
  have hl := lt_of_heap h
  have hd' : ¬ (24 : Int) < (d : Int) := by omega
  obtain ⟨W0, hW0⟩ : ∃ W0, W0 = (((w.alloc (.cells #[.pointer (some ⟨pb, 0, none⟩)] 97)).alloc (.cells #[.int .i64 (d : Int)] 3)).alloc (.cells #[.int .i64 0, .int .i64 0, .string ⟨#[]⟩, .string ⟨#[]⟩, .slice none 0 0, .slice none 0 0, .slice none 0 0] 31)) := ⟨_, rfl⟩
  have a0 : TAhead w W0 pb d := by rw [hW0]; exact tahead_new w pb d
  have ps0 := h.fr a0.fr (fun e => e)
  have CP := peek_any pb S at' a k 0 W0 ps0 hS hp
  rw [hx] at CP
  have HCP := hide CP
  have HW0 := hide hW0
  have A0 := hide a0
  have HENV := hide henv
  have hsz0 : w.heap.size + 1 + 1 < W0.heap.size := lt_of_heap a0.r
  clear CP hW0 a0 ps0 h henv
  go_enter Tryd.func75, Tryd.ntmps75
  go_wp2_with fail
  rw [← HW0.out]
  refine HCP.out.mono ?_
  rintro e w1 ⟨rfl, hf1, ps1⟩
  obtain ⟨b0, b1, b2⟩ := A0.out.step hf1 (fun i hi e => by have e : i = pb := e; omega)
  have c0 := cell_of_heap b0 0
  have lb0 := lt_of_heap b0
  have CN := pnext_any pb S a a k 0 w1 ps1 hS (pkb_self hp) hak hks
  rw [hx] at CN
  have HCN := hide CN
  have HF1 := hide hf1
  have B2 := hide b2
  have F01 := hide ((A0.out.fr.mono (fun _ _ e => e.elim)).trans hf1)
  clear CN hf1 ps1 b0 b1 b2 HCP
  go_wp2_with fail
  refine HCN.out.mono ?_
  rintro e w2 ⟨rfl, hf2, ps2⟩
  have F02 := hide (F01.out.trans hf2)
  have b2 := fr_heap B2.out hf2 (fun e => by have e : w.heap.size + 1 + 1 = pb := e; omega)
  have B2' := hide b2
  have PS2 := hide ps2
  have env2 := HENV.out.fr F02.out (by omega) (fun i hi e => by have e : i = pb := e; omega)
  have CM := number2_any ⟨#[50]⟩ w2 (by decide) env2 (by have := F02.out.size; omega)
  obtain ⟨nm, hnm⟩ : ∃ nm, nm = number ⟨#[50]⟩ := ⟨_, rfl⟩
  rw [← hnm] at CM
  rw [number_2] at hnm
  rw [hnm] at CM
  clear hnm
  have HCM := hide CM
  clear CM b2 hf2 ps2 env2 c0 HCN
  go_wp2_with fail
  refine HCM.out.mono ?_
  rintro e w3 ⟨rfl, hf3⟩
  have g3 := fr_heap B2'.out hf3 (fun e => e)
  have F03 := hide (F02.out.no hf3)
  have PS3 := hide (PS2.out.fr hf3 (fun e => e))
  have G3 := hide g3
  have r0 := cell_of_heap g3
  have rz := frozen_of_heap g3
  have hl3 := lt_of_heap g3
  clear g3 hf3 HCM
  go_wp2_with fail
  obtain ⟨s1, s2⟩ := set7 G3.out (.int .i64 2) (.int .i64 2) (.string ⟨#[]⟩) (.string ⟨#[]⟩) (.slice none 0 0) (.slice none 0 0) (.slice none 0 0)
  refine bodyPost_ret (retT rfl _ _ (w.heap.size + 1 + 1) _ _ _ _ _ _ _ (0, 0) rfl s1) rfl ⟨rfl, ?_, ?_⟩
  · exact F03.out.trans' s2 (fun j hj e => by have e : j = w.heap.size + 1 + 1 := e; omega)
  · exact PS3.out.fr s2 (fun e => by have e : pb = w.heap.size + 1 + 1 := e; omega)

set_option maxRecDepth 100000 in
set_option maxHeartbeats 1000000 in
theorem leaf_x (pb : Nat) (S : ByteArray) (at' a k d : Nat) (w : World) (h : PS pb S at' 0 w) (hS : S.size ≤ 1600) (hp : pkb S at' a k = true) (hak : a < k) (hks : k ≤ S.size) (hx : wd S a k = ⟨#[120]⟩) (hd : d ≤ 24) (henv : Env w) (h3 : 3 ≤ pb) :
    Calls Tryd.prog 75 #[.pointer (some ⟨pb, 0, none⟩), .int .i64 d] w fun e w' => e = .returned (.agg #[.int .i64 1, .int .i64 0, .string ⟨#[120]⟩, .string ⟨#[]⟩, .slice none 0 0, .slice none 0 0, .slice none 0 0]) ∧ Fr (· = pb) w w' ∧ PS pb S k 0 w' := by
  have hl := lt_of_heap h
  have hd' : ¬ (24 : Int) < (d : Int) := by omega
  obtain ⟨W0, hW0⟩ : ∃ W0, W0 = (((w.alloc (.cells #[.pointer (some ⟨pb, 0, none⟩)] 97)).alloc (.cells #[.int .i64 (d : Int)] 3)).alloc (.cells #[.int .i64 0, .int .i64 0, .string ⟨#[]⟩, .string ⟨#[]⟩, .slice none 0 0, .slice none 0 0, .slice none 0 0] 31)) := ⟨_, rfl⟩
  have a0 : TAhead w W0 pb d := by rw [hW0]; exact tahead_new w pb d
  have ps0 := h.fr a0.fr (fun e => e)
  have CP := peek_any pb S at' a k 0 W0 ps0 hS hp
  rw [hx] at CP
  have HCP := hide CP
  have HW0 := hide hW0
  have A0 := hide a0
  have HENV := hide henv
  have hsz0 : w.heap.size + 1 + 1 < W0.heap.size := lt_of_heap a0.r
  clear CP hW0 a0 ps0 h henv
  go_enter Tryd.func75, Tryd.ntmps75
  go_wp2_with fail
  rw [← HW0.out]
  refine HCP.out.mono ?_
  rintro e w1 ⟨rfl, hf1, ps1⟩
  obtain ⟨b0, b1, b2⟩ := A0.out.step hf1 (fun i hi e => by have e : i = pb := e; omega)
  have c0 := cell_of_heap b0 0
  have lb0 := lt_of_heap b0
  have CN := pnext_any pb S a a k 0 w1 ps1 hS (pkb_self hp) hak hks
  rw [hx] at CN
  have HCN := hide CN
  have HF1 := hide hf1
  have B2 := hide b2
  have F01 := hide ((A0.out.fr.mono (fun _ _ e => e.elim)).trans hf1)
  clear CN hf1 ps1 b0 b1 b2 HCP
  go_wp2_with fail
  refine HCN.out.mono ?_
  rintro e w2 ⟨rfl, hf2, ps2⟩
  have F02 := hide (F01.out.trans hf2)
  have b2 := fr_heap B2.out hf2 (fun e => by have e : w.heap.size + 1 + 1 = pb := e; omega)
  have B2' := hide b2
  have PS2 := hide ps2
  have env2 := HENV.out.fr F02.out (by omega) (fun i hi e => by have e : i = pb := e; omega)
  have CM := number2_any ⟨#[120]⟩ w2 (by decide) env2 (by have := F02.out.size; omega)
  obtain ⟨nm, hnm⟩ : ∃ nm, nm = number ⟨#[120]⟩ := ⟨_, rfl⟩
  rw [← hnm] at CM
  have hn2 : nm.2 = false := by rw [hnm]; exact number_x
  rw [hn2] at CM
  clear hnm hn2
  have HCM := hide CM
  clear CM b2 hf2 ps2 env2 c0 HCN
  go_wp2_with fail
  refine HCM.out.mono ?_
  rintro e w3 ⟨rfl, hf3⟩
  have g3 := fr_heap B2'.out hf3 (fun e => e)
  have F03 := hide (F02.out.no hf3)
  have PS3 := hide (PS2.out.fr hf3 (fun e => e))
  have G3 := hide g3
  have r0 := cell_of_heap g3
  have rz := frozen_of_heap g3
  have hl3 := lt_of_heap g3
  clear g3 hf3 HCM
  go_wp2_with fail
  have CX := name_any ⟨#[120]⟩ w3 (by unfold maxLen; decide)
  rw [show isName ⟨#[120]⟩ = true by decide] at CX
  have HCX := hide CX
  clear CX
  refine HCX.out.mono ?_
  rintro e w4 ⟨rfl, q, rfl⟩
  go_wp2_with fail
  obtain ⟨s1, s2⟩ := set7 (w := w3.drewN q) G3.out (.int .i64 1) (.int .i64 0) (.string ⟨#[120]⟩) (.string ⟨#[]⟩) (.slice none 0 0) (.slice none 0 0) (.slice none 0 0)
  refine bodyPost_ret (retT rfl _ _ (w.heap.size + 1 + 1) _ _ _ _ _ _ _ (0, 0) rfl s1) rfl ⟨rfl, ?_, ?_⟩
  · exact (F03.out.drewN q).trans' s2 (fun j hj e => by have e : j = w.heap.size + 1 + 1 := e; omega)
  · exact (PS3.out.fr (T := No) ((Fr.refl No w3).drewN q) (fun e => e)).fr s2 (fun e => by have e : pb = w.heap.size + 1 + 1 := e; omega)
end Go.Proofs.YtdcdegeeaakekacDoor

/- What the rows list, as the walks want it; the start that fits. -/
namespace Go.Proofs.YtdcdegeeaakekacDoor
open Go.ChangeShapes Go.WideShapes Go.ChangeAt Go.WideMaps Go.WideElems Go.RowKit

abbrev laid5 : List (String × DataW Unit) := [("math/bits.deBruijn32tab", Rows.laid_math_bits_deBruijn32tab), ("math/bits.deBruijn64tab", Rows.laid_math_bits_deBruijn64tab), ("internal/strconv.uint64pow10", Rows.laid_internal_strconv_uint64pow10), ("strconv.ErrRange", Rows.laid_strconv_ErrRange), ("strconv.ErrSyntax", Rows.laid_strconv_ErrSyntax)]

theorem Tryd.own : ownKnob Tryd.prog.godebug = none := by kernel_rfl
theorem gP : (Tryd.prog.globals[0]?).map (·.type) = some 155 := by kernel_rfl
theorem gS : (Tryd.prog.globals[1]?).map (·.type) = some 134 := by kernel_rfl
theorem gR : (Tryd.prog.globals[2]?).map (·.type) = some 134 := by kernel_rfl

theorem door_met (os : Os) (args : Array Value) : laidMetH Tryd.prog laid5 ((World.doorLaid Tryd.prog 400 os).forCall (fun _ _ => 0) ⟨#[], args, []⟩).memory :=
  laidMetH_of_parts3 (fuel := 8) (laidMet_of_run' 8 (by kernel_rfl) (by kernel_rfl)) (by kernel_rfl) (by kernel_rfl)

theorem star : "*" ++ "errors.errorString" = "*errors.errorString" := by decide
theorem row117 (u : TypeId) (h : Tryd.prog.typeName? 3 u = some "*errors.errorString") : u = 168 :=
  typeName_ptr_named (nm := "errors.errorString") (by rw [star]; kernel_rfl) (by kernel_rfl) (by decide) u (by rw [star]; exact h)
theorem cells119 : Tryd.prog.cellsOf 170 = 1 := by kernel_rfl
theorem cells9' : Tryd.prog.cellsOf 9 = 1 := by kernel_rfl
theorem cells89 : Tryd.prog.cellsOf 141 = 1 := by kernel_rfl
theorem cells104 : Tryd.prog.cellsOf 155 = 20 := by kernel_rfl
theorem tab_eq : (Rows.laid_internal_strconv_uint64pow10 : DataW Unit) = Lib.tabData .u64 Lib.pow10Tab := by rfl

/-- What the listed variables give the walks. -/
theorem env_of_laid {W : World} (h : laidMetH Tryd.prog laid5 W) : Env W := by
  rw [MakeChecks.laidMetH_plain _ _ _ (by kernel_rfl)] at h
  have h2 := h.tail.tail
  refine ⟨?_, ?_, ?_⟩
  · rw [tab_eq] at h2
    exact Lib.tabIs_of_head named2 gP Tryd.underlying155 Tryd.underlying141 cells89 cells104 h2
  · obtain ⟨a, s, hv, _⟩ := laid_sentinel h2.tail.tail named0 gS Tryd.underlying134 row117 Tryd.underlying168 Tryd.underlying170 rfl rfl Tryd.underlying9 cells119 cells9'
    exact ⟨_, _, hv⟩
  · obtain ⟨a, s, hv, _⟩ := laid_sentinel h2.tail named1 gR Tryd.underlying134 row117 Tryd.underlying168 Tryd.underlying170 rfl rfl Tryd.underlying9 cells119 cells9'
    exact ⟨_, _, hv⟩
/-- There are more than three variables. -/
theorem size_of_env {W : World} (h : Env W) : 3 ≤ W.heap.size := by
  obtain ⟨_, _, ⟨tp, p, hv⟩⟩ := h
  simp only [World.var?, named1, Option.bind_some] at hv
  split at hv
  · rename_i hh
    have := (Array.getElem?_eq_some_iff.1 hh).1
    omega
  · cases hv

end Go.Proofs.YtdcdegeeaakekacDoor
