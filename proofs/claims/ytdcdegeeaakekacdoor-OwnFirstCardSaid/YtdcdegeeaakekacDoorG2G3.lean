/- The document's reader: terms of one word, in general. -/
import Derived.Test.YtdcdegeeaakekacDoorG1a
import Derived.Test.YtdcdegeeaakekacDoorG1b
namespace Go.Proofs.YtdcdegeeaakekacDoor
open Go.RowKit Go.Maps Go.WideMaps

theorem RowS.nil (S : Nat → Prop) (w : World) : RowS S w (.slice none 0 0) 0 [] := ⟨none, 0, rfl, Nat.le_refl _, Nat.zero_le _, fun h => absurd h (by omega)⟩

/-- A number, a name. -/
def lnum (K : Nat) (n : Int) : Pu.TT (K + 1) := (⟨2, n, ⟨#[]⟩, ⟨#[]⟩, [], [], []⟩ : Pu.Node (Pu.TT K))
def lname (K : Nat) (x : ByteArray) : Pu.TT (K + 1) := (⟨1, 0, x, ⟨#[]⟩, [], [], []⟩ : Pu.Node (Pu.TT K))

set_option maxRecDepth 100000 in
set_option maxHeartbeats 1000000 in
theorem leaf_num (pb : Nat) (S x : ByteArray) (n : Int) (at' a k d : Nat) (w : World) (h : PS pb S at' 0 w) (hS : S.size ≤ 1600) (hp : pkb S at' a k = true) (hak : a < k) (hks : k ≤ S.size) (hne : (!x.toList == [40]) = true) (hx : wd S a k = x) (hnum : number x = (n, true)) (hd : d ≤ 24) (henv : Env w) (h3 : 3 ≤ pb) :
    Calls Tryd.prog 75 #[.pointer (some ⟨pb, 0, none⟩), .int .i64 d] w fun e w' => e = .returned (.agg #[.int .i64 2, .int .i64 n, .string ⟨#[]⟩, .string ⟨#[]⟩, .slice none 0 0, .slice none 0 0, .slice none 0 0]) ∧ Fr (· = pb) w w' ∧ PS pb S k 0 w' := by
  have hl := lt_of_heap h
  have HNUM := hide hnum
  have hxs : x.size ≤ 1600 := by rw [← hx]; unfold wd; rw [ByteArray.size_extract]; omega
  clear hnum
  have hd' : ¬ (24 : Int) < (d : Int) := by omega
  obtain ⟨W0, hW0⟩ : ∃ W0, W0 = (((w.alloc (.cells #[.pointer (some ⟨pb, 0, none⟩)] 97)).alloc (.cells #[.int .i64 (d : Int)] 3)).alloc (.cells #[.int .i64 0, .int .i64 0, .string ⟨#[]⟩, .string ⟨#[]⟩, .slice none 0 0, .slice none 0 0, .slice none 0 0] 31)) := ⟨_, rfl⟩
  have a0 : TAhead w W0 pb d := by rw [hW0]; exact tahead_new w pb d
  have ps0 := h.fr a0.fr (fun e => e)
  have CP := peek_any pb S at' a k 0 W0 ps0 hS hp
  rw [hx] at CP
  have HCP := hide CP
  have HW0 := hide hW0
  have A0 := hide a0
  have HENV := hide henv
  have hsz0 : w.heap.size + 1 + 1 < W0.heap.size := lt_of_heap a0.r
  clear CP hW0 a0 ps0 h henv
  go_enter Tryd.func75, Tryd.ntmps75
  go_wp2_with fail
  rw [← HW0.out]
  refine HCP.out.mono ?_
  rintro e w1 ⟨rfl, hf1, ps1⟩
  obtain ⟨b0, b1, b2⟩ := A0.out.step hf1 (fun i hi e => by have e : i = pb := e; omega)
  have c0 := cell_of_heap b0 0
  have lb0 := lt_of_heap b0
  have CN := pnext_any pb S a a k 0 w1 ps1 hS (pkb_self hp) hak hks
  rw [hx] at CN
  have HCN := hide CN
  have HF1 := hide hf1
  have B2 := hide b2
  have F01 := hide ((A0.out.fr.mono (fun _ _ e => e.elim)).trans hf1)
  clear CN hf1 ps1 b0 b1 b2 HCP
  go_wp2_with fail
  refine HCN.out.mono ?_
  rintro e w2 ⟨rfl, hf2, ps2⟩
  have F02 := hide (F01.out.trans hf2)
  have b2 := fr_heap B2.out hf2 (fun e => by have e : w.heap.size + 1 + 1 = pb := e; omega)
  have B2' := hide b2
  have PS2 := hide ps2
  have env2 := HENV.out.fr F02.out (by omega) (fun i hi e => by have e : i = pb := e; omega)
  have CM := number2_any x w2 (by have := hxs; omega) env2 (by have := F02.out.size; omega)
  obtain ⟨nm, hnm⟩ : ∃ nm, nm = number x := ⟨_, rfl⟩
  rw [← hnm] at CM
  rw [HNUM.out] at hnm
  rw [hnm] at CM
  clear hnm
  have HCM := hide CM
  clear CM b2 hf2 ps2 env2 c0 HCN
  go_wp2_with fail
  refine HCM.out.mono ?_
  rintro e w3 ⟨rfl, hf3⟩
  have g3 := fr_heap B2'.out hf3 (fun e => e)
  have F03 := hide (F02.out.no hf3)
  have PS3 := hide (PS2.out.fr hf3 (fun e => e))
  have G3 := hide g3
  have r0 := cell_of_heap g3
  have rz := frozen_of_heap g3
  have hl3 := lt_of_heap g3
  clear g3 hf3 HCM
  go_wp2_with fail
  obtain ⟨s1, s2⟩ := set7 G3.out (.int .i64 2) (.int .i64 n) (.string ⟨#[]⟩) (.string ⟨#[]⟩) (.slice none 0 0) (.slice none 0 0) (.slice none 0 0)
  refine bodyPost_ret (retT rfl _ _ (w.heap.size + 1 + 1) _ _ _ _ _ _ _ (0, 0) rfl s1) rfl ⟨rfl, ?_, ?_⟩
  · exact F03.out.trans' s2 (fun j hj e => by have e : j = w.heap.size + 1 + 1 := e; omega)
  · exact PS3.out.fr s2 (fun e => by have e : pb = w.heap.size + 1 + 1 := e; omega)

set_option maxRecDepth 100000 in
set_option maxHeartbeats 1000000 in
theorem leaf_name (pb : Nat) (S x : ByteArray) (at' a k d : Nat) (w : World) (h : PS pb S at' 0 w) (hS : S.size ≤ 1600) (hp : pkb S at' a k = true) (hak : a < k) (hks : k ≤ S.size) (hne : (!x.toList == [40]) = true) (hx : wd S a k = x) (hnum : (number x).2 = false) (hnm0 : isName x = true) (hd : d ≤ 24) (henv : Env w) (h3 : 3 ≤ pb) :
    Calls Tryd.prog 75 #[.pointer (some ⟨pb, 0, none⟩), .int .i64 d] w fun e w' => e = .returned (.agg #[.int .i64 1, .int .i64 0, .string x, .string ⟨#[]⟩, .slice none 0 0, .slice none 0 0, .slice none 0 0]) ∧ Fr (· = pb) w w' ∧ PS pb S k 0 w' := by
  have hl := lt_of_heap h
  have HNUM := hide hnum
  have HNM0 := hide hnm0
  have hxs : x.size ≤ 1600 := by rw [← hx]; unfold wd; rw [ByteArray.size_extract]; omega
  clear hnum hnm0
  have hd' : ¬ (24 : Int) < (d : Int) := by omega
  obtain ⟨W0, hW0⟩ : ∃ W0, W0 = (((w.alloc (.cells #[.pointer (some ⟨pb, 0, none⟩)] 97)).alloc (.cells #[.int .i64 (d : Int)] 3)).alloc (.cells #[.int .i64 0, .int .i64 0, .string ⟨#[]⟩, .string ⟨#[]⟩, .slice none 0 0, .slice none 0 0, .slice none 0 0] 31)) := ⟨_, rfl⟩
  have a0 : TAhead w W0 pb d := by rw [hW0]; exact tahead_new w pb d
  have ps0 := h.fr a0.fr (fun e => e)
  have CP := peek_any pb S at' a k 0 W0 ps0 hS hp
  rw [hx] at CP
  have HCP := hide CP
  have HW0 := hide hW0
  have A0 := hide a0
  have HENV := hide henv
  have hsz0 : w.heap.size + 1 + 1 < W0.heap.size := lt_of_heap a0.r
  clear CP hW0 a0 ps0 h henv
  go_enter Tryd.func75, Tryd.ntmps75
  go_wp2_with fail
  rw [← HW0.out]
  refine HCP.out.mono ?_
  rintro e w1 ⟨rfl, hf1, ps1⟩
  obtain ⟨b0, b1, b2⟩ := A0.out.step hf1 (fun i hi e => by have e : i = pb := e; omega)
  have c0 := cell_of_heap b0 0
  have lb0 := lt_of_heap b0
  have CN := pnext_any pb S a a k 0 w1 ps1 hS (pkb_self hp) hak hks
  rw [hx] at CN
  have HCN := hide CN
  have HF1 := hide hf1
  have B2 := hide b2
  have F01 := hide ((A0.out.fr.mono (fun _ _ e => e.elim)).trans hf1)
  clear CN hf1 ps1 b0 b1 b2 HCP
  go_wp2_with fail
  refine HCN.out.mono ?_
  rintro e w2 ⟨rfl, hf2, ps2⟩
  have F02 := hide (F01.out.trans hf2)
  have b2 := fr_heap B2.out hf2 (fun e => by have e : w.heap.size + 1 + 1 = pb := e; omega)
  have B2' := hide b2
  have PS2 := hide ps2
  have env2 := HENV.out.fr F02.out (by omega) (fun i hi e => by have e : i = pb := e; omega)
  have CM := number2_any x w2 (by have := hxs; omega) env2 (by have := F02.out.size; omega)
  obtain ⟨nm, hnm⟩ : ∃ nm, nm = number x := ⟨_, rfl⟩
  rw [← hnm] at CM
  have hn2 : nm.2 = false := by rw [hnm]; exact HNUM.out
  rw [hn2] at CM
  clear hnm hn2
  have HCM := hide CM
  clear CM b2 hf2 ps2 env2 c0 HCN
  go_wp2_with fail
  refine HCM.out.mono ?_
  rintro e w3 ⟨rfl, hf3⟩
  have g3 := fr_heap B2'.out hf3 (fun e => e)
  have F03 := hide (F02.out.no hf3)
  have PS3 := hide (PS2.out.fr hf3 (fun e => e))
  have G3 := hide g3
  have r0 := cell_of_heap g3
  have rz := frozen_of_heap g3
  have hl3 := lt_of_heap g3
  clear g3 hf3 HCM
  go_wp2_with fail
  have CX := name_any x w3 (by unfold maxLen; omega)
  rw [HNM0.out] at CX
  have HCX := hide CX
  clear CX
  refine HCX.out.mono ?_
  rintro e w4 ⟨rfl, q, rfl⟩
  go_wp2_with fail
  obtain ⟨s1, s2⟩ := set7 (w := w3.drewN q) G3.out (.int .i64 1) (.int .i64 0) (.string x) (.string ⟨#[]⟩) (.slice none 0 0) (.slice none 0 0) (.slice none 0 0)
  refine bodyPost_ret (retT rfl _ _ (w.heap.size + 1 + 1) _ _ _ _ _ _ _ (0, 0) rfl s1) rfl ⟨rfl, ?_, ?_⟩
  · exact (F03.out.drewN q).trans' s2 (fun j hj e => by have e : j = w.heap.size + 1 + 1 := e; omega)
  · exact (PS3.out.fr (T := No) ((Fr.refl No w3).drewN q) (fun e => e)).fr s2 (fun e => by have e : pb = w.heap.size + 1 + 1 := e; omega)

theorem rd_num (K pb : Nat) (S x : ByteArray) (n : Int) (at' a k d : Nat) (hS : S.size ≤ 1600) (hp : pkb S at' a k = true) (hak : a < k) (hks : k ≤ S.size) (hne : (!x.toList == [40]) = true) (hx : wd S a k = x) (hnum : number x = (n, true)) (hwf : (Lit.int .i64 n).wf = true) (hd : d ≤ 24) : RdT (K + 1) pb S at' k d (lnum K n) := fun w h henv h3 => by
  refine (leaf_num pb S x n at' a k d w h hS hp hak hks hne hx hnum hd henv h3).mono ?_
  rintro e w' ⟨rfl, hf, hps⟩
  exact ⟨[.int .i64 2, .int .i64 n, .string ⟨#[]⟩, .string ⟨#[]⟩, .slice none 0 0, .slice none 0 0, .slice none 0 0], rfl, ⟨_, _, _, [], [], rfl, Nat.zero_le _, hwf, ⟨RowS.nil _ _, fun x hx => by simp [lnum] at hx⟩, RowS.nil _ _, rfl, RowS.nil _ _, rfl⟩, hf, hps⟩
theorem rd_name (K pb : Nat) (S x : ByteArray) (at' a k d : Nat) (hS : S.size ≤ 1600) (hp : pkb S at' a k = true) (hak : a < k) (hks : k ≤ S.size) (hne : (!x.toList == [40]) = true) (hx : wd S a k = x) (hnum : (number x).2 = false) (hnm : isName x = true) (hd : d ≤ 24) : RdT (K + 1) pb S at' k d (lname K x) := fun w h henv h3 => by
  have hxs : x.size ≤ maxLen := by rw [← hx]; unfold wd maxLen; rw [ByteArray.size_extract]; omega
  refine (leaf_name pb S x at' a k d w h hS hp hak hks hne hx hnum hnm hd henv h3).mono ?_
  rintro e w' ⟨rfl, hf, hps⟩
  exact ⟨[.int .i64 1, .int .i64 0, .string x, .string ⟨#[]⟩, .slice none 0 0, .slice none 0 0, .slice none 0 0], rfl, ⟨_, _, _, [], [], rfl, hxs, rfl, ⟨RowS.nil _ _, fun x hx => by simp [lname] at hx⟩, RowS.nil _ _, rfl, RowS.nil _ _, rfl⟩, hf, hps⟩
end Go.Proofs.YtdcdegeeaakekacDoor

/- The document's reader: a primitive of two terms. -/
namespace Go.Proofs.YtdcdegeeaakekacDoor
open Go.RowKit Go.Maps Go.WideMaps

theorem pkb_le {S : ByteArray} {at' a k : Nat} (h : pkb S at' a k = true) : at' ≤ a ∧ a ≤ k ∧ k ≤ S.size := by
  unfold pkb at h
  simp only [Bool.and_eq_true, decide_eq_true_eq] at h
  exact h.1.1.1

theorem own_rowS {S : Nat → Prop} {w : World} {base n : Nat} {v : Value} {xs : List Value} {e : TypeId} {sz : Nat} (h : w.ownsRow base e sz v n xs) (hS : ∀ g, v.ownBlock = some g → S g) : RowS S w v n xs := by
  rcases Nat.eq_zero_or_pos n with h0 | h0
  · subst h0
    rcases h.2 with ⟨rfl, _⟩ | ⟨g, cap, cur, rfl, _, _, h4, h5, _⟩
    · exact ⟨none, 0, rfl, Nat.le_refl _, Nat.zero_le _, fun h => absurd h (by omega)⟩
    · exact ⟨_, cap, rfl, h4, h5, fun h => absurd h (by omega)⟩
  · obtain ⟨g, cap, rfl, _, h2, h3, h4⟩ := own_form h h0
    exact ⟨_, cap, rfl, h3, h4, fun _ => ⟨g, 0, rfl, hS g rfl, h2, fun i hi => h.frozenAt _, fun i hi => by
      rw [Nat.zero_add]
      exact h.cellAt i (by rw [← h.1]; exact hi)⟩⟩

def nprim (K : Nat) (n : Int) (t1 t2 : Pu.TT K) : Pu.TT (K + 1) := (⟨5, n, ⟨#[]⟩, ⟨#[]⟩, [], [t1, t2], []⟩ : Pu.Node (Pu.TT K))

set_option maxRecDepth 100000 in
set_option maxHeartbeats 4000000 in
theorem rd_plus (K pb : Nat) (S : ByteArray) (at' a b c k f d : Nat) (t1 t2 : Pu.TT K) (hS : S.size ≤ 1600) (hp : pkb S at' a (a + 1) = true) (hx : wd S a (a + 1) = ⟨#[40]⟩) (hp2 : pkb S (a + 1) b (b + 1) = true) (hx2 : wd S b (b + 1) = ⟨#[43]⟩) (hb : b + 1 ≤ S.size)
    (hr1 : RdT K pb S (b + 1) c (d + 1) t1) (hr2 : RdT K pb S c k (d + 1) t2) (hp3 : pkb S k f (f + 1) = true) (hx3 : wd S f (f + 1) = ⟨#[41]⟩) (hf : f + 1 ≤ S.size) (hd : d ≤ 24) : RdT (K + 1) pb S at' (f + 1) d (nprim K 1 t1 t2) := by
  intro w h henv h3
  have hl := lt_of_heap h
  have hd' : ¬ (24 : Int) < (d : Int) := by omega
  obtain ⟨W0, hW0⟩ : ∃ W0, W0 = (((w.alloc (.cells #[.pointer (some ⟨pb, 0, none⟩)] 97)).alloc (.cells #[.int .i64 (d : Int)] 3)).alloc (.cells #[.int .i64 0, .int .i64 0, .string ⟨#[]⟩, .string ⟨#[]⟩, .slice none 0 0, .slice none 0 0, .slice none 0 0] 31)) := ⟨_, rfl⟩
  have a0 : TAhead w W0 pb d := by rw [hW0]; exact tahead_new w pb d
  have ps0 := h.fr a0.fr (fun e => e)
  have CP := peek_any pb S at' a (a + 1) 0 W0 ps0 hS hp
  rw [hx] at CP
  have HCP := hide CP
  have CN : Hid (∀ W, PS pb S a 0 W → Calls Tryd.prog 95 #[.pointer (some ⟨pb, 0, none⟩)] W fun r w' => r = .returned (.string ⟨#[40]⟩) ∧ Fr (· = pb) W w' ∧ PS pb S (a + 1) 0 w') := fun W hW => by
    rw [← hx]; exact pnext_any pb S a a (a + 1) 0 W hW hS (pkb_self hp) (by omega) (by have := pkb_le hp2; omega)
  have CP2 : Hid (∀ W, PS pb S (a + 1) 0 W → Calls Tryd.prog 70 #[.pointer (some ⟨pb, 0, none⟩)] W fun r w' => r = .returned (.string ⟨#[43]⟩) ∧ Fr (· = pb) W w' ∧ PS pb S b 0 w') := fun W hW => by
    rw [← hx2]; exact peek_any pb S (a + 1) b (b + 1) 0 W hW hS hp2
  have CN2 : Hid (∀ W, PS pb S b 0 W → Calls Tryd.prog 95 #[.pointer (some ⟨pb, 0, none⟩)] W fun r w' => r = .returned (.string ⟨#[43]⟩) ∧ Fr (· = pb) W w' ∧ PS pb S (b + 1) 0 w') := fun W hW => by
    rw [← hx2]; exact pnext_any pb S b b (b + 1) 0 W hW hS (pkb_self hp2) (by omega) hb
  have CW : Hid (∀ W, PS pb S k 0 W → Calls Tryd.prog 71 #[.pointer (some ⟨pb, 0, none⟩), .string ⟨#[41]⟩] W fun r w' => r = .returned (.tuple #[]) ∧ Fr (· = pb) W w' ∧ PS pb S (f + 1) 0 w') := fun W hps => pwant_any pb S ⟨#[41]⟩ k f (f + 1) 0 W hps hS hp3 (by omega) hf hx3
  have HW0 := hide hW0
  have A0 := hide a0
  have HENV := hide henv
  have hsz0 : w.heap.size + 1 + 1 < W0.heap.size := lt_of_heap a0.r
  have HR1 := hide hr1
  have HR2 := hide hr2
  clear CP hW0 a0 ps0 h henv hp hx hp2 hx2 hb hr1 hr2 hp3 hx3 hf
  go_enter Tryd.func75, Tryd.ntmps75
  go_wp2_with fail
  rw [← HW0.out]
  refine HCP.out.mono ?_
  rintro e w1 ⟨rfl, hf1, ps1⟩
  obtain ⟨b0, b1, b2⟩ := A0.out.step hf1 (fun i hi e => by have e : i = pb := e; omega)
  have c0 := cell_of_heap b0 0
  have lb0 := lt_of_heap b0
  have BB := hide (And.intro b0 (And.intro b1 b2))
  have PS1 := hide ps1
  have F01 := hide ((A0.out.fr.mono (fun _ _ e => e.elim)).trans hf1)
  clear hf1 ps1 b0 b1 b2 HCP
  go_wp2_with fail
  refine (CN.out _ PS1.out).mono ?_
  rintro e w2 ⟨rfl, hf2, ps2⟩
  obtain ⟨b0, b1, b2⟩ := BB.out
  have g0 := fr_heap b0 hf2 (fun e => by have e : w.heap.size = pb := e; omega)
  have g1 := fr_heap b1 hf2 (fun e => by have e : w.heap.size + 1 = pb := e; omega)
  have g2 := fr_heap b2 hf2 (fun e => by have e : w.heap.size + 1 + 1 = pb := e; omega)
  have BB2 := hide (And.intro g0 (And.intro g1 g2))
  have PS2 := hide ps2
  have F02 := hide (F01.out.trans hf2)
  clear c0 lb0 b0 b1 b2 hf2 ps2 BB F01 PS1
  have c0 := cell_of_heap g0 0
  have lb0 := lt_of_heap g0
  clear g0 g1 g2
  go_wp2_with fail
  refine (CP2.out _ PS2.out).mono ?_
  rintro e w3 ⟨rfl, hf3, ps3⟩
  obtain ⟨b0, b1, b2⟩ := BB2.out
  have g0 := fr_heap b0 hf3 (fun e => by have e : w.heap.size = pb := e; omega)
  have g1 := fr_heap b1 hf3 (fun e => by have e : w.heap.size + 1 = pb := e; omega)
  have g2 := fr_heap b2 hf3 (fun e => by have e : w.heap.size + 1 + 1 = pb := e; omega)
  have BB3 := hide (And.intro g0 (And.intro g1 g2))
  have PS3 := hide ps3
  have F03 := hide (F02.out.trans hf3)
  clear c0 lb0 b0 b1 b2 hf3 ps3 BB2 F02 PS2 g0 g1 g2
  go_wp2_with fail
  obtain ⟨W4, hW4⟩ : ∃ W4, W4 = ((w3.alloc (.cells #[.int .i64 0, .int .i64 0, .string ⟨#[]⟩, .string ⟨#[]⟩, .slice none 0 0, .slice none 0 0, .slice none 0 0] 31)).alloc (.cells #[.string ⟨#[43]⟩, .string ⟨#[45]⟩, .string ⟨#[42]⟩, .string ⟨#[60]⟩, .string ⟨#[61]⟩] 9)) := ⟨_, rfl⟩
  rw [← hW4]
  obtain ⟨b0, b1, b2⟩ := BB3.out
  have l3 := lt_of_heap b2
  have f34 : Fr No w3 W4 := by rw [hW4]; exact ((Fr.refl No w3).alloc _).alloc _
  have t4 : W4.heap[w3.heap.size]? = some (.cells #[.int .i64 0, .int .i64 0, .string ⟨#[]⟩, .string ⟨#[]⟩, .slice none 0 0, .slice none 0 0, .slice none 0 0] 31 (0, 0)) := by rw [hW4]; exact fr_heap (heap_alloc_new w3 _) ((Fr.refl No _).alloc _) (fun e => e)
  have s4 : W4.heap[w3.heap.size + 1]? = some (.cells #[.string ⟨#[43]⟩, .string ⟨#[45]⟩, .string ⟨#[42]⟩, .string ⟨#[60]⟩, .string ⟨#[61]⟩] 9 (0, 0)) := by
    rw [hW4]
    have h := heap_alloc_new (w3.alloc (.cells #[.int .i64 0, .int .i64 0, .string ⟨#[]⟩, .string ⟨#[]⟩, .slice none 0 0, .slice none 0 0, .slice none 0 0] 31)) (.cells #[.string ⟨#[43]⟩, .string ⟨#[45]⟩, .string ⟨#[42]⟩, .string ⟨#[60]⟩, .string ⟨#[61]⟩] 9)
    rw [World.size_alloc] at h
    exact h
  have g0 := fr_heap b0 f34 (fun e => e)
  have g1 := fr_heap b1 f34 (fun e => e)
  have g2 := fr_heap b2 f34 (fun e => e)
  have c0 : W4.cell? ⟨w.heap.size, 0, none⟩ = some (.pointer (some ⟨pb, 0, none⟩)) := cell_of_heap g0 0
  have S4 := hide s4
  have T4 := hide t4
  have BB4 := hide (And.intro g0 (And.intro g1 g2))
  have PS4 := hide (PS3.out.fr f34 (fun e => e))
  have F04 := hide (F03.out.no f34)
  have l4 := lt_of_heap s4
  clear hW4 b0 b1 b2 f34 t4 s4 g0 g1 g2 BB3 PS3 F03
  go_loop [10, 47] (fun p q => (q = .int .i64 0 ∧ p = .int .i64 0) ∨ (q = .int .i64 1 ∧ p = .int .i64 1) ∨ (q = .int .i64 2 ∧ p = .int .i64 1) ∨ (q = .int .i64 3 ∧ p = .int .i64 1) ∨ (q = .int .i64 4 ∧ p = .int .i64 1) ∨ (q = .int .i64 5 ∧ p = .int .i64 1)) (fun _ q => 5 - (intOf q).toNat)
  case atStart => exact .inl ⟨rfl, rfl⟩
  case round =>
    rcases hrel with ⟨rfl, rfl⟩ | ⟨rfl, rfl⟩ | ⟨rfl, rfl⟩ | ⟨rfl, rfl⟩ | ⟨rfl, rfl⟩ | ⟨rfl, rfl⟩
    · have sc : W4.cell? ⟨w3.heap.size + 1, 0, none⟩ = some (.string ⟨#[43]⟩) := cell_of_heap S4.out 0
      go_wp2_with fail
      go_round
      case rel => exact .inr (.inl ⟨rfl, rfl⟩)
      case measure => decide
    · have sc : W4.cell? ⟨w3.heap.size + 1, 1, none⟩ = some (.string ⟨#[45]⟩) := cell_of_heap S4.out 1
      go_wp2_with fail
      go_round
      case rel => exact .inr (.inr (.inl ⟨rfl, rfl⟩))
      case measure => decide
    · have sc : W4.cell? ⟨w3.heap.size + 1, 2, none⟩ = some (.string ⟨#[42]⟩) := cell_of_heap S4.out 2
      go_wp2_with fail
      go_round
      case rel => exact .inr (.inr (.inr (.inl ⟨rfl, rfl⟩)))
      case measure => decide
    · have sc : W4.cell? ⟨w3.heap.size + 1, 3, none⟩ = some (.string ⟨#[60]⟩) := cell_of_heap S4.out 3
      go_wp2_with fail
      go_round
      case rel => exact .inr (.inr (.inr (.inr (.inl ⟨rfl, rfl⟩))))
      case measure => decide
    · have sc : W4.cell? ⟨w3.heap.size + 1, 4, none⟩ = some (.string ⟨#[61]⟩) := cell_of_heap S4.out 4
      go_wp2_with fail
      go_round
      case rel => exact .inr (.inr (.inr (.inr (.inr (⟨rfl, rfl⟩)))))
      case measure => decide
    · go_wp2_with fail
      refine (CN2.out _ PS4.out).mono ?_
      rintro e w5 ⟨rfl, hf5, ps5⟩
      have t5 := fr_heap T4.out hf5 (fun e => by have e : w3.heap.size = pb := e; omega)
      obtain ⟨b0, b1, b2⟩ := BB4.out
      have g0 := fr_heap b0 hf5 (fun e => by have e : w.heap.size = pb := e; omega)
      have g1 := fr_heap b1 hf5 (fun e => by have e : w.heap.size + 1 = pb := e; omega)
      have g2 := fr_heap b2 hf5 (fun e => by have e : w.heap.size + 1 + 1 = pb := e; omega)
      have T5 := hide t5
      have BB5 := hide (And.intro g0 (And.intro g1 g2))
      have PS5 := hide ps5
      have F05 := hide (F04.out.trans hf5)
      have rz := frozen_of_heap t5
      have r0 : w5.cell? ⟨w3.heap.size, 0, none⟩ = some (.int .i64 0) := cell_of_heap t5 0
      have r1 : w5.cell? ⟨w3.heap.size, 1, none⟩ = some (.int .i64 0) := cell_of_heap t5 1
      have l5 := lt_of_heap t5
      clear b0 b1 b2 g0 g1 g2 t5 ps5 hf5 BB4 T4 PS4 F04 S4 c0 HW0 A0
      go_wp2_with fail
      obtain ⟨W6, hW6⟩ : ∃ W6, W6 = (w5.setCell ⟨w3.heap.size, 0, none⟩ (.int .i64 5)).setCell ⟨w3.heap.size, 1, none⟩ (.int .i64 1) := ⟨_, rfl⟩
      rw [← hW6]
      have f56 : Fr (· = w3.heap.size) w5 W6 := by rw [hW6]; exact ((Fr.refl (· = w3.heap.size) w5).setCell (p := ⟨w3.heap.size, 0, none⟩) (.inl rfl) _).setCell (p := ⟨w3.heap.size, 1, none⟩) (.inl rfl) _
      have t6 : W6.heap[w3.heap.size]? = some (.cells (tmCells 5 1 ⟨#[]⟩ (.slice none 0 0) (.slice none 0 0)) 31 (0, 0)) := by rw [hW6]; simp [World.setCell, Array.getElem?_modify, T5.out, tmCells]
      have F06 : Fr (· = pb) w W6 := F05.out.trans' f56 (fun i hi e => by have e : i = w3.heap.size := e; omega)
      have env6 := HENV.out.fr F06 (by omega) (fun i hi e => by have e : i = pb := e; omega)
      have ps6 := PS5.out.fr f56 (fun e => by have e : pb = w3.heap.size := e; omega)
      obtain ⟨b0, b1, b2⟩ := BB5.out
      have x6 := fr_heap b0 f56 (fun e => by have e : w.heap.size = w3.heap.size := e; omega)
      have d6 := fr_heap b1 f56 (fun e => by have e : w.heap.size + 1 = w3.heap.size := e; omega)
      have q6 := fr_heap b2 f56 (fun e => by have e : w.heap.size + 1 + 1 = w3.heap.size := e; omega)
      have l6 := lt_of_heap t6
      refine (arg_0 K W6.heap.size w3.heap.size w.heap.size (w.heap.size + 1) pb S (b + 1) c d 5 1 ⟨#[]⟩ (.slice none 0 0) (.slice none 0 0) [] t1 W6 HR1.out ps6 env6 h3 t6 x6 d6 (ArgsAt.nil K _ W6) rfl (Nat.le_refl _) (by omega) (by omega) (by omega) (by omega) (by omega) (by omega) (by omega) ⟨by omega, by omega⟩ (by omega)).mono ?_
      rintro e w7 ⟨rfl, f67, ps7, v7, t7, ar7⟩
      have F67 : Fr (fun i => i = pb ∨ i = w3.heap.size) W6 w7 := f67.mono (fun i _ e => by
        rcases e with e | e | e
        · exact .inl e
        · exact .inr e
        · have e : (none : Option Nat) = some i := e
          cases e)
      have x7 := fr_heap x6 F67 (fun e => by rcases e with e | e <;> omega)
      have d7 := fr_heap d6 F67 (fun e => by rcases e with e | e <;> omega)
      have q7 := fr_heap q6 F67 (fun e => by rcases e with e | e <;> omega)
      have F07 : Fr (· = pb) w w7 := F06.trans' F67 (fun i hi e => by
        rcases e with e | e
        · exact e
        · omega)
      have H7 := hide (And.intro x7 (And.intro d7 (And.intro q7 (And.intro t7 (And.intro ps7 (And.intro ar7 (And.intro F07 F67.size)))))))
      clear f56 t6 F06 env6 ps6 b0 b1 b2 x6 d6 q6 f67 ps7 t7 ar7 F67 x7 d7 q7 F07 BB5 PS5 F05 T5 rz r0 r1 hW6
      go_wp2_with fail
      obtain ⟨x7, d7, q7, t7, ps7, ar7, F07, s7⟩ := H7.out
      have env7 := HENV.out.fr F07 (by omega) (fun i hi e => by have e : i = pb := e; omega)
      refine (arg_1 K W6.heap.size w3.heap.size w.heap.size (w.heap.size + 1) pb S c k d 5 1 ⟨#[]⟩ v7 (.slice none 0 0) [t1] t2 w7 HR2.out ps7 env7 h3 t7 x7 d7 ar7 rfl s7 (by omega) (by omega) (by omega) (by omega) (by omega) (by omega) (by omega) ⟨by omega, by omega⟩ (by omega)).mono ?_
      rintro e w8 ⟨rfl, f78, ps8, v8, t8, ar8⟩
      obtain ⟨xs7, ho7, _⟩ := ar7
      have hv7 : ∀ i, v7.ownBlock = some i → W6.heap.size ≤ i := fun i e => (ho7.lt i e).1
      have x8 := fr_heap x7 f78 (fun e => by
        rcases e with e | e | e
        · omega
        · omega
        · have := hv7 _ e; omega)
      have q8 := fr_heap q7 f78 (fun e => by
        rcases e with e | e | e
        · omega
        · omega
        · have := hv7 _ e; omega)
      have F08 : Fr (· = pb) w w8 := F07.trans' f78 (fun i hi e => by
        rcases e with e | e | e
        · exact e
        · omega
        · have := hv7 _ e; omega)
      have c8 : w8.cell? ⟨w.heap.size, 0, none⟩ = some (.pointer (some ⟨pb, 0, none⟩)) := cell_of_heap x8 0
      have l8 := lt_of_heap x8
      have s8 := Nat.le_trans s7 f78.size
      have H8 := hide (And.intro q8 (And.intro t8 (And.intro ps8 (And.intro ar8 (And.intro F08 s8)))))
      clear x7 d7 q7 t7 ps7 F07 s7 env7 f78 ps8 t8 ar8 ho7 hv7 x8 q8 F08 H7 s8
      go_wp2_with fail
      refine (CW.out _ H8.out.2.2.1).mono ?_
      rintro e w9 ⟨rfl, hf9, ps9⟩
      obtain ⟨q8, t8, ps8, ar8, F08, s8⟩ := H8.out
      obtain ⟨xs8, ho8, he8⟩ := ar8
      obtain ⟨va, vc, rfl⟩ := row_form ho8
      have t9 := fr_heap t8 hf9 (fun e => by have e : w3.heap.size = pb := e; omega)
      have q9 := fr_heap q8 hf9 (fun e => by have e : w.heap.size + 1 + 1 = pb := e; omega)
      have ho9 := row_fr ho8 hf9 (fun g hg e => by have := (ho8.lt g hg).1; have e : g = pb := e; omega)
      have H9 := hide (And.intro q9 (And.intro t9 (And.intro ps9 (And.intro ho9 (And.intro (F08.trans hf9) (And.intro s8 (And.intro he8 hf9)))))))
      have r0 : w9.cell? ⟨w3.heap.size, 0, none⟩ = some (.int .i64 5) := cell_of_heap t9 0
      have r1 : w9.cell? ⟨w3.heap.size, 1, none⟩ = some (.int .i64 1) := cell_of_heap t9 1
      have r2 : w9.cell? ⟨w3.heap.size, 2, none⟩ = some (.string ⟨#[]⟩) := cell_of_heap t9 2
      have r3 : w9.cell? ⟨w3.heap.size, 3, none⟩ = some (.string ⟨#[]⟩) := cell_of_heap t9 3
      have r4 : w9.cell? ⟨w3.heap.size, 4, none⟩ = some (.slice none 0 0) := cell_of_heap t9 4
      have r5 : w9.cell? ⟨w3.heap.size, 5, none⟩ = some (.slice va 2 vc) := cell_of_heap t9 5
      have r6 : w9.cell? ⟨w3.heap.size, 6, none⟩ = some (.slice none 0 0) := cell_of_heap t9 6
      have z0 := cell_of_heap q9
      have zf := frozen_of_heap q9
      have l9 := lt_of_heap t9
      have lq9 := lt_of_heap q9
      clear q8 t8 ps8 F08 s8 ho8 he8 t9 q9 ho9 hf9 ps9 H8 c8 l8
      go_wp2_with fail
      obtain ⟨q9, t9, ps9, ho9, F09, s8, he8, hf9⟩ := H9.out
      obtain ⟨s1, s2⟩ := set7 q9 (.int .i64 5) (.int .i64 1) (.string ⟨#[]⟩) (.string ⟨#[]⟩) (.slice none 0 0) (.slice va 2 vc) (.slice none 0 0)
      refine bodyPost_ret (retT rfl _ _ (w.heap.size + 1 + 1) _ _ _ _ _ _ _ (0, 0) rfl s1) rfl ⟨[.int .i64 5, .int .i64 1, .string ⟨#[]⟩, .string ⟨#[]⟩, .slice none 0 0, .slice va 2 vc, .slice none 0 0], rfl, ?_, ?_, ?_⟩
      · have z1 := s2.size
        have z2 := hf9.size
        refine ⟨.slice none 0 0, .slice va 2 vc, .slice none 0 0, xs8, [], rfl, Nat.zero_le _, rfl, ⟨RowS.nil _ _, fun x hx => by simp [nprim] at hx⟩, ?_, ?_, RowS.nil _ _, rfl⟩
        · refine own_rowS (row_fr ho9 s2 (fun g hg e => by have := (ho9.lt g hg).1; have e : g = w.heap.size + 1 + 1 := e; omega)) (fun g hg => ?_)
          have := ho9.lt g hg
          exact ⟨by omega, by omega⟩
        · refine he8.mono fun _ _ h => h.kept ⟨by omega, fun g hg hl => ⟨⟨by omega, by omega⟩, ?_⟩⟩
          exact (s2.block g (by omega) (fun e => by have e : g = w.heap.size + 1 + 1 := e; omega)).trans (hf9.block g hl (fun e => by have e : g = pb := e; omega))
      · exact F09.trans' s2 (fun j hj e => by have e : j = w.heap.size + 1 + 1 := e; omega)
      · exact ps9.fr s2 (fun e => by have e : pb = w.heap.size + 1 + 1 := e; omega)
end Go.Proofs.YtdcdegeeaakekacDoor
