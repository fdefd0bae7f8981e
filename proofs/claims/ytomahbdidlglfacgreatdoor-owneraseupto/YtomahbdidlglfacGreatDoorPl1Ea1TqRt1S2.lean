/- The document's Plain of a function, walked. -/
import Derived.Test.YtomahbdidlglfacGreatDoorPw6Pw7
import Derived.Test.YtomahbdidlglfacGreatDoorOt1Er2Er3Td0
import Derived.Test.YtomahbdidlglfacGreatDoorN1PcW3W4C2S1L2
namespace Go.Proofs.YtomahbdidlglfacGreatDoor
open Go.RowKit Go.Maps Go.WideMaps

/-- A function of which only the weight is told. -/
def PF (k : Nat) (S : Nat → Prop) (w : World) (cs : List Value) (x : Nat) : Prop :=
  ∃ nm na nc ns b m, cs = .string nm :: .slice na ns.length nc :: b ∧ nm.size ≤ maxLen ∧ NamesP S w (.slice na ns.length nc) ns ∧ b.length = 7 ∧ PT k S w b m ∧ x = 1 + ns.length + m

set_option maxRecDepth 100000 in
set_option maxHeartbeats 8000000 in
theorem plain_any (k B : Nat) (f : Pu.Fn k) (w : World) (cs : List Value) (hf : RF k B w cs f) (hB : B ≤ w.heap.size) (hq : Pq k f.2.2) (h3 : 3 ≤ w.heap.size) (henv : Env w) (hw : wf f ≤ 536870912) (S : Nat → Prop) (hS : ∀ g, w.heap.size ≤ g → S g) (hSB : ∀ g, g < B → S g) :
    Calls Tryz.prog 13 #[.agg cs.toArray] w fun e w' => ∃ cs', e = .returned (.agg cs'.toArray) ∧ Fr No w w' ∧ ∃ k' x, PF k' S w' cs' x ∧ x ≤ 4 * wf f := by
  have hwf : wf f = 1 + f.2.1.length + Pu.wt k f.2.2 := rfl
  obtain ⟨pv, b, rfl, hnm, hpar, hbl, hrt⟩ := hf
  obtain ⟨pa, pc, rfl, _, hpc⟩ := hpar.1.form
  obtain ⟨kA, nA, xA, yA, a0, m0, c0, a1, m1, c1, a2, m2, c2, rfl⟩ := hrt.form
  obtain ⟨W0, hW0⟩ : ∃ W0, W0 = ((w.alloc (.cells #[.string f.1, .slice pa f.2.1.length pc, .int .i64 kA, .int .i64 nA, .string xA, .string yA, .slice a0 m0 c0, .slice a1 m1 c1, .slice a2 m2 c2] 34)).alloc (.cells fnZero 34)) := ⟨_, rfl⟩
  have f0 : Fr No w W0 := by rw [hW0]; exact ((Fr.refl No w).alloc _).alloc _
  have b1 : W0.heap[w.heap.size + 1]? = some (.cells fnZero 34 (0, 0)) := by
    have h := heap_alloc_new (w.alloc (.cells #[.string f.1, .slice pa f.2.1.length pc, .int .i64 kA, .int .i64 nA, .string xA, .string yA, .slice a0 m0 c0, .slice a1 m1 c1, .slice a2 m2 c2] 34)) (.cells fnZero 34)
    rw [World.size_alloc] at h
    rw [hW0]; exact h
  have hs0 : W0.heap.size = w.heap.size + 2 := by rw [hW0]; simp
  have hrf0 : RF k B W0 (.string f.1 :: .slice pa f.2.1.length pc :: [.int .i64 kA, .int .i64 nA, .string xA, .string yA, .slice a0 m0 c0, .slice a1 m1 c1, .slice a2 m2 c2]) f := ⟨_, _, rfl, hnm, hpar.kept (f0.old hB (fun _ _ e => e)) (Nat.le_refl _) f0.size, rfl, hrt.kept (f0.old hB (fun _ _ e => e)) (Nat.le_refl _) f0.size⟩
  obtain ⟨S1, hS1⟩ : ∃ S1 : Nat → Prop, S1 = fun g => S g ∧ g ≠ w.heap.size + 1 := ⟨_, rfl⟩
  have HSE : Hid (∀ g, S1 g → S g ∧ g ≠ w.heap.size + 1) := fun g hg => by rw [hS1] at hg; exact hg
  have HST : Hid (∀ g, w.heap.size + 2 ≤ g → S1 g) := fun g hg => by rw [hS1]; exact ⟨hS g (by omega), by omega⟩
  have CN := hide (named_any k B f W0 _ hrf0 (by omega) hq (by omega) (henv.fr f0 h3 (fun _ _ e => e)) hw S1 (fun g hg => HST.out g (by omega)) (fun g hg => by rw [hS1]; exact ⟨hSB g hg, by omega⟩))
  have CW : Hid (∀ (wb K : Nat) (S2 : Nat → Prop) (W : World) (cs : List Value) (m : Nat), (∀ g, W.heap.size ≤ g → S2 g) → ¬ S2 wb → W.heap[wb]? = some (.cells #[.int .i64 (K : Int)] 71 (0, 0)) → w.heap.size ≤ wb → Fr No w W → PT k S2 W cs m → K + m ≤ 1073741824 →
      Calls Tryz.prog 36 #[.pointer (some ⟨wb, 0, none⟩), .agg cs.toArray] W fun e w' => ∃ kD nD xD yD s0 u0 f0 s1 u1 f1 s2 u2 f2, e = .returned (.agg #[.int .i64 kD, .int .i64 nD, .string xD, .string yD, .slice s0 u0 f0, .slice s1 u1 f1, .slice s2 u2 f2]) ∧ Fr (· = wb) W w' ∧ ∃ k' m', PT k' S2 w' [.int .i64 kD, .int .i64 nD, .string xD, .string yD, .slice s0 u0 f0, .slice s1 u1 f1, .slice s2 u2 f2] m' ∧ m' + 2 ≤ 4 * m) := fun wb K S2 W cs m h1 h2 hb h4 hf hp hk => by
    refine (wterm_all k wb K S2 W cs m h1 h2 hb (by omega) (henv.fr hf h3 (fun _ _ e => e)) hp hk).mono fun e w' ⟨cs', he, hf', _, k', m', hp', hm'⟩ => ?_
    obtain ⟨kD, nD, xD, yD, s0, u0, f0, s1, u1, f1, s2, u2, f2, rfl⟩ := hp'.form
    exact ⟨kD, nD, xD, yD, s0, u0, f0, s1, u1, f1, s2, u2, f2, he, hf', k', m', hp', hm'⟩
  have HW0 := hide hW0
  have F0 := hide f0
  have B1 := hide b1
  have HS0 := hide hs0
  have HNM := hide hnm
  have HWF := hide (And.intro hwf hw)
  clear hW0 f0 b1 hs0 hrf0 hS1 hS hSB hnm hpar hrt hq henv hbl hB hwf hw
  unfold maxLen at hpc
  show Calls Tryz.prog 13 #[.agg #[.string f.1, .slice pa f.2.1.length pc, .int .i64 kA, .int .i64 nA, .string xA, .string yA, .slice a0 m0 c0, .slice a1 m1 c1, .slice a2 m2 c2]] w _
  go_enter Tryz.func13, Tryz.ntmps13
  go_wp2_with fail
  rw [← HW0.out]
  refine CN.out.mono ?_
  rintro e w2 ⟨na, nc, kC, nC, xC, yC, r0, p0, d0, r1, p1, d1, r2, p2, d2, rfl, hf2, ns, m, hnp, hnl, hp2, hm2⟩
  have g1 := fr_heap B1.out hf2 (fun e => e)
  have hsz2 : w.heap.size + 2 ≤ w2.heap.size := by have := HS0.out; have := hf2.size; omega
  obtain ⟨W1, hW1⟩ : ∃ W1, W1 = (w2.alloc (.cells #[.string f.1, .slice na f.2.1.length nc, .int .i64 kC, .int .i64 nC, .string xC, .string yC, .slice r0 p0 d0, .slice r1 p1 d1, .slice r2 p2 d2] 34)).alloc (.cells #[.int .i64 0] 71) := ⟨_, rfl⟩
  have f1 : Fr No w2 W1 := by rw [hW1]; exact ((Fr.refl No w2).alloc _).alloc _
  have bg : W1.heap[w2.heap.size]? = some (.cells #[.string f.1, .slice na f.2.1.length nc, .int .i64 kC, .int .i64 nC, .string xC, .string yC, .slice r0 p0 d0, .slice r1 p1 d1, .slice r2 p2 d2] 34 (0, 0)) := by rw [hW1]; exact fr_heap (heap_alloc_new w2 _) ((Fr.refl No _).alloc _) (fun e => e)
  have bw : W1.heap[w2.heap.size + 1]? = some (.cells #[.int .i64 ((0 : Nat) : Int)] 71 (0, 0)) := by
    have h := heap_alloc_new (w2.alloc (.cells #[.string f.1, .slice na f.2.1.length nc, .int .i64 kC, .int .i64 nC, .string xC, .string yC, .slice r0 p0 d0, .slice r1 p1 d1, .slice r2 p2 d2] 34)) (.cells #[.int .i64 0] 71)
    rw [World.size_alloc] at h
    rw [hW1]; exact h
  have hs1 : W1.heap.size = w2.heap.size + 2 := by rw [hW1]; simp
  obtain ⟨S2, hS2⟩ : ∃ S2 : Nat → Prop, S2 = fun g => S1 g ∧ g ≠ w2.heap.size ∧ g ≠ w2.heap.size + 1 := ⟨_, rfl⟩
  have HS2 := hide hS2
  have st2 : ∀ W, Fr No w2 W → Stays S1 S2 w2 W := fun W hW => ⟨hW.size, fun g hg hl => ⟨by rw [hS2]; exact ⟨hg, by omega, by omega⟩, hW.block g hl (fun e => e)⟩⟩
  have fwW : Fr No w W1 := (F0.out.trans hf2).trans f1
  have CT1 := hide (CW.out (w2.heap.size + 1) 0 S2 W1 [.int .i64 kC, .int .i64 nC, .string xC, .string yC, .slice r0 p0 d0, .slice r1 p1 d1, .slice r2 p2 d2] m (fun g hg => by rw [hS2]; exact ⟨HST.out g (by omega), by omega, by omega⟩) (fun h => by rw [hS2] at h; exact h.2.2 rfl) bw (by omega) fwW (hp2.kept (st2 W1 f1)) (by have := HWF.out.1; have := HWF.out.2; omega))
  have NP : Hid (NamesP S2 W1 (.slice na f.2.1.length nc) ns ∧ ns.length = f.2.1.length) := ⟨hnp.kept (st2 W1 f1), hnl⟩
  have HM2 := hide hm2
  have kg := cell_of_heap bg
  have zg := frozen_of_heap bg
  have lg := lt_of_heap bg
  have BG := hide bg
  have BW := hide bw
  have G1 := hide (fr_heap g1 f1 (fun e => e))
  have HW1 := hide hW1
  have FW := hide fwW
  have HSZ1 := hide hs1
  clear hS2 CN CW hf2 hnp hp2 hm2 g1 hW1 f1 bg bw hs1 st2 fwW hnl
  go_wp2_with fail
  rw [← HW1.out]
  refine CT1.out.mono ?_
  rintro e w3 ⟨kD, nD, xD, yD, s0, u0, f0, s1, u1, f1, s2, u2, f2, rfl, hf3, k', m', hp3, hm3⟩
  have bg3 := fr_heap BG.out hf3 (fun e => by have e : w2.heap.size = w2.heap.size + 1 := e; omega)
  have g3 := fr_heap G1.out hf3 (fun e => by have e : w.heap.size + 1 = w2.heap.size + 1 := e; omega)
  have kb3 := cell_of_heap bg3
  have zb3 := frozen_of_heap bg3
  have lb3 := lt_of_heap bg3
  have kr3 := cell_of_heap g3
  have zr3 := frozen_of_heap g3
  have lr3 := lt_of_heap g3
  have hne : w2.heap.size ≠ w.heap.size + 1 := by omega
  have BG3 := hide bg3
  have G3 := hide g3
  have F3 := hide hf3
  have P3 := hide (And.intro hp3 hm3)
  clear hp3 hm3 hf3 bg3 g3 CT1 kg zg lg
  go_wp2_with fail
  obtain ⟨W2, hW2⟩ : ∃ W2, W2 = (((((((w3.setCell ⟨w2.heap.size, 2, none⟩ (.int .i64 kD)).setCell ⟨w2.heap.size, 3, none⟩ (.int .i64 nD)).setCell ⟨w2.heap.size, 4, none⟩ (.string xD)).setCell ⟨w2.heap.size, 5, none⟩ (.string yD)).setCell ⟨w2.heap.size, 6, none⟩ (.slice s0 u0 f0)).setCell ⟨w2.heap.size, 7, none⟩ (.slice s1 u1 f1)).setCell ⟨w2.heap.size, 8, none⟩ (.slice s2 u2 f2)) := ⟨_, rfl⟩
  have f32 : Fr (· = w2.heap.size) w3 W2 := by rw [hW2]; exact ((((((((Fr.refl (· = w2.heap.size) w3).setCell (p := ⟨w2.heap.size, 2, none⟩) (.inl rfl) (.int .i64 kD)).setCell (p := ⟨w2.heap.size, 3, none⟩) (.inl rfl) (.int .i64 nD)).setCell (p := ⟨w2.heap.size, 4, none⟩) (.inl rfl) (.string xD)).setCell (p := ⟨w2.heap.size, 5, none⟩) (.inl rfl) (.string yD)).setCell (p := ⟨w2.heap.size, 6, none⟩) (.inl rfl) (.slice s0 u0 f0)).setCell (p := ⟨w2.heap.size, 7, none⟩) (.inl rfl) (.slice s1 u1 f1)).setCell (p := ⟨w2.heap.size, 8, none⟩) (.inl rfl) (.slice s2 u2 f2))
  rw [← hW2]
  clear hW2
  obtain ⟨t1, t2⟩ := set9f (fr_heap G3.out f32 (fun e => hne (by have e : w.heap.size + 1 = w2.heap.size := e; exact e.symm))) (.string f.1) (.slice na f.2.1.length nc) (.int .i64 kD) (.int .i64 nD) (.string xD) (.string yD) (.slice s0 u0 f0) (.slice s1 u1 f1) (.slice s2 u2 f2)
  obtain ⟨X, hX⟩ : ∃ X, X = (((((((((W2.setCell ⟨w.heap.size + 1, 0, none⟩ (.string f.1)).setCell ⟨w.heap.size + 1, 1, none⟩ (.slice na f.2.1.length nc)).setCell ⟨w.heap.size + 1, 2, none⟩ (.int .i64 kD)).setCell ⟨w.heap.size + 1, 3, none⟩ (.int .i64 nD)).setCell ⟨w.heap.size + 1, 4, none⟩ (.string xD)).setCell ⟨w.heap.size + 1, 5, none⟩ (.string yD)).setCell ⟨w.heap.size + 1, 6, none⟩ (.slice s0 u0 f0)).setCell ⟨w.heap.size + 1, 7, none⟩ (.slice s1 u1 f1)).setCell ⟨w.heap.size + 1, 8, none⟩ (.slice s2 u2 f2)) := ⟨_, rfl⟩
  rw [← hX] at t1 t2 ⊢
  clear hX
  have ffin : Fr No w X := ((FW.out.trans' F3.out (fun q hq e => by have e : q = w2.heap.size + 1 := e; omega)).trans' f32 (fun q hq e => by have e : q = w2.heap.size := e; omega)).trans' t2 (fun q hq e => by have e : q = w.heap.size + 1 := e; omega)
  have hE : ∀ g, S2 g → g ≠ w2.heap.size ∧ g ≠ w2.heap.size + 1 ∧ g ≠ w.heap.size + 1 ∧ S g := fun g hg => by
    rw [HS2.out] at hg
    exact ⟨hg.2.1, hg.2.2, (HSE.out g hg.1).2, (HSE.out g hg.1).1⟩
  have stA : Stays S2 S2 W1 w3 := stays_fr F3.out (fun g hg _ e => (hE g hg).2.1 e) (fun _ h => h)
  have stB : Stays S2 S2 w3 W2 := stays_fr f32 (fun g hg _ e => (hE g hg).1 e) (fun _ h => h)
  have stC : Stays S2 S W2 X := stays_fr t2 (fun g hg _ e => (hE g hg).2.2.1 e) (fun g hg => (hE g hg).2.2.2)
  have hns := NP.out.2
  have hN : NamesP S X (.slice na ns.length nc) ns := by
    have h := NP.out.1
    rw [← hns] at h
    exact ((h.kept stA).kept stB).kept stC
  have hB : PT k' S X [.int .i64 kD, .int .i64 nD, .string xD, .string yD, .slice s0 u0 f0, .slice s1 u1 f1, .slice s2 u2 f2] m' := (P3.out.1.kept stB).kept stC
  have hx : 1 + ns.length + m' ≤ 4 * wf f := by have h2 := P3.out.2; have h3 := HM2.out; have h4 := HWF.out.1; omega
  have hPF : PF k' S X (.string f.1 :: .slice na f.2.1.length nc :: [.int .i64 kD, .int .i64 nD, .string xD, .string yD, .slice s0 u0 f0, .slice s1 u1 f1, .slice s2 u2 f2]) (1 + ns.length + m') := ⟨f.1, na, nc, ns, _, m', by rw [hns], HNM.out, hN, rfl, hB, rfl⟩
  refine bodyPost_ret (retF rfl _ _ (w.heap.size + 1) _ _ _ _ _ _ _ _ _ (0, 0) rfl t1) rfl ?_
  exact ⟨_, rfl, ffin, k', _, hPF, hx⟩
end Go.Proofs.YtomahbdidlglfacGreatDoor

/- The document's Each of Plain, walked. -/
namespace Go.Proofs.YtomahbdidlglfacGreatDoor
open Go.RowKit Go.Maps Go.WideMaps

theorem PF.kept {k : Nat} {S S' : Nat → Prop} {w w' : World} {cs : List Value} {x : Nat} (h : PF k S w cs x) (hs : Stays S S' w w') : PF k S' w' cs x := by
  obtain ⟨nm, na, nc, ns, b, m, h1, h2, h3, h4, h5, h6⟩ := h
  exact ⟨nm, na, nc, ns, b, m, h1, h2, h3.kept hs, h4, h5.kept hs, h6⟩
theorem PF.form9 {k : Nat} {S : Nat → Prop} {w : World} {cs : List Value} {x : Nat} (h : PF k S w cs x) : ∃ nm pa pn pc kd n x y a0 n0 c0 a1 n1 c1 a2 n2 c2, cs = [.string nm, .slice pa pn pc, .int .i64 kd, .int .i64 n, .string x, .string y, .slice a0 n0 c0, .slice a1 n1 c1, .slice a2 n2 c2] := by
  obtain ⟨nm, na, nc, ns, b, m, rfl, _, _, _, h5, _⟩ := h
  obtain ⟨kd, n, x, y, a0, n0, c0, a1, n1, c1, a2, n2, c2, rfl⟩ := h5.form
  exact ⟨_, _, _, _, _, _, _, _, _, _, _, _, _, _, _, _, _, rfl⟩
/-- There is such a function. -/
theorem PF.rf {k : Nat} {S : Nat → Prop} {B : Nat} {w : World} {cs : List Value} {x : Nat} (h : PF k S w cs x) (hS : ∀ g, S g → g < w.heap.size → g < B) : ∃ f : Pu.Fn k, RF k B w cs f ∧ wf f = x ∧ Pq k f.2.2 := by
  obtain ⟨nm, na, nc, ns, b, m, rfl, h2, h3, h4, h5, h6⟩ := h
  obtain ⟨t, t1, t2, t3⟩ := h5.rt hS
  exact ⟨(nm, ns, t), ⟨_, _, rfl, h2, ⟨h3.1.row hS, h3.2⟩, h4, t1⟩, by rw [h6, ← t2]; rfl, t3⟩
def PFx (w : World) (S : Nat → Prop) (cs : List Value) (x : Nat) : Prop := ∃ k, PF k S w cs x
theorem pfx_keptE : ∀ (w w' : World) (S S' : Nat → Prop) (c : List Value) (a : Nat), Stays S S' w w' → PFx w S c a → PFx w' S' c a := fun _ _ _ _ _ _ hs ⟨k, h⟩ => ⟨k, h.kept hs⟩
theorem infoFn9 : (Tryz.prog.info? 34).map (fun i => (i.zero, i.size, i.bytes)) = some (some (.agg #[.string ⟨#[]⟩, .slice none 0 0, .int .i64 0, .int .i64 0, .string ⟨#[]⟩, .string ⟨#[]⟩, .slice none 0 0, .slice none 0 0, .slice none 0 0]), 9, 160) := by kernel_rfl
theorem Tryz.ul22P : Tryz.prog.underlying 22 = some (.slice 34) := by kernel_rfl
theorem one9f {kd n : Int} {s x y : ByteArray} {pa a0 a1 a2 : Option Addr} {pn pc n0 c0 n1 c1 n2 c2 : Nat} : ∀ u ∈ [Value.string s, .slice pa pn pc, .int .i64 kd, .int .i64 n, .string x, .string y, .slice a0 n0 c0, .slice a1 n1 c1, .slice a2 n2 c2], u.oneCell' = true := by
  intro u hu
  simp only [List.mem_cons, List.not_mem_nil, or_false] at hu
  rcases hu with rfl | rfl | rfl | rfl | rfl | rfl | rfl | rfl | rfl <;> rfl

/-- What is there between two functions. -/
structure EP (w : World) (i : Nat) (oa : Option Addr) (oc : Nat) (W : World) : Prop where
  fr : Fr No w W
  row : ∃ xs ws, W.ownsRow w.heap.size 34 9 (.slice oa i oc) i xs ∧ Each 9 (PFx W (SXo (fun _ => True) (.slice oa i oc))) xs ws ∧ ws.length = i ∧ ∀ x, x ∈ ws → x ≤ 4194304
theorem EP.put {w : World} {i : Nat} {oa : Option Addr} {oc : Nat} {W : World} (h : EP w i oa oc W) {vals : List Value} {x : Nat} (hv : vals.length = 9) (h1 : ∀ u ∈ vals, u.oneCell' = true) (hn : PFx W (SXo (fun _ => True) (.slice oa i oc)) vals x) (hx : x ≤ 4194304) (hi : i + 1 ≤ 2147483648) :
    ∃ v' w', (Builtin.append_ #[22, 22] 22 #[.slice oa i oc, .slice (some ⟨W.heap.size, 0, none⟩) 1 1]).run Tryz.prog (W.alloc (.cells vals.toArray 34)) = .ok v' w' ∧ ∃ a' c', v' = .slice a' (i + 1) c' ∧ EP w (i + 1) a' c' w' := by
  obtain ⟨xs, ws, r1, r2, r3, r4⟩ := h.row
  obtain ⟨v', w', g1, a', c', rfl, g2, g3, g4, _⟩ := app_el Tryz.ul22P infoFn9 rfl (by decide) (by decide) pfx_keptE r1 r2 hn hv h1 hi h.fr.size
  refine ⟨_, w', g1, a', c', rfl, h.fr.trans' g4 (fun q hq e => by have := (r1.lt q e).1; omega), xs ++ vals, ws ++ [x], g2, g3, by rw [List.length_append, r3]; rfl, fun y hy => ?_⟩
  rcases List.mem_append.1 hy with hy | hy
  · exact r4 y hy
  · rw [List.mem_singleton.1 hy]; exact hx

set_option maxRecDepth 100000 in
set_option maxHeartbeats 8000000 in
theorem each_plain_any (k B : Nat) (w : World) (v : Value) (p : List (Pu.Fn k)) (hp : Fns k B w v p) (hB : B ≤ w.heap.size) (hq : ∀ f, f ∈ p → Pq k f.2.2) (h3 : 3 ≤ w.heap.size) (henv : Env w) (hw : ∀ f, f ∈ p → wf f ≤ 1048576) (hpl : p.length ≤ 1048576) :
    Calls Tryz.prog 12 #[v, .func (.func 13) #[] #[]] w fun e w' => ∃ oa oc, e = .returned (.slice oa p.length oc) ∧ EP w p.length oa oc w' := by
  obtain ⟨acs, hrow, heach⟩ := hp
  obtain ⟨fa, fc, rfl, hfc1, hfc2⟩ := hrow.form
  unfold maxLen at hfc2
  have HEL : Hid (∀ W, Fr No w W → ∀ i (h : i < p.length), ∃ g o cap nm pa pn pc kd n x y a0 n0 c0 a1 n1 c1 a2 n2 c2, Value.slice fa p.length fc = .slice (some ⟨g, o, none⟩) p.length cap ∧ g < W.heap.size ∧ RF k B W [.string nm, .slice pa pn pc, .int .i64 kd, .int .i64 n, .string x, .string y, .slice a0 n0 c0, .slice a1 n1 c1, .slice a2 n2 c2] p[i] ∧ ∀ j, j < 9 → W.cell? ⟨g, o + i * 9 + j, none⟩ = [Value.string nm, .slice pa pn pc, .int .i64 kd, .int .i64 n, .string x, .string y, .slice a0 n0 c0, .slice a1 n1 c1, .slice a2 n2 c2][j]?) := fun W hW i hi => by
    obtain ⟨g, o, cap, ck, hv, _, hSg, hgl, _, hck, hcell⟩ := (hrow.rowP (S := fun g => g < B) (fun _ h => h)).el heach i hi
    obtain ⟨pv, b, rfl, h1, h2, h4, h5⟩ := hck
    obtain ⟨pa, pc, rfl, _⟩ := h2.1.form
    obtain ⟨kd, n, x, y, a0, n0, c0, a1, n1, c1, a2, n2, c2, rfl⟩ := h5.form
    have ho := hW.old hB (fun _ _ e => e)
    exact ⟨g, o, cap, _, pa, _, pc, kd, n, x, y, a0, n0, c0, a1, n1, c1, a2, n2, c2, hv, Nat.lt_of_lt_of_le hgl hW.size, ⟨_, _, rfl, h1, h2.kept ho (Nat.le_refl _) hW.size, rfl, h5.kept ho (Nat.le_refl _) hW.size⟩, fun j hj => by rw [show W.cell? ⟨g, o + i * 9 + j, none⟩ = w.cell? ⟨g, o + i * 9 + j, none⟩ from by simp only [World.cell?, hW.block g hgl (fun e => e)]]; exact hcell j hj⟩
  have HQ := hide hq
  have HW := hide hw
  have HENV := hide henv
  have E0 : Hid (EP w 0 none 0 w) := ⟨Fr.refl _ _, [], [], World.ownsRow_nil _ _ _ _, rfl, rfl, fun _ h => absurd h (by simp)⟩
  have HB := hide hB
  clear hrow heach hq hw henv hB
  go_enter Tryz.func12, Tryz.ntmps12
  go_wp2_with fail
  go_loopw [5, 10] (fun r q wr => ∃ (i : Nat) (oa : Option Addr) (oc : Nat), i ≤ p.length ∧ r = .slice oa i oc ∧ q = .int .i64 i ∧ EP w i oa oc wr) (fun _ q _ => p.length - (intOf q).toNat)
  case atStart => exact ⟨0, none, 0, Nat.zero_le _, rfl, rfl, E0.out⟩
  case round =>
    obtain ⟨i, oa, oc, hi, rfl, rfl, hep⟩ := hrel
    by_cases hlt : i < p.length
    · obtain ⟨g, o, cap, nm, pa, pn, pc, kd, n, x, y, a0, n0, c0, a1, n1, c1, a2, n2, c2, hv, hgl, hrf, hcell⟩ := HEL.out wr hep.fr i hlt
      injection hv with hv1 _ hv2
      subst hv1 hv2
      have q0 : wr.cell? ⟨g, o + i * 9, none⟩ = some (.string nm) := hcell 0 (by omega)
      have q1 := hcell 1 (by omega)
      have q2 := hcell 2 (by omega)
      have q3 := hcell 3 (by omega)
      have q4 := hcell 4 (by omega)
      have q5 := hcell 5 (by omega)
      have q6 := hcell 6 (by omega)
      have q7 := hcell 7 (by omega)
      have q8 := hcell 8 (by omega)
      have i1 : (i : Int) < (p.length : Int) := by omega
      have i0 : (0 : Int) ≤ (i : Int) := by omega
      have hsz := hep.fr.size
      obtain ⟨W1, hW1⟩ : ∃ W1, W1 = wr.alloc (.cells #[.string nm, .slice pa pn pc, .int .i64 kd, .int .i64 n, .string x, .string y, .slice a0 n0 c0, .slice a1 n1 c1, .slice a2 n2 c2] 34) := ⟨_, rfl⟩
      have f1 : Fr No wr W1 := by rw [hW1]; exact (Fr.refl No wr).alloc _
      have bx : W1.heap[wr.heap.size]? = some (.cells #[.string nm, .slice pa pn pc, .int .i64 kd, .int .i64 n, .string x, .string y, .slice a0 n0 c0, .slice a1 n1 c1, .slice a2 n2 c2] 34 (0, 0)) := by rw [hW1]; exact heap_alloc_new wr _
      have EPF : Hid (∀ W, Fr No wr W → EP w i oa oc W) := fun W hW => by
        obtain ⟨xs, ws, r1, r2, r3, r4⟩ := hep.row
        exact ⟨hep.fr.trans hW, xs, ws, own_keptF r1 hW (fun _ _ e => e), r2.mono fun c a h => pfx_keptE _ _ _ _ _ _ (stays_of_fr hW) h, r3, r4⟩
      have hown : ∀ a, (Value.slice oa i oc).ownBlock = some a → w.heap.size ≤ a ∧ a < wr.heap.size := fun a ha => by
        obtain ⟨xs, ws, r1, _⟩ := hep.row
        exact r1.lt a ha
      have hB := HB.out
      have hwi := HW.out p[i] (List.getElem_mem hlt)
      have CP := hide (plain_any k B p[i] W1 _ (show RF k B W1 [.string nm, .slice pa pn pc, .int .i64 kd, .int .i64 n, .string x, .string y, .slice a0 n0 c0, .slice a1 n1 c1, .slice a2 n2 c2] p[i] from by
        obtain ⟨pv, b, e1, h1, h2, h4, h5⟩ := hrf
        have ho := f1.old (B := B) (by omega) (fun _ _ e => e)
        exact ⟨pv, b, e1, h1, h2.kept ho (Nat.le_refl _) f1.size, h4, h5.kept ho (Nat.le_refl _) f1.size⟩) (by have := f1.size; omega) (HQ.out p[i] (List.getElem_mem hlt)) (by have := f1.size; omega) (HENV.out.fr (hep.fr.trans f1) h3 (fun _ _ e => e)) (by omega) (SXo (fun _ => True) (.slice oa i oc)) (fun g hg => ⟨trivial, fun e => by have := (hown g e).2; have := f1.size; omega⟩) (fun g hg => ⟨trivial, fun e => by have := (hown g e).1; omega⟩))
      have PUT : Hid (∀ (W : World) (cs' : List Value) (k' x' : Nat), Fr No W1 W → PF k' (SXo (fun _ => True) (.slice oa i oc)) W cs' x' → x' ≤ 4 * wf p[i] → ∃ v' w', (Builtin.append_ #[22, 22] 22 #[.slice oa i oc, .slice (some ⟨W.heap.size, 0, none⟩) 1 1]).run Tryz.prog (W.alloc (.cells cs'.toArray 34)) = .ok v' w' ∧ ∃ a' c', v' = .slice a' (i + 1) c' ∧ EP w (i + 1) a' c' w') := fun W cs' k' x' hW hp hx => by
        obtain ⟨_, _, _, _, _, _, _, _, _, _, _, _, _, _, _, _, _, rfl⟩ := hp.form9
        exact (EPF.out W (f1.trans hW)).put rfl one9f ⟨k', hp⟩ (by omega) (by omega)
      have kx := cell_of_heap bx
      have lx := lt_of_heap bx
      have HW1 := hide hW1
      clear hep hrf hcell hW1 f1 bx hown hwi hB kx lx
      go_wp2_with fail
      rw [← HW1.out]
      refine CP.out.mono ?_
      rintro e w2 ⟨cs', rfl, hf2, k', x', hp2, hx2⟩
      obtain ⟨nm', pa', pn', pc', kd', n', xx', y', b0, m0, d0, b1, m1, d1, b2, m2, d2, rfl⟩ := hp2.form9
      have RA := hide (PUT.out w2 _ k' x' hf2 hp2 hx2)
      clear hp2 hf2 hx2 q0 q1 q2 q3 q4 q5 q6 q7 q8
      go_wp2_with (first
        | (at_builtin; refine list_app (.tmp 14) (.tmp 18) 22 rfl rfl rfl rfl rfl RA.out ?_; rintro v3 w3 ⟨a3, c3, rfl, hep3⟩; have E3 := hide hep3; clear hep3 RA)
        | fail)
      go_wp2_with fail
      go_roundw
      case rel => exact ⟨i + 1, a3, c3, by omega, rfl, by go_num, E3.out⟩
      case measure => simp [intOf]; omega
    · have hil : i = p.length := by omega
      have HEP := hide hep
      clear hep
      subst hil
      go_wp2_with fail
      go_ret
      exact ⟨oa, oc, rfl, HEP.out⟩
end Go.Proofs.YtomahbdidlglfacGreatDoor

/- A right program's terms are of a program's kinds. No walk in it. -/
namespace Go.Proofs.YtomahbdidlglfacGreatDoor

theorem chkArgs_mem {α : Type} {F : Pu.Cnt → α → Nat → Int} {c : Pu.Cnt} {l6 : Bool} {name : ByteArray} {d : Nat} : ∀ {l : List α} {i : Nat}, Pu.chkArgs F c l6 name d i l = 0 → ∀ a, a ∈ l → ∃ c', F c' a d = 0
  | [], _, _, _, h => by cases h
  | b :: r, i, h, a, ha => by
    unfold Pu.chkArgs at h
    by_cases h0 : F (Pu.with' c (Pu.argNames l6 name i)) b d = 0
    · rw [if_pos h0] at h
      rcases List.mem_cons.1 ha with rfl | ha
      · exact ⟨_, h0⟩
      · exact chkArgs_mem h a ha
    · rw [if_neg h0] at h
      exact absurd h h0
theorem chkCases_mem {α : Type} {F : Pu.Cnt → α → Nat → Int} {c : Pu.Cnt} {d : Nat} : ∀ {l ahead : List (Int × List ByteArray × α)}, Pu.chkCases F c d ahead l = 0 → ∀ k, k ∈ l → ∃ c', F c' k.2.2 d = 0
  | [], _, _, _, h => by cases h
  | b :: r, ahead, h, a, ha => by
    unfold Pu.chkCases at h
    by_cases h1 : Pu.caseOwn ahead b = 0
    · rw [if_pos h1] at h
      by_cases h0 : F (Pu.with' c b.2.1) b.2.2 d = 0
      · rw [if_pos h0] at h
        rcases List.mem_cons.1 ha with rfl | ha
        · exact ⟨_, h0⟩
        · exact chkCases_mem h a ha
      · rw [if_neg h0] at h
        exact absurd h h0
    · rw [if_neg h1] at h
      exact absurd h h1
theorem term_pq (fns : ByteArray → Option Int) : ∀ (k : Nat) (c : Pu.Cnt) (t : Pu.TT k) (d : Nat), Pu.term fns k c t d = 0 → Pq k t
  | 0, _, _, _, _ => trivial
  | k + 1, c, t, d, h => by
    obtain ⟨nd, hnd⟩ : ∃ nd : Pu.Node (Pu.TT k), nd = t := ⟨_, rfl⟩
    subst hnd
    have h' : Pu.termN fns (Pu.term fns k) c nd d = 0 := h
    unfold Pu.termN at h'
    by_cases ho : Pu.own fns c nd d = 0
    · rw [if_pos ho] at h'
      by_cases ha : Pu.chkArgs (Pu.term fns k) c (decide (nd.kind = 6)) nd.name (d + 1) 0 nd.args = 0
      · rw [if_pos ha] at h'
        unfold Pu.own at ho
        by_cases h24 : 24 < d
        · rw [if_pos h24] at ho; exact absurd ho (by decide)
        rw [if_neg h24] at ho
        by_cases hk : nd.kind < 1 ∨ 7 < nd.kind
        · rw [if_pos hk] at ho; exact absurd ho (by decide)
        rw [if_neg hk] at ho
        by_cases hf : Pu.fits nd = false
        · rw [if_pos hf] at ho; exact absurd ho (by decide)
        have hft : Pu.fits nd = true := by simpa using hf
        unfold Pu.fits at hft
        have hkk : 1 ≤ nd.kind ∧ nd.kind ≤ 7 := by omega
        refine ⟨⟨hkk, fun h6 => ?_⟩, fun a hm => ?_, fun x hm => ?_⟩
        · have h6' : nd.kind = 6 := h6
          rw [if_neg (by omega), if_neg (by omega), if_pos (by omega)] at hft
          exact (of_decide_eq_true hft).1
        · obtain ⟨c', hc'⟩ := chkArgs_mem ha a hm
          exact term_pq fns k c' a _ hc'
        · by_cases h7 : nd.kind = 7
          · rw [if_pos h7] at h'
            unfold Pu.cases' at h'
            by_cases hl : nd.cases.length < 1 ∨ 5 < nd.cases.length
            · rw [if_pos hl] at h'; exact absurd h' (by decide)
            rw [if_neg hl] at h'
            obtain ⟨c', hc'⟩ := chkCases_mem h' x hm
            exact term_pq fns k c' x.2.2 _ hc'
          · have hcl : nd.cases.length = 0 := by
              rw [if_neg h7] at hft
              split at hft
              · exact (of_decide_eq_true hft).2
              · split at hft
                · exact (of_decide_eq_true hft).2
                · exact (of_decide_eq_true hft).2
            have : nd.cases = [] := List.length_eq_zero_iff.1 hcl
            have hm' : x ∈ nd.cases := hm
            rw [this] at hm'
            cases hm'
      · rw [if_neg ha] at h'
        exact absurd h' ha
    · rw [if_neg ho] at h'
      exact absurd h' ho
theorem bodies_pq {k : Nat} (fns : ByteArray → Option Int) : ∀ {l : List (Pu.Fn k)}, Pu.bodies fns l = 0 → ∀ f, f ∈ l → Pq k f.2.2
  | [], _, _, h => by cases h
  | g :: r, h, f, hf => by
    unfold Pu.bodies at h
    by_cases h0 : Pu.term fns k (Pu.with' (fun _ => 0) g.2.1) g.2.2 0 = 0
    · rw [if_pos h0] at h
      rcases List.mem_cons.1 hf with rfl | hf
      · exact term_pq fns k _ _ _ h0
      · exact bodies_pq fns h f hf
    · rw [if_neg h0] at h
      exact absurd h h0
theorem check_pq {k : Nat} {l : List (Pu.Fn k)} (h : Pu.check l = 0) : ∀ f, f ∈ l → Pq k f.2.2 := by
  unfold Pu.check at h
  by_cases hl : l.length < 1 ∨ 6 < l.length
  · rw [if_pos hl] at h; exact absurd h (by decide)
  rw [if_neg hl] at h
  by_cases hh : Pu.heads (fun _ => none) l = 0
  · rw [if_pos hh] at h; exact bodies_pq _ h
  · rw [if_neg hh] at h; exact absurd h hh
end Go.Proofs.YtomahbdidlglfacGreatDoor

/- The document's 'SameNames', walked. -/
namespace Go.Proofs.YtomahbdidlglfacGreatDoor
open Go.RowKit Go.Maps Go.WideMaps

set_option maxHeartbeats 1000000 in
theorem sameNames_any (B1 B2 : Nat) (v1 v2 : Value) (l1 l2 : List ByteArray) (w : World) (h1 : Names B1 w v1 l1) (h2 : Names B2 w v2 l2) :
    Calls Tryz.prog 15 #[v1, v2] w fun e w' => e = .returned (.bool (decide (l1 = l2))) ∧ Fr No w w' := by
  obtain ⟨a1, c1, rfl, hc1, hc1'⟩ := h1.1.form
  obtain ⟨a2, c2, rfl, hc2, hc2'⟩ := h2.1.form
  unfold maxLen at hc1' hc2'
  have H1 := hide h1
  have H2 := hide h2
  clear h1 h2
  by_cases hl : l1.length = l2.length
  · rw [← hl]
    have HL := hide hl
    have hc2'' : l1.length ≤ c2 := by omega
    clear hl hc2
    go_enter Tryz.func15, Tryz.ntmps15
    go_wp2_with fail
    go_loopw [13] (fun q wr => ∃ i : Nat, i ≤ l1.length ∧ q = .int .i64 i ∧ (∃ n, wr = w.drewN n) ∧ ∀ j (h1 : j < l1.length) (h2 : j < l2.length), j < i → l1[j] = l2[j]) (fun q _ => l1.length - (intOf q).toNat)
    case atStart => exact ⟨0, Nat.zero_le _, rfl, ⟨0, rfl⟩, fun j _ _ hj => absurd hj (by omega)⟩
    case round =>
      obtain ⟨i, hi, rfl, ⟨m, rfl⟩, hall⟩ := hrel
      have HA := hide hall
      clear hall
      by_cases hlt : i < l1.length
      · obtain ⟨g1, o1, cp1, hv1, _, _, hg1, hcell1, _⟩ := H1.out.at hlt
        injection hv1 with hv1 _ hv2
        subst hv1 hv2
        obtain ⟨g2, o2, cp2, hv1, _, _, hg2, hcell2, _⟩ := H2.out.at (show i < l2.length by have := HL.out; omega)
        injection hv1 with hv1 _ hv2
        subst hv1 hv2
        have i1 : (i : Int) < (l1.length : Int) := by omega
        have i0 : (0 : Int) ≤ (i : Int) := by omega
        obtain ⟨x, hx⟩ : ∃ x, x = l1[i] := ⟨_, rfl⟩
        obtain ⟨y, hy⟩ : ∃ y, y = l2[i]'(by have := HL.out; omega) := ⟨_, rfl⟩
        rw [← hx] at hcell1
        rw [← hy] at hcell2
        have HX := hide hx
        have HY := hide hy
        clear hx hy
        by_cases e : x = y
        · subst e
          go_wp2_with fail
          go_quiet (fail)
          go_wp2_with fail
          go_roundw
          case rel =>
            refine ⟨i + 1, by omega, by go_num, ⟨_, rfl⟩, fun j h1 h2 hj => ?_⟩
            by_cases hji : j = i
            · subst hji; rw [← HX.out, ← HY.out]
            · exact HA.out j h1 h2 (by omega)
          case measure => simp [intOf]; omega
        · have e' : (!x.toList == y.toList) = true := str_ne e
          go_wp2_with fail
          go_quiet (fail)
          go_wp2_with fail
          go_ret
          have hne : ¬ l1 = l2 := fun h => e (by rw [HX.out, HY.out]; exact List.getElem_of_eq h _)
          rw [decide_eq_false hne]
          exact ⟨rfl, ((Fr.refl No w).drewN _).drewN _⟩
      · have hil : i = l1.length := by omega
        subst hil
        go_wp2_with fail
        go_ret
        have e : l1 = l2 := names_ext HL.out (fun j h1 h2 => HA.out j h1 h2 h1)
        rw [decide_eq_true e]
        exact ⟨rfl, (Fr.refl No w).drewN m⟩
  · have hl' : ((l1.length : Int) != (l2.length : Int)) = true := by simp; omega
    go_enter Tryz.func15, Tryz.ntmps15
    go_wp2_with fail
    go_ret
    rw [decide_eq_false (fun e => hl (by rw [e]))]
    exact ⟨rfl, Fr.refl No w⟩

end Go.Proofs.YtomahbdidlglfacGreatDoor

/- 'Same': terms. -/
namespace Go.Proofs.YtomahbdidlglfacGreatDoor
open Go.RowKit Go.Maps Go.WideMaps
theorem RT.fr {k B : Nat} {w w' : World} {cs : List Value} {t : Pu.TT k} (h : RT k B w cs t) (hB : B ≤ w.heap.size) (hf : Fr No w w') : RT k B w' cs t := h.old (hf.old hB (fun _ _ e => e)) hf.size
end Go.Proofs.YtomahbdidlglfacGreatDoor
