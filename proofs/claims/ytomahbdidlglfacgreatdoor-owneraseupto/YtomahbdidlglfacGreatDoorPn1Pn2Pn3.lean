/- The document's 'around', walked. -/
import Derived.Test.YtomahbdidlglfacGreatDoorPn0PapOd1Ot2Ot3
import Derived.Test.YtomahbdidlglfacGreatDoorOt6Ot8Ot9Le0
import Derived.Test.YtomahbdidlglfacGreatDoorP1ShelfP2
import Derived.Lib.ItoaLen
import Derived.Deep.CutRange
import Derived.Deep.RegionHeld3
namespace Go.Proofs.YtomahbdidlglfacGreatDoor
open Go.RowKit Go.Maps Go.WideMaps

/-- A bound: a name, and what it is. -/
def RB {α : Type} (P : List Value → α → Prop) (cs : List Value) (m : α) : Prop := ∃ x b, cs = .string x :: b ∧ x.size ≤ maxLen ∧ b.length = 7 ∧ P b m
theorem RB.mono {α : Type} {P P' : List Value → α → Prop} (hp : ∀ c a, P c a → P' c a) {cs : List Value} {m : α} (h : RB P cs m) : RB P' cs m := by
  obtain ⟨x, b, h1, h2, h3, h4⟩ := h
  exact ⟨x, b, h1, h2, h3, hp _ _ h4⟩
theorem RowP.at {S : Nat → Prop} {w : World} {v : Value} {n : Nat} {xs : List Value} (h : RowP S w v n xs) (hn : 0 < n) : ∃ g o cap, v = .slice (some ⟨g, o, none⟩) n cap ∧ n ≤ cap ∧ cap ≤ maxLen ∧ S g ∧ g < w.heap.size ∧ ∀ i, i < xs.length → w.cell? ⟨g, o + i, none⟩ = xs[i]? := by
  obtain ⟨a, cap, h1, h2, h3, h4⟩ := h
  obtain ⟨g, o, rfl, h5, h6, h7⟩ := h4 hn
  exact ⟨g, o, cap, h1, h2, h3, h5, h6, h7⟩
/-- One element's cells. -/
theorem RowP.el {α : Type} {S : Nat → Prop} {w : World} {v : Value} {q : Nat} {xs : List Value} {l : List α} {P : List Value → α → Prop} (h : RowP S w v l.length xs) (he : Each q P xs l) (i : Nat) (hi : i < l.length) :
    ∃ g o cap ck, v = .slice (some ⟨g, o, none⟩) l.length cap ∧ cap ≤ maxLen ∧ S g ∧ g < w.heap.size ∧ ck.length = q ∧ P ck l[i] ∧ ∀ j, j < q → w.cell? ⟨g, o + i * q + j, none⟩ = ck[j]? := by
  obtain ⟨g, o, cap, h1, _, h3, h4, h5, h6⟩ := h.at (by omega)
  obtain ⟨ck, e1, e2, e3⟩ := he.get i l[i] (List.getElem?_eq_getElem hi)
  have hl := he.length
  refine ⟨g, o, cap, ck, h1, h3, h4, h5, e1, e2, fun j hj => ?_⟩
  have : i * q + j < xs.length := by
    rw [hl]
    have := Nat.mul_le_mul_right q (show i + 1 ≤ l.length by omega)
    rw [Nat.add_mul] at this
    omega
  rw [Nat.add_assoc, h6 _ this, e3 j hj]
/-- A let of two terms. -/
theorem let_pt {k : Nat} {S : Nat → Prop} {w : World} {g : Nat} {x : ByteArray} {ca cb : List Value} {a b : Nat} (ha : PT k S w ca a) (hb : PT k S w cb b) (hx : x.size ≤ maxLen) (hg : w.heap[g]? = some (.cells (ca ++ cb).toArray 32 (0, 0))) (hS : S g) (hla : ca.length = 7) (hlb : cb.length = 7) :
    PT (k + 1) S w [.int .i64 6, .int .i64 0, .string x, .string ⟨#[]⟩, .slice none 0 0, .slice (some ⟨g, 0, none⟩) 2 2, .slice none 0 0] (1 + a + b) := by
  refine ⟨⟨6, 0, x, ⟨#[]⟩, [], [a, b], []⟩, ⟨⟨(show (1 : Int) ≤ 6 from by decide), (show (6 : Int) ≤ 7 from by decide)⟩, fun _ => rfl⟩, by simp [wtN, Nat.add_assoc], .slice none 0 0, .slice (some ⟨g, 0, none⟩) 2 2, .slice none 0 0, ca ++ cb, [], rfl, hx, (show (Lit.int .i64 0).wf = true from by decide), ⟨⟨none, 0, rfl, Nat.le_refl _, Nat.zero_le _, fun h => absurd h (by simp)⟩, fun y hy => absurd hy (by simp)⟩,
    ⟨_, _, rfl, Nat.le_refl _, by unfold maxLen; decide, fun _ => ⟨g, 0, rfl, hS, lt_of_heap hg, fun i hi => by rw [Nat.zero_add, cell_of_heap hg]; simp⟩⟩, ⟨ca, cb, rfl, hla, ha, cb, [], by simp, hlb, hb, rfl⟩, ⟨none, 0, rfl, Nat.le_refl _, Nat.zero_le _, fun h => absurd h (by simp)⟩, rfl⟩

set_option maxRecDepth 100000 in
set_option maxHeartbeats 4000000 in
theorem around_any (k j m : Nat) (hkj : k ≤ j) (S : Nat → Prop) (w : World) (bv : Value) (bcs cs : List Value) (l : List Nat) (hS : ∀ g, w.heap.size ≤ g → S g) (hr : RowP S w bv l.length bcs) (he : Each 8 (RB (PT k S w)) bcs l) (ht : PT j S w cs m) (hl : l.length ≤ 1073741824) :
    Calls Tryz.prog 66 #[bv, .agg cs.toArray] w fun e w' => ∃ cs', e = .returned (.agg cs'.toArray) ∧ Fr No w w' ∧ PT (j + l.length) S w' cs' (m + (l.map (1 + ·)).sum) := by
  obtain ⟨kd, n, x, y, a0, n0, c0, a1, n1, c1, a2, n2, c2, rfl⟩ := ht.form
  obtain ⟨ba, bc, rfl, hbc1, hbc2⟩ := hr.form
  obtain ⟨S', hS'⟩ : ∃ S' : Nat → Prop, S' = fun g => S g ∧ g ≠ w.heap.size ∧ g ≠ w.heap.size + 1 := ⟨_, rfl⟩
  have st0 : ∀ W, Fr No w W → Stays S S' w W := fun W hW => ⟨hW.size, fun g hg hl => ⟨by rw [hS']; exact ⟨hg, by omega, by omega⟩, hW.block g hl (fun e => e)⟩⟩
  obtain ⟨W0, hW0⟩ : ∃ W0, W0 = ((w.alloc (.cells #[.int .i64 kd, .int .i64 n, .string x, .string y, .slice a0 n0 c0, .slice a1 n1 c1, .slice a2 n2 c2] 32)).alloc (.cells tz 32)) := ⟨_, rfl⟩
  have f0 : Fr No w W0 := by rw [hW0]; exact ((Fr.refl No w).alloc _).alloc _
  have b0 : W0.heap[w.heap.size]? = some (.cells #[.int .i64 kd, .int .i64 n, .string x, .string y, .slice a0 n0 c0, .slice a1 n1 c1, .slice a2 n2 c2] 32 (0, 0)) := by rw [hW0]; exact fr_heap (heap_alloc_new w _) ((Fr.refl No _).alloc _) (fun e => e)
  have b1 : W0.heap[w.heap.size + 1]? = some (.cells tz 32 (0, 0)) := by
    have h := heap_alloc_new (w.alloc (.cells #[.int .i64 kd, .int .i64 n, .string x, .string y, .slice a0 n0 c0, .slice a1 n1 c1, .slice a2 n2 c2] 32)) (.cells tz 32)
    rw [World.size_alloc] at h
    rw [hW0]; exact h
  have HB : Hid (∀ W, Fr No w W → RowP S' W (.slice ba l.length bc) l.length bcs ∧ Each 8 (RB (PT k S' W)) bcs l) := fun W hW => ⟨hr.kept (st0 W hW), he.mono fun c a h => h.mono fun _ _ h => h.kept (st0 W hW)⟩
  have P0 : Hid (PT j S' W0 [.int .i64 kd, .int .i64 n, .string x, .string y, .slice a0 n0 c0, .slice a1 n1 c1, .slice a2 n2 c2] m) := ht.kept (st0 W0 f0)
  have HW0 := hide hW0
  have F0 := hide f0
  have B0 := hide b0
  have B1 := hide b1
  have HS := hide hS
  have HSE := hide hS'
  have HKJ := hide hkj
  clear hr he ht hS hS' st0 hW0 f0 b0 b1 hkj
  unfold maxLen at hbc2
  show Calls Tryz.prog 66 #[.slice ba l.length bc, .agg #[.int .i64 kd, .int .i64 n, .string x, .string y, .slice a0 n0 c0, .slice a1 n1 c1, .slice a2 n2 c2]] w _
  go_enter Tryz.func66, Tryz.ntmps66
  go_wp2_with fail
  rw [← HW0.out]
  go_loopw [5] (fun q wr => ∃ (i : Nat) (kd n : Int) (x y : ByteArray) (a0 : Option Addr) (n0 c0 : Nat) (a1 : Option Addr) (n1 c1 : Nat) (a2 : Option Addr) (n2 c2 : Nat), i ≤ l.length ∧ q = .int .i64 ((i : Int) - 1) ∧ Fr No w wr ∧ wr.heap[w.heap.size]? = some (.cells #[.int .i64 kd, .int .i64 n, .string x, .string y, .slice a0 n0 c0, .slice a1 n1 c1, .slice a2 n2 c2] 32 (0, 0)) ∧ wr.heap[w.heap.size + 1]? = some (.cells tz 32 (0, 0)) ∧
    PT (j + (l.length - i)) S' wr [.int .i64 kd, .int .i64 n, .string x, .string y, .slice a0 n0 c0, .slice a1 n1 c1, .slice a2 n2 c2] (m + ((l.drop i).map (1 + ·)).sum)) (fun q _ => (intOf q + 1).toNat)
  case atStart => exact ⟨l.length, kd, n, x, y, a0, n0, c0, a1, n1, c1, a2, n2, c2, Nat.le_refl _, by go_num, F0.out, B0.out, B1.out, by rw [Nat.sub_self, Nat.add_zero, List.drop_length]; exact P0.out⟩
  case round =>
    obtain ⟨i, kd', n', x', y', b0, m0, e0, b1, m1, e1, b2, m2, e2, hi, rfl, hf, hb, hr, hp⟩ := hrel
    have k0 := cell_of_heap hb
    have z0 := frozen_of_heap hb
    have l0 := lt_of_heap hb
    have k1 := cell_of_heap hr
    have z1 := frozen_of_heap hr
    have l1 := lt_of_heap hr
    have HBX := hide hb
    have HRX := hide hr
    have HP := hide hp
    have HF := hide hf
    cases i with
    | zero =>
      clear hb hr hp hf
      go_wp2_with fail
      obtain ⟨s1, s2⟩ := set7 HRX.out (.int .i64 kd') (.int .i64 n') (.string x') (.string y') (.slice b0 m0 e0) (.slice b1 m1 e1) (.slice b2 m2 e2)
      refine bodyPost_ret (retT rfl _ _ (w.heap.size + 1) _ _ _ _ _ _ _ (0, 0) rfl s1) rfl ⟨_, rfl, ?_, ?_⟩
      · exact HF.out.trans' s2 (fun i hi e => by have e : i = w.heap.size + 1 := e; omega)
      · have hp := HP.out
        rw [Nat.sub_zero, List.drop_zero] at hp
        refine hp.kept (stays_fr s2 (fun g hg _ e => ?_) (fun g hg => ?_))
        · rw [HSE.out] at hg; exact hg.2.2 e
        · rw [HSE.out] at hg; exact hg.1
    | succ i =>
      obtain ⟨hrb, heb⟩ := HB.out wr hf
      obtain ⟨g, o, cap, ck, hv, _, hSg, hgl, hckl, hck, hcell⟩ := hrb.el heb i (by omega)
      injection hv with hv1 _ hv2
      subst hv1 hv2
      obtain ⟨nx, b, rfl, hnx, hbl, hpt⟩ := hck
      obtain ⟨kc, nc, xc, yc, r0, p0, d0, r1, p1, d1, r2, p2, d2, rfl⟩ := hpt.form
      have q0 : wr.cell? ⟨g, o + i * 8, none⟩ = some (.string nx) := hcell 0 (by omega)
      have q1 := hcell 1 (by omega)
      have q2 := hcell 2 (by omega)
      have q3 := hcell 3 (by omega)
      have q4 := hcell 4 (by omega)
      have q5 := hcell 5 (by omega)
      have q6 := hcell 6 (by omega)
      have q7 := hcell 7 (by omega)
      have hgb : w.heap.size ≠ g ∧ w.heap.size + 1 ≠ g := by rw [HSE.out] at hSg; exact ⟨fun e => hSg.2.1 e.symm, fun e => hSg.2.2 e.symm⟩
      have HPT := hide hpt
      have HNX := hide hnx
      rw [show (((i + 1 : Nat) : Int) - 1) = (i : Int) from by omega]
      have i1 : (i : Int) < (l.length : Int) := by omega
      have i0 : (0 : Int) ≤ (i : Int) := by omega
      have i2 : ¬ (i : Int) < 0 := by omega
      clear hb hr hp hf hrb heb hcell hpt hnx
      have hne1 := hgb.1
      have hne2 := hgb.2
      go_wp2_with fail
      go_region
      all_goals
        go_wp2_with fail
        obtain ⟨t1, t2⟩ := set7 HBX.out (.int .i64 6) (.int .i64 0) (.string nx) (.string ⟨#[]⟩) (.slice none 0 0) (.slice (some ⟨wr.heap.size, 0, none⟩) 2 2) (.slice none 0 0)
        obtain ⟨Z, hZ⟩ : ∃ Z, Z = (((((((wr.setCell ⟨w.heap.size, 0, none⟩ (.int .i64 6)).setCell ⟨w.heap.size, 1, none⟩ (.int .i64 0)).setCell ⟨w.heap.size, 2, none⟩ (.string nx)).setCell ⟨w.heap.size, 3, none⟩ (.string ⟨#[]⟩)).setCell ⟨w.heap.size, 4, none⟩ (.slice none 0 0)).setCell ⟨w.heap.size, 5, none⟩ (.slice (some ⟨wr.heap.size, 0, none⟩) 2 2)).setCell ⟨w.heap.size, 6, none⟩ (.slice none 0 0)) := ⟨_, rfl⟩
        rw [← hZ] at t1 t2 ⊢
        have hzs : Z.heap.size = wr.heap.size := by rw [hZ]; simp [World.setCell]
        clear hZ
        have fz : Fr No Z (Z.alloc (.cells #[.int .i64 kc, .int .i64 nc, .string xc, .string yc, .slice r0 p0 d0, .slice r1 p1 d1, .slice r2 p2 d2, .int .i64 kd', .int .i64 n', .string x', .string y', .slice b0 m0 e0, .slice b1 m1 e1, .slice b2 m2 e2] 32)).drew := ((Fr.refl No Z).alloc _).drew
        have hnew : (Z.alloc (.cells #[.int .i64 kc, .int .i64 nc, .string xc, .string yc, .slice r0 p0 d0, .slice r1 p1 d1, .slice r2 p2 d2, .int .i64 kd', .int .i64 n', .string x', .string y', .slice b0 m0 e0, .slice b1 m1 e1, .slice b2 m2 e2] 32)).drew.heap[wr.heap.size]? = some (.cells #[.int .i64 kc, .int .i64 nc, .string xc, .string yc, .slice r0 p0 d0, .slice r1 p1 d1, .slice r2 p2 d2, .int .i64 kd', .int .i64 n', .string x', .string y', .slice b0 m0 e0, .slice b1 m1 e1, .slice b2 m2 e2] 32 (0, 0)) := by rw [← hzs]; exact heap_alloc_new Z _
        obtain ⟨V, hV⟩ : ∃ V, V = (Z.alloc (.cells #[.int .i64 kc, .int .i64 nc, .string xc, .string yc, .slice r0 p0 d0, .slice r1 p1 d1, .slice r2 p2 d2, .int .i64 kd', .int .i64 n', .string x', .string y', .slice b0 m0 e0, .slice b1 m1 e1, .slice b2 m2 e2] 32)).drew := ⟨_, rfl⟩
        rw [← hV] at fz hnew ⊢
        clear hV
        have stV : Stays S' S' wr V := ⟨Nat.le_trans t2.size fz.size, fun g hg hl => ⟨hg, (fz.block g (Nat.lt_of_lt_of_le hl t2.size) (fun e => e)).trans (t2.block g hl (fun e => by have e : g = w.heap.size := e; rw [HSE.out] at hg; exact hg.2.1 e))⟩⟩
        have hwr := HF.out.size
        have hSn : S' wr.heap.size := by rw [HSE.out]; exact ⟨HS.out _ hwr, by omega, by omega⟩
        have hlet := let_pt (((HPT.out.kept stV).upTo (Nat.le_trans HKJ.out (Nat.le_add_right j (l.length - (i + 1))))) ) (HP.out.kept stV) HNX.out hnew hSn rfl rfl
        refine ⟨⟨i, 6, 0, nx, ⟨#[]⟩, none, 0, 0, some ⟨wr.heap.size, 0, none⟩, 2, 2, none, 0, 0, by omega, rfl, ?_, ?_, ?_, ?_⟩, ?_⟩
        · exact (HF.out.trans' t2 (fun g hg e => by have e : g = w.heap.size := e; omega)).trans fz
        · exact fr_heap t1 fz (fun e => e)
        · exact fr_heap (fr_heap HRX.out t2 (fun e => by have e : w.heap.size + 1 = w.heap.size := e; omega)) fz (fun e => e)
        · rw [show j + (l.length - i) = j + (l.length - (i + 1)) + 1 from by omega, List.drop_eq_getElem_cons (show i < l.length by omega), List.map_cons, List.sum_cons, show m + (1 + l[i] + ((l.drop (i + 1)).map (1 + ·)).sum) = 1 + l[i] + (m + ((l.drop (i + 1)).map (1 + ·)).sum) from by omega]
          exact hlet
        · simp [intOf]
end Go.Proofs.YtomahbdidlglfacGreatDoor

/- The document's 'fresh', walked: so many names and pairs of them, whatever they are. -/
namespace Go.Proofs.YtomahbdidlglfacGreatDoor
open Go.RowKit Go.Maps Go.WideMaps

theorem infoPair : (Tryz.prog.info? 132).map (fun i => (i.zero, i.size, i.bytes)) = some (some (.agg #[.string ⟨#[]⟩, .string ⟨#[]⟩]), 2, 32) := by kernel_rfl
theorem infoStr : (Tryz.prog.info? 9).map (fun i => (i.zero, i.size, i.bytes)) = some (some (.string ⟨#[]⟩), 1, 16) := by kernel_rfl
theorem NamesP.one {S : Nat → Prop} {w : World} {v : Value} {l : List ByteArray} (h : NamesP S w v l) {i : Nat} (hi : i < l.length) : ∃ g o cap, v = .slice (some ⟨g, o, none⟩) l.length cap ∧ S g ∧ g < w.heap.size ∧ w.cell? ⟨g, o + i, none⟩ = some (.string l[i]) ∧ l[i].size ≤ maxLen := by
  obtain ⟨g, o, cap, h1, _, _, h4, h5, h6⟩ := h.1.at (by omega)
  refine ⟨g, o, cap, h1, h4, h5, ?_, h.2 _ (List.getElem_mem hi)⟩
  rw [h6 i (by rw [List.length_map]; exact hi), List.getElem?_map, List.getElem?_eq_getElem hi]
  rfl
/-- Names and pairs as rows of short strings. -/
structure Fresh (S : Nat → Prop) (w : World) (nv pv : Value) (ns ps : List ByteArray) (n : Nat) : Prop where
  names : RowP S w nv n (ns.map .string)
  pairs : RowP S w pv n (ps.map .string)
  len1 : ns.length = n
  len2 : ps.length = n * 2
  short1 : Short ns
  short2 : Short ps

theorem itoa_size (n : Int) (h0 : -9223372036854775808 ≤ n) (h1 : n ≤ 9223372036854775807) : (⟨(Lib.itoa n).toArray⟩ : ByteArray).size ≤ 21 := by
  have := Lib.itoa_length_le n h0 h1
  simpa [ByteArray.size] using this

set_option maxRecDepth 100000 in
set_option maxHeartbeats 4000000 in
theorem fresh_any (nb K : Nat) (S : Nat → Prop) (w : World) (lv : Value) (l : List ByteArray) (hS : ∀ g, w.heap.size ≤ g → S g) (hn : w.heap[nb]? = some (.cells #[.int .i64 (K : Int)] 96 (0, 0))) (h3 : 3 ≤ nb) (henv : Env w) (hl : NamesP (fun g => g ≠ nb) w lv l) (hK : K + l.length ≤ 1073741824) :
    Calls Tryz.prog 63 #[.pointer (some ⟨nb, 0, none⟩), lv] w fun e w' => ∃ na nc pa pc ns ps, e = .returned (.tuple #[.slice na l.length nc, .slice pa l.length pc]) ∧ Fr (· = nb) w w' ∧ w'.heap[nb]? = some (.cells #[.int .i64 ((K : Int) + (l.length : Int))] 96 (0, 0)) ∧ Fresh S w' (.slice na l.length nc) (.slice pa l.length pc) ns ps l.length := by
  obtain ⟨la, lc, rfl, hlc1, hlc2⟩ := hl.1.form
  have HL := hide hl
  have HS := hide hS
  have HENV := hide henv
  have HN := hide hn
  have hnw := lt_of_heap hn
  clear hl hS henv hn
  unfold maxLen at hlc2
  go_enter Tryz.func63, Tryz.ntmps63
  go_wp2_with fail
  go_loopw [6, 7, 13] (fun r p q wr => ∃ (i : Nat) (ns ps : List ByteArray), i ≤ l.length ∧ q = .int .i64 i ∧ Fr (· = nb) w wr ∧ wr.heap[nb]? = some (.cells #[.int .i64 ((K : Int) + (i : Int))] 96 (0, 0)) ∧ wr.ownsRow w.heap.size 9 1 r i (ns.map .string) ∧ wr.ownsRow w.heap.size 132 2 p i (ps.map .string) ∧ ns.length = i ∧ ps.length = i * 2 ∧ Short ns ∧ Short ps) (fun _ _ q _ => l.length - (intOf q).toNat)
  case atStart => exact ⟨0, [], [], Nat.zero_le _, rfl, Fr.refl _ _, (by rw [show ((K : Int) + ((0 : Nat) : Int)) = (K : Int) from by omega]; exact HN.out), World.ownsRow_nil _ _ _ _, World.ownsRow_nil _ _ _ _, rfl, rfl, fun _ h => (by cases h), fun _ h => (by cases h)⟩
  case round =>
    obtain ⟨i, ns, ps, hi, rfl, hf, hb, hr1, hr2, hl1, hl2, hs1, hs2⟩ := hrel
    obtain ⟨ra, rc, rfl⟩ := row_form hr1
    obtain ⟨pa, pc, rfl⟩ := row_form hr2
    have hlw : NamesP (fun g => g ≠ nb) wr (.slice la l.length lc) l := HL.out.kept (stays_fr hf (fun g hg _ e => hg e) (fun _ h => h))
    have k0 := cell_of_heap hb
    have z0 := frozen_of_heap hb
    have l0 := lt_of_heap hb
    by_cases hlt : i < l.length
    · obtain ⟨g, o, cp, hv, hg, hgw, hcell, hsz⟩ := hlw.one hlt
      injection hv with hv1 hle hv2
      clear hle
      subst hv1 hv2
      obtain ⟨x, hx⟩ : ∃ x, x = l[i] := ⟨_, rfl⟩
      rw [← hx] at hcell hsz
      have HF := hide hf
      have HR1 := hide hr1
      have HR2 := hide hr2
      have HB := hide hb
      have HX := hide hsz
      have HSH := hide (And.intro hs1 hs2)
      have HLN := hide (And.intro hl1 hl2)
      have i1 : (i : Int) < (l.length : Int) := by omega
      have i0 : (0 : Int) ≤ (i : Int) := by omega
      clear hx hlw hf hr1 hr2 hsz hs1 hs2 hl1 hl2 hb
      have hbs : wr.heap[nb]? = some (.cells #[.int .i64 ((K : Int) + (i : Int))] 96 (0, 0)) := HB.out
      obtain ⟨W1, hW1⟩ : ∃ W1, W1 = wr.setCell ⟨nb, 0, none⟩ (.int .i64 ((K : Int) + (i : Int) + 1)) := ⟨_, rfl⟩
      have f1 : Fr (· = nb) wr W1 := by rw [hW1]; exact (Fr.refl (· = nb) wr).setCell (p := ⟨nb, 0, none⟩) (.inl rfl) _
      have b1 : W1.heap[nb]? = some (.cells #[.int .i64 ((K : Int) + (i : Int) + 1)] 96 (0, 0)) := by rw [hW1]; simp [World.setCell, Array.getElem?_modify, hbs]
      have CI : Hid (Calls Tryz.prog 62 #[.int .i64 ((K : Int) + (i : Int) + 1)] W1 fun e w' => e = .returned (.string ⟨(Lib.itoa ((K : Int) + (i : Int) + 1)).toArray⟩) ∧ Fr No W1 w') :=
        itoa_any _ W1 (by omega) (by omega) ((HENV.out.fr HF.out (by omega) (fun j hj e => by have e : j = nb := e; omega)).fr f1 (by have := HF.out.size; omega) (fun j hj e => by have e : j = nb := e; omega))
      have HS1 := hide (itoa_size ((K : Int) + (i : Int) + 1) (by omega) (by omega))
      have HW1 := hide hW1
      have F1 := hide f1
      have B1 := hide b1
      clear hW1 f1 b1 hbs
      go_wp2_with fail
      rw [← HW1.out]
      refine CI.out.mono ?_
      rintro e w2 ⟨rfl, hf2⟩
      have F2 : Hid (Fr (· = nb) wr w2) := F1.out.no hf2
      have B2 := hide (fr_heap B1.out hf2 (fun e => e))
      have hnT : ∀ a, w.heap.size ≤ a → ¬ a = nb := fun a ha e => by omega
      have O1 := hide (own_keptF HR1.out F2.out hnT)
      have O2 := hide (own_keptF HR2.out F2.out hnT)
      have hs2 : w.heap.size ≤ w2.heap.size := Nat.le_trans HF.out.size F2.out.size
      have HVT : Hid (((⟨#[118]⟩ : ByteArray) ++ ⟨(Lib.itoa ((K : Int) + (i : Int) + 1)).toArray⟩).size ≤ maxLen) := by rw [ByteArray.size_append]; have := HS1.out; unfold maxLen; show 1 + (⟨(Lib.itoa ((K : Int) + (i : Int) + 1)).toArray⟩ : ByteArray).size ≤ _; omega
      have HS2 := hide hs2
      have S2 : Hid (∀ g, w2.heap.size ≤ g → S g) := fun g hg => HS.out g (Nat.le_trans hs2 hg)
      have RA : Hid (∃ v' w', (Builtin.append_ #[28, 28] 28 #[.slice ra i rc, .slice (some ⟨w2.heap.size, 0, none⟩) 1 1]).run Tryz.prog (w2.alloc (.cells #[.string ((⟨#[118]⟩ : ByteArray) ++ ⟨(Lib.itoa ((K : Int) + (i : Int) + 1)).toArray⟩)] 9)) = .ok v' w' ∧ (∃ a c, v' = .slice a (i + 1) c ∧ w'.ownsRow w.heap.size 9 1 v' (i + 1) ((ns ++ [((⟨#[118]⟩ : ByteArray) ++ ⟨(Lib.itoa ((K : Int) + (i : Int) + 1)).toArray⟩)]).map .string) ∧ w'.ownsRow w.heap.size 132 2 (.slice pa i pc) i (ps.map .string) ∧ Fr (· = nb) w w' ∧ w'.heap[nb]? = some (.cells #[.int .i64 ((K : Int) + (i : Int) + 1)] 96 (0, 0)))) := by
        obtain ⟨v', w', h1, h2, h3', _⟩ := app_runP (S := S) Tryz.ul28P infoStr rfl (by decide) (O1.out.alloc (.cells #[.string ((⟨#[118]⟩ : ByteArray) ++ ⟨(Lib.itoa ((K : Int) + (i : Int) + 1)).toArray⟩)] 9)) (litP w2 #[.string ((⟨#[118]⟩ : ByteArray) ++ ⟨(Lib.itoa ((K : Int) + (i : Int) + 1)).toArray⟩)] 9 1 (by decide) (S2.out _ (Nat.le_refl _))) rfl (fun u hu => by simp at hu; rw [hu]; rfl) (by omega) (by decide) (by rw [World.size_alloc]; omega)
        have hfa : Fr (· = nb) w (w2.alloc (.cells #[.string ((⟨#[118]⟩ : ByteArray) ++ ⟨(Lib.itoa ((K : Int) + (i : Int) + 1)).toArray⟩)] 9)) := (HF.out.trans F2.out).alloc _
        have h2' : w'.ownsRow w.heap.size 9 1 v' (i + 1) ((ns ++ [((⟨#[118]⟩ : ByteArray) ++ ⟨(Lib.itoa ((K : Int) + (i : Int) + 1)).toArray⟩)]).map .string) := by simpa using h2
        obtain ⟨a, c, hv⟩ := row_form h2'
        exact ⟨v', w', h1, a, c, hv, h2', own_past (O1.out.alloc _) h3' (by decide) (O2.out.alloc _), own_fr hfa (O1.out.alloc _) h3' (Nat.le_refl _), past_heap (O1.out.alloc _) h3' (by decide) (fr_heap B2.out ((Fr.refl No w2).alloc _) (fun e => e))⟩
      have RB : Hid (∀ w3 a c, w3.ownsRow w.heap.size 9 1 (.slice a (i + 1) c) (i + 1) ((ns ++ [((⟨#[118]⟩ : ByteArray) ++ ⟨(Lib.itoa ((K : Int) + (i : Int) + 1)).toArray⟩)]).map .string) → w3.ownsRow w.heap.size 132 2 (.slice pa i pc) i (ps.map .string) → Fr (· = nb) w w3 → w3.heap[nb]? = some (.cells #[.int .i64 ((K : Int) + (i : Int) + 1)] 96 (0, 0)) →
          ∃ v' w', (Builtin.append_ #[97, 97] 97 #[.slice pa i pc, .slice (some ⟨w3.heap.size, 0, none⟩) 1 1]).run Tryz.prog (w3.alloc (.cells #[.string x, .string ((⟨#[118]⟩ : ByteArray) ++ ⟨(Lib.itoa ((K : Int) + (i : Int) + 1)).toArray⟩)] 132)) = .ok v' w' ∧ (∃ a' c', v' = .slice a' (i + 1) c' ∧ w'.ownsRow w.heap.size 9 1 (.slice a (i + 1) c) (i + 1) ((ns ++ [((⟨#[118]⟩ : ByteArray) ++ ⟨(Lib.itoa ((K : Int) + (i : Int) + 1)).toArray⟩)]).map .string) ∧ w'.ownsRow w.heap.size 132 2 v' (i + 1) ((ps ++ [x, ((⟨#[118]⟩ : ByteArray) ++ ⟨(Lib.itoa ((K : Int) + (i : Int) + 1)).toArray⟩)]).map .string) ∧ Fr (· = nb) w w' ∧ w'.heap[nb]? = some (.cells #[.int .i64 ((K : Int) + (i : Int) + 1)] 96 (0, 0)))) := fun w3 a c h1 h2 h3' h4 => by
        have hs3 := h3'.size
        obtain ⟨v', w', g1, g2, g3, _⟩ := app_runP (S := S) Tryz.ul97P infoPair rfl (by decide) (h2.alloc (.cells #[.string x, .string ((⟨#[118]⟩ : ByteArray) ++ ⟨(Lib.itoa ((K : Int) + (i : Int) + 1)).toArray⟩)] 132)) (litP w3 #[.string x, .string ((⟨#[118]⟩ : ByteArray) ++ ⟨(Lib.itoa ((K : Int) + (i : Int) + 1)).toArray⟩)] 132 1 (by decide) (HS.out _ hs3)) rfl (fun u hu => by simp at hu; rcases hu with rfl | rfl <;> rfl) (by omega) (by decide) (by rw [World.size_alloc]; omega)
        have g2' : w'.ownsRow w.heap.size 132 2 v' (i + 1) ((ps ++ [x, ((⟨#[118]⟩ : ByteArray) ++ ⟨(Lib.itoa ((K : Int) + (i : Int) + 1)).toArray⟩)]).map .string) := by simpa using g2
        obtain ⟨a', c', hv⟩ := row_form g2'
        exact ⟨v', w', g1, a', c', hv, own_past (h2.alloc _) g3 (by decide) (h1.alloc _), g2', own_fr (h3'.alloc _) (h2.alloc _) g3 (Nat.le_refl _), past_heap (h2.alloc _) g3 (by decide) (fr_heap h4 ((Fr.refl No w3).alloc _) (fun e => e))⟩
      have hcc1 : ¬ 9223372036854775807 < (⟨#[118]⟩ : ByteArray).size + (⟨(Lib.itoa ((K : Int) + (i : Int) + 1)).toArray⟩ : ByteArray).size := by have := HS1.out; show ¬ _ < 1 + _; omega
      have hcc2 : ¬ (⟨#[118]⟩ : ByteArray).size + (⟨(Lib.itoa ((K : Int) + (i : Int) + 1)).toArray⟩ : ByteArray).size > 9223372036854775807 := hcc1
      clear CI hs2
      go_wp2_with (first
        | (at_builtin; refine list_app (.tmp 30) (.tmp 32) 28 rfl rfl rfl rfl rfl RA.out ?_; rintro v3 w3 ⟨a3, c3, rfl, p1, p2, p3, p4⟩; have P1 := hide p1; have P2 := hide p2; have P3 := hide p3; have P4 := hide p4; clear p1 p2 p3 p4 RA)
        | (at_builtin; refine list_app (.tmp 34) (.tmp 38) 97 rfl rfl rfl rfl rfl (RB.out _ _ _ P1.out P2.out P3.out P4.out) ?_; rintro v4 w4 ⟨a4, c4, rfl, p1, p2, p3, p4⟩; have Q1 := hide p1; have Q2 := hide p2; have Q3 := hide p3; have Q4 := hide p4; clear p1 p2 p3 p4 RB)
        | fail)
      go_wp2_with fail
      go_roundw
      case rel =>
        refine ⟨i + 1, ns ++ [((⟨#[118]⟩ : ByteArray) ++ ⟨(Lib.itoa ((K : Int) + (i : Int) + 1)).toArray⟩)], ps ++ [x, ((⟨#[118]⟩ : ByteArray) ++ ⟨(Lib.itoa ((K : Int) + (i : Int) + 1)).toArray⟩)], by omega, by go_num, Q3.out, ?_, Q1.out, Q2.out, ?_, ?_, ?_, ?_⟩
        · rw [show ((K : Int) + ((i + 1 : Nat) : Int)) = (K : Int) + (i : Int) + 1 from by omega]; exact Q4.out
        · rw [List.length_append, HLN.out.1]; rfl
        · rw [List.length_append, HLN.out.2, Nat.add_mul]; rfl
        · intro y hy
          rcases List.mem_append.1 hy with h | h
          · exact HSH.out.1 y h
          · rw [List.mem_singleton.1 h]; exact HVT.out
        · intro y hy
          rcases List.mem_append.1 hy with h | h
          · exact HSH.out.2 y h
          · simp at h
            rcases h with rfl | rfl
            · exact HX.out
            · exact HVT.out
      case measure => simp [intOf]; omega
    · have hil : i = l.length := by omega
      have HF := hide hf
      have HR1 := hide hr1
      have HR2 := hide hr2
      have HB := hide hb
      have HSH := hide (And.intro hs1 hs2)
      have HLN := hide (And.intro hl1 hl2)
      clear hf hr1 hr2 hb hs1 hs2 hl1 hl2 hlw
      subst hil
      go_wp2_with fail
      have hso : ∀ {e sz n : Nat} {v : Value} {xs : List Value}, wr.ownsRow w.heap.size e sz v n xs → RowP S wr v n xs := fun h => rowP_own h (fun g hg => HS.out g (h.lt g hg).1)
      refine bodyPost_ret (results_tmp2 rfl _ _ _) rfl ?_
      exact ⟨_, _, _, _, ns, ps, rfl, HF.out, HB.out, hso HR1.out, hso HR2.out, HLN.out.1, HLN.out.2, HSH.out.1, HSH.out.2⟩
end Go.Proofs.YtomahbdidlglfacGreatDoor

/- The document's renaming of terms, walked: what it answers is a term of no more weight. -/
namespace Go.Proofs.YtomahbdidlglfacGreatDoor
open Go.RowKit Go.Maps Go.WideMaps

/-- What 'Term' of N does at terms of k levels. -/
def NTerm (k : Nat) : Prop := ∀ (nb K Np B : Nat) (S : Nat → Prop) (w : World) (cs : List Value) (pv : Value) (t : Pu.TT k) (ps : List ByteArray), (∀ g, w.heap.size ≤ g → S g) → ¬ S nb → w.heap[nb]? = some (.cells #[.int .i64 (K : Int)] 96 (0, 0)) → 3 ≤ nb → Env w → B ≤ nb → (∀ g, g < B → S g) → RT k B w cs t → Pq k t → RowP (fun g => g ≠ nb) w pv Np (ps.map .string) → ps.length = Np * 2 → Short ps → K + Pu.wt k t ≤ 1073741824 → Np + Pu.wt k t ≤ 1073741824 →
  Calls Tryz.prog 64 #[.pointer (some ⟨nb, 0, none⟩), .agg cs.toArray, pv] w fun e w' => ∃ cs', e = .returned (.agg cs'.toArray) ∧ Fr (· = nb) w w' ∧ (∃ K' : Nat, w'.heap[nb]? = some (.cells #[.int .i64 (K' : Int)] 96 (0, 0)) ∧ K' ≤ K + Pu.wt k t) ∧ ∃ m, PT k S w' cs' m ∧ m ≤ Pu.wt k t

/-- A term of names alone: no list in it but its own names. -/
theorem leaf_pt {k : Nat} {S : Nat → Prop} {w : World} {kd n : Int} {x y : ByteArray} {va : Option Addr} {vc : Nat} {l : List ByteArray} (hk : 1 ≤ kd ∧ kd ≤ 7 ∧ kd ≠ 6) (hx : x.size ≤ maxLen) (hn : (Lit.int .i64 n).wf = true) (hv : NamesP S w (.slice va l.length vc) l) :
    PT (k + 1) S w [.int .i64 kd, .int .i64 n, .string x, .string y, .slice va l.length vc, .slice none 0 0, .slice none 0 0] (1 + l.length) :=
  ⟨⟨kd, n, x, y, l, [], []⟩, ⟨⟨hk.1, hk.2.1⟩, fun h => absurd h hk.2.2⟩, by simp [wtN], _, _, _, [], [], rfl, hx, hn, hv, ⟨none, 0, rfl, Nat.le_refl _, Nat.zero_le _, fun h => absurd h (by simp)⟩, rfl, ⟨none, 0, rfl, Nat.le_refl _, Nat.zero_le _, fun h => absurd h (by simp)⟩, rfl⟩

set_option maxRecDepth 100000 in
set_option maxHeartbeats 8000000 in
theorem nterm_var (k nb K Np B : Nat) (S Sp : Nat → Prop) (w : World) (cs : List Value) (pv : Value) (nd : Pu.Node (Pu.TT k)) (ps : List ByteArray) (hS : ∀ g, w.heap.size ≤ g → S g) (_hn : w.heap[nb]? = some (.cells #[.int .i64 (K : Int)] 96 (0, 0))) (hSB : ∀ g, g < B → S g) (ht : RT (k + 1) B w cs nd) (hk1 : nd.kind = 1) (hps : RowP Sp w pv Np (ps.map .string)) (hpl : ps.length = Np * 2) (hpsh : Short ps) :
    Calls Tryz.prog 64 #[.pointer (some ⟨nb, 0, none⟩), .agg cs.toArray, pv] w fun e w' => ∃ cs', e = .returned (.agg cs'.toArray) ∧ Fr No w w' ∧ PT (k + 1) S w' cs' (1 + nd.vars.length) := by
  obtain ⟨vv, av, cv, acs, ccs, rfl, hnm, hwf, h4, h5, h6, h7, h8⟩ := ht
  obtain ⟨va, vc, rfl, _, _⟩ := h4.1.form
  obtain ⟨aa, ac, rfl, hac1, hac2⟩ := h5.form
  obtain ⟨ca, cc, rfl, hcc1, hcc2⟩ := h7.form
  obtain ⟨pa, pc, rfl, hpc1, hpc2⟩ := hps.form
  unfold maxLen at hpc2
  obtain ⟨kd, hkd⟩ : ∃ kd, kd = nd.kind := ⟨_, rfl⟩
  have hkd1 : kd = 1 := hkd.trans hk1
  show Calls Tryz.prog 64 #[.pointer (some ⟨nb, 0, none⟩), .agg #[.int .i64 nd.kind, .int .i64 nd.n, .string nd.name, .string nd.token, .slice va nd.vars.length vc, .slice aa nd.args.length ac, .slice ca nd.cases.length cc], .slice pa Np pc] w _
  rw [← hkd]
  clear hkd hk1
  subst hkd1
  obtain ⟨W0, hW0⟩ : ∃ W0, W0 = ((w.alloc (.cells #[.int .i64 1, .int .i64 nd.n, .string nd.name, .string nd.token, .slice va nd.vars.length vc, .slice aa nd.args.length ac, .slice ca nd.cases.length cc] 32)).alloc (.cells tz 32)).alloc (.cells #[.int .i64 1, .int .i64 nd.n, .string nd.name, .string nd.token, .slice va nd.vars.length vc, .slice none 0 0, .slice none 0 0] 32) := ⟨_, rfl⟩
  have f0 : Fr No w W0 := by rw [hW0]; exact (((Fr.refl No w).alloc _).alloc _).alloc _
  have b0 : W0.heap[w.heap.size]? = some (.cells #[.int .i64 1, .int .i64 nd.n, .string nd.name, .string nd.token, .slice va nd.vars.length vc, .slice aa nd.args.length ac, .slice ca nd.cases.length cc] 32 (0, 0)) := by rw [hW0]; exact fr_heap (heap_alloc_new w _) (((Fr.refl No _).alloc _).alloc _) (fun e => e)
  have b1 : W0.heap[w.heap.size + 1]? = some (.cells tz 32 (0, 0)) := by
    have h := heap_alloc_new (w.alloc (.cells #[.int .i64 1, .int .i64 nd.n, .string nd.name, .string nd.token, .slice va nd.vars.length vc, .slice aa nd.args.length ac, .slice ca nd.cases.length cc] 32)) (.cells tz 32)
    rw [World.size_alloc] at h
    rw [hW0]; exact fr_heap h ((Fr.refl No _).alloc _) (fun e => e)
  have b2 : W0.heap[w.heap.size + 1 + 1]? = some (.cells #[.int .i64 1, .int .i64 nd.n, .string nd.name, .string nd.token, .slice va nd.vars.length vc, .slice none 0 0, .slice none 0 0] 32 (0, 0)) := by
    have h := heap_alloc_new ((w.alloc (.cells #[.int .i64 1, .int .i64 nd.n, .string nd.name, .string nd.token, .slice va nd.vars.length vc, .slice aa nd.args.length ac, .slice ca nd.cases.length cc] 32)).alloc (.cells tz 32)) (.cells #[.int .i64 1, .int .i64 nd.n, .string nd.name, .string nd.token, .slice va nd.vars.length vc, .slice none 0 0, .slice none 0 0] 32)
    rw [World.size_alloc, World.size_alloc] at h
    rw [hW0]; exact h
  have HW0 := hide hW0
  have F0 := hide f0
  have B0 := hide b0
  have B1 := hide b1
  have B2 := hide b2
  have HPS := hide hps
  have HPL := hide hpl
  have HPSH := hide hpsh
  have HS := hide hS
  have HNM := hide (And.intro hnm hwf)
  have H4 : Hid (NamesP S w (.slice va nd.vars.length vc) nd.vars) := ⟨h4.1.rowP hSB, h4.2⟩
  clear hW0 f0 b0 b1 b2 hps hpl hpsh hS hnm hwf h4 h5 h6 h7 h8 _hn hSB
  go_enter Tryz.func64, Tryz.ntmps64
  go_wp2_with fail
  rw [← HW0.out]
  go_loopw [27] (fun q wr => ∃ (i : Nat) (x : ByteArray), i ≤ Np ∧ q = .int .i64 i ∧ Fr No w wr ∧ wr.heap[w.heap.size]? = some (.cells #[.int .i64 1, .int .i64 nd.n, .string nd.name, .string nd.token, .slice va nd.vars.length vc, .slice aa nd.args.length ac, .slice ca nd.cases.length cc] 32 (0, 0)) ∧ wr.heap[w.heap.size + 1]? = some (.cells tz 32 (0, 0)) ∧ wr.heap[w.heap.size + 1 + 1]? = some (.cells #[.int .i64 1, .int .i64 nd.n, .string x, .string nd.token, .slice va nd.vars.length vc, .slice none 0 0, .slice none 0 0] 32 (0, 0)) ∧ x.size ≤ maxLen) (fun q _ => Np - (intOf q).toNat)
  case atStart => exact ⟨0, nd.name, Nat.zero_le _, rfl, F0.out, B0.out, B1.out, B2.out, HNM.out.1⟩
  case round =>
    obtain ⟨i, x, hi, rfl, hf, hb0, hb1, hb2, hx⟩ := hrel
    have k0 := cell_of_heap hb0
    have l0 := lt_of_heap hb0
    have k2 := cell_of_heap hb2
    have z2 := frozen_of_heap hb2
    have l2 := lt_of_heap hb2
    have k1 := cell_of_heap hb1
    have z1 := frozen_of_heap hb1
    have l1 := lt_of_heap hb1
    have HB0 := hide hb0
    have HB1 := hide hb1
    have HB2 := hide hb2
    have HF := hide hf
    have HX := hide hx
    by_cases hlt : i < Np
    · obtain ⟨g, o, cap, hv, _, _, _, hgl0, hcell⟩ := (HPS.out.kept (S' := Sp) (stays_of_fr hf)).at (by omega)
      injection hv with hv1 hv2 hv3
      subst hv1 hv3
      have hlen := HPL.out
      obtain ⟨p0, hp0⟩ : ∃ p0, ps[i * 2]? = some p0 := ⟨_, List.getElem?_eq_getElem (by omega)⟩
      obtain ⟨p1, hp1⟩ : ∃ p1, ps[i * 2 + 1]? = some p1 := ⟨_, List.getElem?_eq_getElem (by omega)⟩
      have q0 : wr.cell? ⟨g, o + i * 2, none⟩ = some (.string p0) := by rw [hcell _ (by rw [List.length_map]; omega), List.getElem?_map, hp0]; rfl
      have q1 : wr.cell? ⟨g, o + i * 2 + 1, none⟩ = some (.string p1) := by rw [Nat.add_assoc, hcell _ (by rw [List.length_map]; omega), List.getElem?_map, hp1]; rfl
      have hs1 : p1.size ≤ maxLen := HPSH.out p1 (List.mem_of_getElem? hp1)
      have HS1 := hide hs1
      have i1 : (i : Int) < (Np : Int) := by omega
      have i0 : (0 : Int) ≤ (i : Int) := by omega
      clear hcell hp0 hp1 hs1 hb0 hb1 hb2 hf hx
      have hw2 : w.heap.size ≤ w.heap.size + 1 + 1 := by omega
      go_wp2_with fail
      · go_roundw
        case rel =>
          obtain ⟨Z, hZ⟩ : ∃ Z, Z = wr.setCell ⟨w.heap.size + 1 + 1, 2, none⟩ (.string p1) := ⟨_, rfl⟩
          rw [← hZ]
          have fz : Fr (· = w.heap.size + 1 + 1) wr Z := by rw [hZ]; exact (Fr.refl (· = w.heap.size + 1 + 1) wr).setCell (p := ⟨w.heap.size + 1 + 1, 2, none⟩) (.inl rfl) _
          have bz : Z.heap[w.heap.size + 1 + 1]? = some (.cells #[.int .i64 1, .int .i64 nd.n, .string p1, .string nd.token, .slice va nd.vars.length vc, .slice none 0 0, .slice none 0 0] 32 (0, 0)) := by rw [hZ]; simp [World.setCell, Array.getElem?_modify, HB2.out]
          clear hZ
          have hs := HF.out.size
          refine ⟨i + 1, p1, by omega, by go_num, (HF.out.trans' fz (fun j hj e => by have e : j = w.heap.size + 1 + 1 := e; omega)).alloc _, fr_heap (fr_heap HB0.out fz (fun e => by have e : w.heap.size = w.heap.size + 1 + 1 := e; omega)) ((Fr.refl No _).alloc _) (fun e => e), fr_heap (fr_heap HB1.out fz (fun e => by have e : w.heap.size + 1 = w.heap.size + 1 + 1 := e; omega)) ((Fr.refl No _).alloc _) (fun e => e), fr_heap bz ((Fr.refl No _).alloc _) (fun e => e), HS1.out⟩
        case measure => simp [intOf]; omega
      · go_roundw
        case rel =>
          exact ⟨i + 1, x, by omega, by go_num, HF.out.alloc _, fr_heap HB0.out ((Fr.refl No _).alloc _) (fun e => e), fr_heap HB1.out ((Fr.refl No _).alloc _) (fun e => e), fr_heap HB2.out ((Fr.refl No _).alloc _) (fun e => e), HX.out⟩
        case measure => simp [intOf]; omega
    · have hil : i = Np := by omega
      subst hil
      clear hb0 hb1 hb2 hf hx
      go_wp2_with fail
      obtain ⟨s1, s2⟩ := set7 HB1.out (.int .i64 1) (.int .i64 nd.n) (.string x) (.string nd.token) (.slice va nd.vars.length vc) (.slice none 0 0) (.slice none 0 0)
      have hs := HF.out.size
      have hF1 : Fr No w _ := HF.out.trans' s2 (fun i hi e => by have e : i = w.heap.size + 1 := e; omega)
      refine bodyPost_ret (retT rfl _ _ (w.heap.size + 1) _ _ _ _ _ _ _ (0, 0) rfl s1) rfl ⟨_, rfl, hF1, leaf_pt ⟨by omega, by omega, by omega⟩ HX.out HNM.out.2 (H4.out.kept (stays_of_fr hF1))⟩
end Go.Proofs.YtomahbdidlglfacGreatDoor
