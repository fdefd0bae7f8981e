/- The document's renaming of terms that are no names, walked. -/
import Derived.Test.YtomahbdidlglfacGreatDoorPq4
import Derived.Test.YtomahbdidlglfacGreatDoorOw3
namespace Go.Proofs.YtomahbdidlglfacGreatDoor
open Go.RowKit Go.Maps Go.WideMaps

/-- Two loads, by names of their own: a walk takes them as they come up. -/
def ldN : Op := Op.load 29 (.tmp 74)
def ldM : Op := Op.load 30 (.tmp 98)
theorem ldN_eq : ldN = Op.load 29 (.tmp 74) := rfl
theorem ldM_eq : ldM = Op.load 30 (.tmp 98) := rfl
attribute [local go_sem] ldN_eq ldM_eq

set_option maxRecDepth 100000 in
set_option maxHeartbeats 8000000 in
theorem nterm_rest (k : Nat) (ih : NTerm k) (nb K Np B : Nat) (S : Nat → Prop) (w : World) (cs : List Value) (pv : Value) (nd : Pu.Node (Pu.TT k)) (ps : List ByteArray) (hS : ∀ g, w.heap.size ≤ g → S g) (hSn : ¬ S nb) (hn : w.heap[nb]? = some (.cells #[.int .i64 (K : Int)] 96 (0, 0))) (h3 : 3 ≤ nb) (henv : Env w) (hB : B ≤ nb) (hSB : ∀ g, g < B → S g) (ht : RT (k + 1) B w cs nd) (hq : Pq (k + 1) nd) (hk1 : nd.kind ≠ 1) (hps : RowP (fun g => g ≠ nb) w pv Np (ps.map .string)) (hpl : ps.length = Np * 2) (hpsh : Short ps) (hK : K + Pu.wt (k + 1) nd ≤ 1073741824) (hNp : Np + Pu.wt (k + 1) nd ≤ 1073741824) :
    Calls Tryz.prog 64 #[.pointer (some ⟨nb, 0, none⟩), .agg cs.toArray, pv] w fun e w' => ∃ cs', e = .returned (.agg cs'.toArray) ∧ Fr (· = nb) w w' ∧ (∃ K' : Nat, w'.heap[nb]? = some (.cells #[.int .i64 (K' : Int)] 96 (0, 0)) ∧ K' ≤ K + Pu.wt (k + 1) nd) ∧ ∃ m, PT (k + 1) S w' cs' m ∧ m ≤ Pu.wt (k + 1) nd := by
  obtain ⟨vv, av, cv, acs, ccs, rfl, hnm, hwf, h4, h5, h6, h7, h8⟩ := ht
  obtain ⟨va, vc, rfl, _, _⟩ := h4.1.form
  obtain ⟨aa0, ac0, rfl, hac1, hac2⟩ := h5.form
  obtain ⟨ca, cc, rfl, hcc1, hcc2⟩ := h7.form
  obtain ⟨pa, pc, rfl, hpc1, hpc2⟩ := hps.form
  unfold maxLen at hpc2 hac2 hcc2
  have hnw := lt_of_heap hn
  have hwt : Pu.wt (k + 1) nd = 1 + nd.vars.length + (nd.args.map (Pu.wt k)).sum + (nd.cases.map fun c => 1 + c.2.1.length + Pu.wt k c.2.2).sum := rfl
  have hla := len_le (Pu.wt k) (wt_pos k) nd.args
  have hlc := len_le (fun c : Int × List ByteArray × Pu.TT k => 1 + c.2.1.length + Pu.wt k c.2.2) (fun c => by omega) nd.cases
  obtain ⟨S0, hS0⟩ : ∃ S0 : Nat → Prop, S0 = fun g => S g ∧ g ≠ w.heap.size ∧ g ≠ w.heap.size + 1 ∧ g ≠ w.heap.size + 2 := ⟨_, rfl⟩
  obtain ⟨wl, hwl⟩ : ∃ wl, wl = nd.args.map (Pu.wt k) := ⟨_, rfl⟩
  obtain ⟨W0, hW0⟩ : ∃ W0, W0 = ((w.alloc (.cells #[.int .i64 nd.kind, .int .i64 nd.n, .string nd.name, .string nd.token, .slice va nd.vars.length vc, .slice aa0 nd.args.length ac0, .slice ca nd.cases.length cc] 32)).alloc (.cells tz 32)).alloc (.cells #[.int .i64 nd.kind, .int .i64 nd.n, .string nd.name, .string nd.token, .slice va nd.vars.length vc, .slice none 0 0, .slice none 0 0] 32) := ⟨_, rfl⟩
  have f0 : Fr No w W0 := by rw [hW0]; exact (((Fr.refl No w).alloc _).alloc _).alloc _
  have b0 : W0.heap[w.heap.size]? = some (.cells #[.int .i64 nd.kind, .int .i64 nd.n, .string nd.name, .string nd.token, .slice va nd.vars.length vc, .slice aa0 nd.args.length ac0, .slice ca nd.cases.length cc] 32 (0, 0)) := by rw [hW0]; exact fr_heap (heap_alloc_new w _) (((Fr.refl No _).alloc _).alloc _) (fun e => e)
  have b1 : W0.heap[w.heap.size + 1]? = some (.cells tz 32 (0, 0)) := by
    have h := heap_alloc_new (w.alloc (.cells #[.int .i64 nd.kind, .int .i64 nd.n, .string nd.name, .string nd.token, .slice va nd.vars.length vc, .slice aa0 nd.args.length ac0, .slice ca nd.cases.length cc] 32)) (.cells tz 32)
    rw [World.size_alloc] at h
    rw [hW0]; exact fr_heap h ((Fr.refl No _).alloc _) (fun e => e)
  have b2 : W0.heap[w.heap.size + 1 + 1]? = some (.cells #[.int .i64 nd.kind, .int .i64 nd.n, .string nd.name, .string nd.token, .slice va nd.vars.length vc, .slice none 0 0, .slice none 0 0] 32 (0, 0)) := by
    have h := heap_alloc_new ((w.alloc (.cells #[.int .i64 nd.kind, .int .i64 nd.n, .string nd.name, .string nd.token, .slice va nd.vars.length vc, .slice aa0 nd.args.length ac0, .slice ca nd.cases.length cc] 32)).alloc (.cells tz 32)) (.cells #[.int .i64 nd.kind, .int .i64 nd.n, .string nd.name, .string nd.token, .slice va nd.vars.length vc, .slice none 0 0, .slice none 0 0] 32)
    rw [World.size_alloc, World.size_alloc] at h
    rw [hW0]; exact h
  have hs0 : W0.heap.size = w.heap.size + 3 := by rw [hW0]; simp
  have N0 : Hid (NA k nb S0 w #[.int .i64 nd.kind, .int .i64 nd.n, .string nd.name, .string nd.token, .slice va nd.vars.length vc, .slice aa0 nd.args.length ac0, .slice ca nd.cases.length cc] nd.kind nd.n nd.token (.slice va nd.vars.length vc) wl 0 none 0 K nd.name W0) :=
    ⟨f0.mono (fun _ _ e => e.elim), fr_heap hn f0 (fun e => e), b0, b1, hnm, b2, [], [], World.ownsRow_nil _ _ _ _, rfl, rfl, by simp⟩
  have old : ∀ W, Fr (· = nb) w W → Old B w W := fun W hW => hW.old (by omega) (fun j hj e => by have e : j = nb := e; omega)
  have HARG : Hid (∀ W, Fr (· = nb) w W → ∀ i (h : i < nd.args.length), ∃ g o cap k2a n2a x2a y2a b0 m0 e0 b1 m1 e1 b2 m2 e2, Value.slice aa0 nd.args.length ac0 = .slice (some ⟨g, o, none⟩) nd.args.length cap ∧ g < W.heap.size ∧ RT k B W [.int .i64 k2a, .int .i64 n2a, .string x2a, .string y2a, .slice b0 m0 e0, .slice b1 m1 e1, .slice b2 m2 e2] nd.args[i] ∧ ∀ j, j < 7 → W.cell? ⟨g, o + i * 7 + j, none⟩ = [Value.int .i64 k2a, .int .i64 n2a, .string x2a, .string y2a, .slice b0 m0 e0, .slice b1 m1 e1, .slice b2 m2 e2][j]?) := fun W hW i hi => by
    obtain ⟨g, o, cap, ck, hv, _, hSg, hgl, _, hck, hcell⟩ := (h5.rowP (S := fun g => g < B) (fun _ h => h)).el h6 i hi
    obtain ⟨k2a, n2a, x2a, y2a, b0, m0, e0, b1, m1, e1, b2, m2, e2, rfl⟩ := hck.form
    have hfb : ∀ g, g < B → W.heap[g]? = w.heap[g]? := fun g hg => (old W hW) g hg
    exact ⟨g, o, cap, k2a, n2a, x2a, y2a, b0, m0, e0, b1, m1, e1, b2, m2, e2, hv, Nat.lt_of_lt_of_le hgl hW.size, hck.old (old W hW) hW.size, fun j hj => by rw [show W.cell? ⟨g, o + i * 7 + j, none⟩ = w.cell? ⟨g, o + i * 7 + j, none⟩ from by simp only [World.cell?, hfb g hSg]]; exact hcell j hj⟩
  have CT : Hid (∀ (a : Pu.TT k) (W : World) (aa : Option Addr) (i ac K1 Np' : Nat) (xs : List Value) (pv' : Value) (ps' : List ByteArray) (k2a n2a x2a y2a b0 m0 e0 b1 m1 e1 b2 m2 e2), a ∈ nd.args → Fr (· = nb) w W → W.heap[nb]? = some (.cells #[.int .i64 (K1 : Int)] 96 (0, 0)) → w.heap.size + 3 ≤ W.heap.size → W.ownsRow (w.heap.size + 3) 32 7 (.slice aa i ac) i xs → RT k B W [.int .i64 k2a, .int .i64 n2a, .string x2a, .string y2a, .slice b0 m0 e0, .slice b1 m1 e1, .slice b2 m2 e2] a → RowP (fun g => g ≠ nb) W pv' Np' (ps'.map .string) → ps'.length = Np' * 2 → Short ps' → K1 + Pu.wt k a ≤ 1073741824 → Np' + Pu.wt k a ≤ 1073741824 →
      Calls Tryz.prog 64 #[.pointer (some ⟨nb, 0, none⟩), .agg #[.int .i64 k2a, .int .i64 n2a, .string x2a, .string y2a, .slice b0 m0 e0, .slice b1 m1 e1, .slice b2 m2 e2], pv'] W fun e w' => ∃ kc nc xc yc r0 p0 d0 r1 p1 d1 r2 p2 d2, e = .returned (.agg #[.int .i64 kc, .int .i64 nc, .string xc, .string yc, .slice r0 p0 d0, .slice r1 p1 d1, .slice r2 p2 d2]) ∧ Fr (· = nb) W w' ∧ (∃ K2 : Nat, w'.heap[nb]? = some (.cells #[.int .i64 (K2 : Int)] 96 (0, 0)) ∧ K2 ≤ K1 + Pu.wt k a) ∧ ∃ m, PT k (SXo S0 (.slice aa i ac)) w' [.int .i64 kc, .int .i64 nc, .string xc, .string yc, .slice r0 p0 d0, .slice r1 p1 d1, .slice r2 p2 d2] m ∧ m ≤ Pu.wt k a) := fun a W aa i ac K1 Np' xs pv' ps' k2a n2a x2a y2a b0 m0 e0 b1 m1 e1 b2 m2 e2 ha hW hK1 hw3 ho hr hp hpl' hps' hb1 hb2 => by
    refine (ih nb K1 Np' B (SXo S0 (.slice aa i ac)) W _ pv' a ps' (fun g hg => ⟨by rw [hS0]; exact ⟨hS g (by omega), by omega, by omega, by omega⟩, fun e => by have := (ho.lt g e).2; omega⟩) (fun h => by have h1 := h.1; rw [hS0] at h1; exact hSn h1.1) hK1 h3 (henv.fr hW (by omega) (fun j hj e => by have e : j = nb := e; omega)) hB (fun g hg => ⟨by rw [hS0]; exact ⟨hSB g hg, by omega, by omega, by omega⟩, fun e => by have := (ho.lt g e).1; omega⟩) hr (hq.2.1 a ha) hp hpl' hps' hb1 hb2).mono fun e w' ⟨cs', he, hf, hk, m, hm1, hm2⟩ => ?_
    obtain ⟨kc, nc, xc, yc, r0, p0, d0, r1, p1, d1, r2, p2, d2, rfl⟩ := hm1.form
    exact ⟨kc, nc, xc, yc, r0, p0, d0, r1, p1, d1, r2, p2, d2, he, hf, hk, m, hm1, hm2⟩
  have HS3 : Hid (∀ g, w.heap.size + 3 ≤ g → S0 g) := fun g hg => by rw [hS0]; exact ⟨hS g (by omega), by omega, by omega, by omega⟩
  have HS4 : Hid (∀ g, S0 g → S g) := fun g hg => by rw [hS0] at hg; exact hg.1
  have HS5 : Hid (∀ g, S g → g < w.heap.size → S0 g) := fun g hg hl => by rw [hS0]; exact ⟨hg, by omega, by omega, by omega⟩
  have HS6 : Hid (∀ g, S0 g → g ≠ w.heap.size + 1) := fun g hg => by rw [hS0] at hg; exact hg.2.2.1
  obtain ⟨wl2, hwl2⟩ : ∃ wl2, wl2 = nd.cases.map (fun c => 1 + c.2.1.length + Pu.wt k c.2.2) := ⟨_, rfl⟩
  have HWC : Hid (Pu.wt (k + 1) nd = 1 + nd.vars.length + wl.sum + wl2.sum ∧ wl2.length = nd.cases.length) := ⟨by rw [hwl, hwl2]; exact hwt, by rw [hwl2, List.length_map]⟩
  have HCASE : Hid (∀ W, Fr (· = nb) w W → ∀ i (h : i < nd.cases.length), ∃ g o cap tg va9 vc9 kB nB xB yB b0 m0 e0 b1 m1 e1 b2 m2 e2, Value.slice ca nd.cases.length cc = .slice (some ⟨g, o, none⟩) nd.cases.length cap ∧ g < W.heap.size ∧ NamesP (fun g => g ≠ nb) W (.slice va9 nd.cases[i].2.1.length vc9) nd.cases[i].2.1 ∧ RT k B W [.int .i64 kB, .int .i64 nB, .string xB, .string yB, .slice b0 m0 e0, .slice b1 m1 e1, .slice b2 m2 e2] nd.cases[i].2.2 ∧ vc9 ≤ maxLen ∧ ∀ j, j < 9 → W.cell? ⟨g, o + i * 9 + j, none⟩ = [Value.int .i64 tg, .slice va9 nd.cases[i].2.1.length vc9, .int .i64 kB, .int .i64 nB, .string xB, .string yB, .slice b0 m0 e0, .slice b1 m1 e1, .slice b2 m2 e2][j]?) := fun W hW i hi => by
    obtain ⟨g, o, cap, ck, hv, _, hSg, hgl, _, hck, hcell⟩ := (h7.rowP (S := fun g => g < B) (fun _ h => h)).el h8 i hi
    obtain ⟨vv9, bb, rfl, hnm9, hbl, hrt⟩ := hck
    obtain ⟨va9, vc9, rfl, _, hvc9⟩ := hnm9.1.form
    obtain ⟨kB, nB, xB, yB, b0, m0, e0, b1, m1, e1, b2, m2, e2, rfl⟩ := hrt.form
    have hfb : ∀ g, g < B → W.heap[g]? = w.heap[g]? := fun g hg => (old W hW) g hg
    have hN : NamesP (fun g => g ≠ nb) w (.slice va9 nd.cases[i].2.1.length vc9) nd.cases[i].2.1 := ⟨hnm9.1.rowP (fun g hg e => by omega), hnm9.2⟩
    exact ⟨g, o, cap, nd.cases[i].1, va9, vc9, kB, nB, xB, yB, b0, m0, e0, b1, m1, e1, b2, m2, e2, hv, Nat.lt_of_lt_of_le hgl hW.size, hN.kept (stays_fr hW (fun g hg _ e => hg e) (fun _ h => h)), hrt.old (old W hW) hW.size, hvc9, fun j hj => by rw [show W.cell? ⟨g, o + i * 9 + j, none⟩ = w.cell? ⟨g, o + i * 9 + j, none⟩ from by simp only [World.cell?, hfb g hSg]]; exact hcell j hj⟩
  have CTC : Hid (∀ (c : Int × List ByteArray × Pu.TT k) (W : World) (v : Value) (K1 Np' : Nat) (pv' : Value) (ps' : List ByteArray) (kB nB xB yB b0 m0 e0 b1 m1 e1 b2 m2 e2), c ∈ nd.cases → Fr (· = nb) w W → W.heap[nb]? = some (.cells #[.int .i64 (K1 : Int)] 96 (0, 0)) → w.heap.size + 3 ≤ W.heap.size → (∀ a, v.ownBlock = some a → w.heap.size + 3 ≤ a ∧ a < W.heap.size) → RT k B W [.int .i64 kB, .int .i64 nB, .string xB, .string yB, .slice b0 m0 e0, .slice b1 m1 e1, .slice b2 m2 e2] c.2.2 → RowP (fun g => g ≠ nb) W pv' Np' (ps'.map .string) → ps'.length = Np' * 2 → Short ps' → K1 + Pu.wt k c.2.2 ≤ 1073741824 → Np' + Pu.wt k c.2.2 ≤ 1073741824 →
      Calls Tryz.prog 64 #[.pointer (some ⟨nb, 0, none⟩), .agg #[.int .i64 kB, .int .i64 nB, .string xB, .string yB, .slice b0 m0 e0, .slice b1 m1 e1, .slice b2 m2 e2], pv'] W fun e w' => ∃ kc nc xc yc r0 p0 d0 r1 p1 d1 r2 p2 d2, e = .returned (.agg #[.int .i64 kc, .int .i64 nc, .string xc, .string yc, .slice r0 p0 d0, .slice r1 p1 d1, .slice r2 p2 d2]) ∧ Fr (· = nb) W w' ∧ (∃ K2 : Nat, w'.heap[nb]? = some (.cells #[.int .i64 (K2 : Int)] 96 (0, 0)) ∧ K2 ≤ K1 + Pu.wt k c.2.2) ∧ ∃ m, PT k (SXo S0 v) w' [.int .i64 kc, .int .i64 nc, .string xc, .string yc, .slice r0 p0 d0, .slice r1 p1 d1, .slice r2 p2 d2] m ∧ m ≤ Pu.wt k c.2.2) := fun c W v K1 Np' pv' ps' kB nB xB yB b0 m0 e0 b1 m1 e1 b2 m2 e2 ha hW hK1 hw3 ho hr hp hpl' hps' hb1 hb2 => by
    refine (ih nb K1 Np' B (SXo S0 v) W _ pv' c.2.2 ps' (fun g hg => ⟨by rw [hS0]; exact ⟨hS g (by omega), by omega, by omega, by omega⟩, fun e => by have := (ho g e).2; omega⟩) (fun h => by have h1 := h.1; rw [hS0] at h1; exact hSn h1.1) hK1 h3 (henv.fr hW (by omega) (fun j hj e => by have e : j = nb := e; omega)) hB (fun g hg => ⟨by rw [hS0]; exact ⟨hSB g hg, by omega, by omega, by omega⟩, fun e => by have := (ho g e).1; omega⟩) hr (hq.2.2 c ha) hp hpl' hps' hb1 hb2).mono fun e w' ⟨cs', he, hf, hk, m, hm1, hm2⟩ => ?_
    obtain ⟨kc, nc, xc, yc, r0, p0, d0, r1, p1, d1, r2, p2, d2, rfl⟩ := hm1.form
    exact ⟨kc, nc, xc, yc, r0, p0, d0, r1, p1, d1, r2, p2, d2, he, hf, hk, m, hm1, hm2⟩
  have HWL2 : Hid (∀ i (h : i < nd.cases.length), (wl2.take (i + 1)).sum = (wl2.take i).sum + (1 + nd.cases[i].2.1.length + Pu.wt k nd.cases[i].2.2) ∧ (wl2.take i).sum + (1 + nd.cases[i].2.1.length + Pu.wt k nd.cases[i].2.2) ≤ wl2.sum) := fun i hi => by
    have hl : i < wl2.length := by rw [hwl2, List.length_map]; exact hi
    have he : wl2[i] = 1 + nd.cases[i].2.1.length + Pu.wt k nd.cases[i].2.2 := by simp [hwl2]
    have h1 : (wl2.take (i + 1)).sum = (wl2.take i).sum + (1 + nd.cases[i].2.1.length + Pu.wt k nd.cases[i].2.2) := by rw [List.take_succ_eq_append_getElem hl, List.sum_append, he]; simp
    have h2 : wl2.sum = (wl2.take (i + 1)).sum + (wl2.drop (i + 1)).sum := by rw [← List.sum_append, List.take_append_drop]
    exact ⟨h1, by omega⟩
  have HW0 := hide hW0
  have HS0 : Hid (∀ g, S0 g → g ≠ nb ∧ g ≠ w.heap.size + 2) := fun g hg => by rw [hS0] at hg; exact ⟨fun e => hSn (e ▸ hg.1), hg.2.2.2⟩
  have HPS := hide hps
  have HPL := hide (And.intro hpl hpsh)
  have HWL : Hid (∀ i (h : i < nd.args.length), (wl.take (i + 1)).sum = (wl.take i).sum + Pu.wt k nd.args[i] ∧ Pu.wt k nd.args[i] ≤ wl.sum ∧ (wl.take i).sum + Pu.wt k nd.args[i] ≤ wl.sum) := fun i hi => by
    have hl : i < wl.length := by rw [hwl, List.length_map]; exact hi
    have he : wl[i] = Pu.wt k nd.args[i] := by simp [hwl]
    have h1 : (wl.take (i + 1)).sum = (wl.take i).sum + Pu.wt k nd.args[i] := by rw [List.take_succ_eq_append_getElem hl, List.sum_append, he]; simp
    have h2 : wl.sum = (wl.take (i + 1)).sum + (wl.drop (i + 1)).sum := by rw [← List.sum_append, List.take_append_drop]
    exact ⟨h1, by omega, by omega⟩
  have hbn : K + 1 + wl.sum ≤ 1073741824 ∧ Np + 1 + wl.sum ≤ 1073741824 := by rw [← hwl] at hwt; exact ⟨by omega, by omega⟩
  have HBN := hide hbn
  have HQ2 := hide hq.1.2
  have hal : nd.args.length ≤ 1073741824 := by omega
  have hcl : nd.cases.length ≤ 1073741824 := by omega
  have hkd : (nd.kind == 1) = false := by simpa using hk1
  have H4 : Hid (NamesP S w (.slice va nd.vars.length vc) nd.vars) := ⟨h4.1.rowP hSB, h4.2⟩
  have HNM := hide (And.intro hnm hwf)
  have HSN := hide (And.intro hS hSn)
  have HEN := hide (And.intro henv (And.intro h3 (And.intro hB hSB)))
  have HQ := hide hq
  have HIH := hide ih
  have HWT := hide (And.intro hwt (And.intro hK hNp))
  clear hW0 f0 b0 b1 b2 hps hpl hpsh hS0 old hbn h5 h6 h7 h8 ih hS hSn hSB hq hwt hla hlc hK hNp hn h4 hnm hwf henv hB hwl hs0
  show Calls Tryz.prog 64 #[.pointer (some ⟨nb, 0, none⟩), .agg #[.int .i64 nd.kind, .int .i64 nd.n, .string nd.name, .string nd.token, .slice va nd.vars.length vc, .slice aa0 nd.args.length ac0, .slice ca nd.cases.length cc], .slice pa Np pc] w _
  go_enter Tryz.func64, Tryz.ntmps64
  go_wp2_with fail
  rw [← HW0.out]
  go_loopw [44] (fun q wr => ∃ (i : Nat) (aa : Option Addr) (ac K' : Nat) (x : ByteArray), i ≤ nd.args.length ∧ q = .int .i64 i ∧ K' ≤ K + (wl.take i).sum + (if 1 < i then 1 else 0) ∧ NA k nb S0 w #[.int .i64 nd.kind, .int .i64 nd.n, .string nd.name, .string nd.token, .slice va nd.vars.length vc, .slice aa0 nd.args.length ac0, .slice ca nd.cases.length cc] nd.kind nd.n nd.token (.slice va nd.vars.length vc) wl i aa ac K' x wr) (fun q _ => nd.args.length - (intOf q).toNat)
  case atStart => exact ⟨0, none, 0, K, nd.name, Nat.zero_le _, rfl, by simp, N0.out⟩
  case round =>
    obtain ⟨i, aa, ac, K', x, hi, rfl, hcnt, hna⟩ := hrel
    have k0 := cell_of_heap hna.t
    have l0 := lt_of_heap hna.t
    have k2 := cell_of_heap hna.o
    have z2 := frozen_of_heap hna.o
    have l2 := lt_of_heap hna.o
    have hw3 : w.heap.size + 3 ≤ wr.heap.size := by omega
    have HNA := hide hna
    by_cases hlt : i < nd.args.length
    · obtain ⟨g, o, cap, k2a, n2a, x2a, y2a, b0, m0, e0, b1, m1, e1, b2, m2, e2, hv, hgl, hrt, hcell⟩ := HARG.out wr hna.fr i hlt
      injection hv with hv1 _ hv2
      subst hv1 hv2
      have q0 : wr.cell? ⟨g, o + i * 7, none⟩ = some (.int .i64 k2a) := hcell 0 (by omega)
      have q1 := hcell 1 (by omega)
      have q2 := hcell 2 (by omega)
      have q3 := hcell 3 (by omega)
      have q4 := hcell 4 (by omega)
      have q5 := hcell 5 (by omega)
      have q6 := hcell 6 (by omega)
      have HRT := hide hrt
      have HLT := hide (List.getElem_mem hlt)
      have i1 : (i : Int) < (nd.args.length : Int) := by omega
      have i0 : (0 : Int) ≤ (i : Int) := by omega
      clear hna hcell hrt
      by_cases h61 : nd.kind = 6 ∧ i = 1
      · obtain ⟨h6, hi1⟩ := h61
        have e6 : (nd.kind == 6) = true := by simpa using h6
        have ei : ((i : Int) == 1) = true := by have : (i : Int) = 1 := by omega
                                                simpa using this
        have HI1 := hide hi1
        clear h6 hi1
        have f13 : Fr No wr ((wr.alloc (.cells #[.int .i64 k2a, .int .i64 n2a, .string x2a, .string y2a, .slice b0 m0 e0, .slice b1 m1 e1, .slice b2 m2 e2] 32)).alloc (.cells #[.string nd.name] 9)) := ((Fr.refl No wr).alloc _).alloc _
        have lit : Hid (NamesP (fun g => g ≠ nb) ((wr.alloc (.cells #[.int .i64 k2a, .int .i64 n2a, .string x2a, .string y2a, .slice b0 m0 e0, .slice b1 m1 e1, .slice b2 m2 e2] 32)).alloc (.cells #[.string nd.name] 9)) (.slice (some ⟨wr.heap.size + 1, 0, none⟩) 1 1) [nd.name]) := by
          have h := litP (S := fun g => g ≠ nb) (wr.alloc (.cells #[.int .i64 k2a, .int .i64 n2a, .string x2a, .string y2a, .slice b0 m0 e0, .slice b1 m1 e1, .slice b2 m2 e2] 32)) #[.string nd.name] 9 1 (by decide) (by rw [World.size_alloc]; omega)
          rw [World.size_alloc] at h
          exact ⟨h, fun y hy => by simp at hy; rw [hy]; exact HNM.out.1⟩
        have CF : Hid (Calls Tryz.prog 63 #[.pointer (some ⟨nb, 0, none⟩), .slice (some ⟨wr.heap.size + 1, 0, none⟩) 1 1] ((wr.alloc (.cells #[.int .i64 k2a, .int .i64 n2a, .string x2a, .string y2a, .slice b0 m0 e0, .slice b1 m1 e1, .slice b2 m2 e2] 32)).alloc (.cells #[.string nd.name] 9)) fun e w2 => ∃ ng no ncp pa2 pc2 x0 ps2, e = .returned (.tuple #[.slice (some ⟨ng, no, none⟩) 1 ncp, .slice pa2 1 pc2]) ∧ ncp ≤ maxLen ∧ Fr (· = nb) wr w2 ∧ w2.heap[nb]? = some (.cells #[.int .i64 ((K' + 1 : Nat) : Int)] 96 (0, 0)) ∧ ng < w2.heap.size ∧ wr.heap.size ≤ ng ∧ w2.cell? ⟨ng, no, none⟩ = some (.string x0) ∧ x0.size ≤ maxLen ∧ RowP (fun g => wr.heap.size ≤ g) w2 (.slice pa2 1 pc2) 1 (ps2.map .string) ∧ ps2.length = 2 ∧ Short ps2 ∧ w2.heap[wr.heap.size]? = some (.cells #[.int .i64 k2a, .int .i64 n2a, .string x2a, .string y2a, .slice b0 m0 e0, .slice b1 m1 e1, .slice b2 m2 e2] 32 (0, 0))) := by
          refine (fresh_any nb K' (fun g => wr.heap.size ≤ g) _ _ [nd.name] (fun g hg => Nat.le_trans f13.size hg) (fr_heap HNA.out.nbx f13 (fun e => e)) h3 (HEN.out.1.fr (HNA.out.fr.no f13) (by omega) (fun j hj e => by have e : j = nb := e; omega)) lit.out (by have := HBN.out.1; have hw := (HWL.out i hlt).2.2; have := HI1.out; have hc := hcnt; split at hc <;> simp <;> omega)).mono fun e w2 ⟨na, nc, pa2, pc2, ns, ps2, he, hf2, hb2, hfr⟩ => ?_
          obtain ⟨ng, no, ncp, hv, _, hcp, hng1, hng2, hcell⟩ := hfr.names.at (by simp)
          injection hv with hv1 _ hv2
          subst hv1 hv2
          have hl1 := hfr.len1
          have hl2 := hfr.len2
          match ns, hl1, hcell, hfr.short1 with
          | [x0], _, hcell, hsh =>
            have hq := hcell 0 (by simp)
            exact ⟨ng, no, _, pa2, pc2, x0, ps2, he, hcp, (f13.mono (fun _ _ e => e.elim)).trans hf2, by rw [hb2]; simp, hng2, hng1, by simpa using hq, hsh x0 (by simp), hfr.pairs, by simpa using hl2, hfr.short2, fr_heap (fr_heap (heap_alloc_new wr _) ((Fr.refl No _).alloc _) (fun e => e)) hf2 (fun e => by have e : wr.heap.size = nb := e; omega)⟩
        clear f13
        go_wp2_with fail
        refine CF.out.mono ?_
        rintro e w2 ⟨ng, no, ncp, pa2, pc2, x0, ps2, rfl, hcp, hf2, hb2, hng, hng2, hx0, hx0s, hpr, hpl2, hps2, hb11⟩
        have ko2 := fr_heap HNA.out.o hf2 (fun e => by have e : w.heap.size + 1 + 1 = nb := e; omega)
        have kc2 := cell_of_heap ko2
        have kz2 := frozen_of_heap ko2
        have kl2 := lt_of_heap ko2
        obtain ⟨Z, hZ⟩ : ∃ Z, Z = w2.setCell ⟨w.heap.size + 1 + 1, 2, none⟩ (.string x0) := ⟨_, rfl⟩
        have fz : Fr (· = w.heap.size + 2) w2 Z := by rw [hZ]; exact (Fr.refl (· = w.heap.size + 2) w2).setCell (p := ⟨w.heap.size + 1 + 1, 2, none⟩) (.inl rfl) _
        have bz : Z.heap[w.heap.size + 1 + 1]? = some (.cells #[.int .i64 nd.kind, .int .i64 nd.n, .string x0, .string nd.token, .slice va nd.vars.length vc, .slice aa i ac, .slice none 0 0] 32 (0, 0)) := by rw [hZ]; simp [World.setCell, Array.getElem?_modify, ko2]
        have hzs : Z.heap.size = w2.heap.size := by rw [hZ]; simp [World.setCell]
        have HZ' := hide hZ
        clear hZ
        have fl : Fr No Z (Z.alloc (.cells #[] 132)) := (Fr.refl No Z).alloc _
        have fT : Fr (fun g => g = nb ∨ g = w.heap.size + 2) wr (Z.alloc (.cells #[] 132)) := ((hf2.mono (fun _ _ e => .inl e)).trans (fz.mono (fun _ _ e => .inr e))).no fl
        have hws := hf2.size
        have R1 : Hid (∃ v' w', (Builtin.append_ #[97, 97] 97 #[.slice (some ⟨w2.heap.size, 0, none⟩) 0 0, .slice pa Np pc]).run Tryz.prog (Z.alloc (.cells #[] 132)) = .ok v' w' ∧ (∃ a' c', v' = .slice a' Np c' ∧ w'.ownsRow w2.heap.size 132 2 v' Np (ps.map .string) ∧ (∀ (q : Nat) (c : Array Value) (t : Nat) (z : Nat × Nat), t ≠ 132 → (Z.alloc (.cells #[] 132)).heap[q]? = some (Obj.cells c t z) → w'.heap[q]? = some (Obj.cells c t z)) ∧ Fr (fun g => w2.heap.size ≤ g) (Z.alloc (.cells #[] 132)) w')) := by
          have hp : RowP (fun g => g ≠ nb) (Z.alloc (.cells #[] 132)) (.slice pa Np pc) Np (ps.map .string) := by
            obtain ⟨a', c', p1, p2, p3, p4⟩ := HPS.out
            refine ⟨a', c', p1, p2, p3, fun h0 => ?_⟩
            obtain ⟨g', o', q1', q2', q3', q4'⟩ := p4 h0
            have hg' : (Z.alloc (.cells #[] 132)).heap[g']? = w.heap[g']? := ((fT.block g' (Nat.lt_of_lt_of_le q3' HNA.out.fr.size) (fun e => e.elim q2' (fun e => by omega))).trans (HNA.out.fr.block g' q3' q2'))
            exact ⟨g', o', q1', q2', Nat.lt_of_lt_of_le q3' (Nat.le_trans HNA.out.fr.size fT.size), fun j hj => by rw [show (Z.alloc (.cells #[] 132)).cell? ⟨g', o' + j, none⟩ = w.cell? ⟨g', o' + j, none⟩ from by simp only [World.cell?, hg']]; exact q4' j hj⟩
          have hl := row_litP w2.heap.size 132 2 Z (by omega)
          rw [hzs] at hl
          obtain ⟨v', w', g1, a', c', g2, g3, g4, g5⟩ := app_pairs (xs := []) (ys := ps) hl hp HPL.out.1 (by have := HBN.out.2; omega) (by rw [World.size_alloc]; omega)
          exact ⟨v', w', g1, a', c', by simpa using g2, by simpa using g3, g4, g5⟩
        have R2 : Hid (∀ w3 a3 c3, w3.ownsRow w2.heap.size 132 2 (.slice a3 Np c3) Np (ps.map .string) → Fr (fun g => w2.heap.size ≤ g) (Z.alloc (.cells #[] 132)) w3 → ∃ v' w', (Builtin.append_ #[97, 97] 97 #[.slice a3 Np c3, .slice pa2 1 pc2]).run Tryz.prog w3 = .ok v' w' ∧ (∃ a' c', v' = .slice a' (Np + 1) c' ∧ w'.ownsRow w2.heap.size 132 2 v' (Np + 1) ((ps ++ ps2).map .string) ∧ (∀ (q : Nat) (c : Array Value) (t : Nat) (z : Nat × Nat), t ≠ 132 → w3.heap[q]? = some (Obj.cells c t z) → w'.heap[q]? = some (Obj.cells c t z)) ∧ Fr (fun g => w2.heap.size ≤ g) w3 w')) := fun w3 a3 c3 ho hf3 => by
          have hp : RowP (fun _ => True) w3 (.slice pa2 1 pc2) 1 (ps2.map .string) := by
            have h1 := hpr.kept (S' := fun g => wr.heap.size ≤ g) (stays_fr fz (fun g hg _ e => by have e : g = w.heap.size + 2 := e; omega) (fun _ h => h))
            obtain ⟨a', c', p1, p2, p3, p4⟩ := h1
            refine ⟨a', c', p1, p2, p3, fun h0 => ?_⟩
            obtain ⟨g', o', q1', q2', q3', q4'⟩ := p4 h0
            have hg' : w3.heap[g']? = Z.heap[g']? := (hf3.block g' (Nat.lt_of_lt_of_le q3' fl.size) (fun e => by omega)).trans (fl.block g' q3' (fun e => e))
            exact ⟨g', o', q1', trivial, Nat.lt_of_lt_of_le q3' (Nat.le_trans fl.size hf3.size), fun j hj => by rw [show w3.cell? ⟨g', o' + j, none⟩ = Z.cell? ⟨g', o' + j, none⟩ from by simp only [World.cell?, hg']]; exact q4' j hj⟩
          obtain ⟨v', w', g1, a', c', g2, g3, g4, g5⟩ := app_pairs ho hp (by omega) (by have := HBN.out.2; omega) (by have := hf3.size; have := fl.size; omega)
          exact ⟨v', w', g1, a', c', g2, g3, g4, g5⟩
        have GX := hide (And.intro bz (And.intro fT (And.intro fl (And.intro hpl2 (And.intro hps2 (And.intro hx0s (And.intro hf2 (And.intro hb11 (And.intro hb2 fz)))))))))
        have HZS := hide hzs
        clear bz fT fl hpl2 hps2 hx0s hb11 hb2 fz hpr ko2 CF hzs lit
        unfold maxLen at hcp
        go_wp2_with (first
          | (at_builtin; rw [← HZ'.out]; refine list_app (.tmp 69) (.tmp 70) 97 rfl rfl rfl rfl rfl R1.out ?_; rintro v3 w3 ⟨a3, c3, rfl, p1, p2, p3⟩; have P1 := hide p1; have P2 := hide p2; have P3 := hide p3; clear p1 p2 p3 R1)
          | (at_builtin; refine list_app (.tmp 71) (.tmp 72) 97 rfl rfl rfl rfl rfl (R2.out _ _ _ P1.out P3.out) ?_; rintro v4 w4 ⟨p4, c4, rfl, p1, p2, p3⟩; have Q1 := hide p1; have Q2 := hide p2; have Q3 := hide p3; clear p1 p2 p3 R2)
          | fail)
        obtain ⟨bz, fT, fl, hpl2, hps2, hx0s, hf2', hb11, hb2, fz⟩ := GX.out
        have hzs := HZS.out
        have bo4 := Q2.out _ _ _ _ (by decide) (P2.out _ _ _ _ (by decide) (fr_heap bz fl (fun e => e)))
        have bn4 := Q2.out _ _ _ _ (by decide) (P2.out _ _ _ _ (by decide) (fr_heap (fr_heap hb2 fz (fun e => by have e : nb = w.heap.size + 2 := e; omega)) fl (fun e => e)))
        have FY : Hid (Fr (fun g => g = nb ∨ g = w.heap.size + 2) wr w4) := ((fT.trans' P3.out (fun j hj e => by omega)).trans' Q3.out (fun j hj e => by omega))
        have BY : Hid (w4.heap[wr.heap.size]? = some (.cells #[.int .i64 k2a, .int .i64 n2a, .string x2a, .string y2a, .slice b0 m0 e0, .slice b1 m1 e1, .slice b2 m2 e2] 32 (0, 0))) := Q2.out _ _ _ _ (by decide) (P2.out _ _ _ _ (by decide) (fr_heap (fr_heap hb11 fz (fun e => by have e : wr.heap.size = w.heap.size + 2 := e; omega)) fl (fun e => e)))
        have NY : Hid (∀ h : True, NA k nb S0 w #[.int .i64 nd.kind, .int .i64 nd.n, .string nd.name, .string nd.token, .slice va nd.vars.length vc, .slice (some ⟨g, o, none⟩) nd.args.length ac0, .slice ca nd.cases.length cc] nd.kind nd.n nd.token (.slice va nd.vars.length vc) wl i aa ac (K' + 1) x0 w4) := fun _ => HNA.out.move FY.out bn4 hnw HS0.out hx0s bo4
        have hPY : RowP (fun g => g ≠ nb) w4.drew (.slice p4 (Np + 1) c4) (Np + 1) ((ps ++ ps2).map .string) := rowP_own Q1.out (fun g hg => by have := (Q1.out.lt g hg).1; omega)
        have PY : Hid (RowP (fun g => g ≠ nb) w4.drew (.slice p4 (Np + 1) c4) (Np + 1) ((ps ++ ps2).map .string) ∧ (ps ++ ps2).length = (Np + 1) * 2 ∧ Short (ps ++ ps2)) := ⟨hPY, by rw [List.length_append, HPL.out.1, hpl2]; omega, fun y hy => (List.mem_append.1 hy).elim (HPL.out.2 y) (hps2 y)⟩
        have NY' : Hid (NA k nb S0 w #[.int .i64 nd.kind, .int .i64 nd.n, .string nd.name, .string nd.token, .slice va nd.vars.length vc, .slice (some ⟨g, o, none⟩) nd.args.length ac0, .slice ca nd.cases.length cc] nd.kind nd.n nd.token (.slice va nd.vars.length vc) wl i aa ac (K' + 1) x0 w4.drew) := (NY.out trivial).no ((Fr.refl No w4).drew) hnw (fun g hg => (HS0.out g hg).1)
        clear bz fT fl hpl2 hps2 hx0s hf2' hf2 hb11 hb2 fz hzs bo4 bn4 hPY kc2 kz2 kl2 hng hx0 hws hcp e6 ei
        obtain ⟨Wt, hWt⟩ : ∃ Wt, Wt = w4 := ⟨_, rfl⟩
        have HWt := hide hWt
        have fW : Fr (fun g => g = nb ∨ g = w.heap.size + 2) wr Wt.drew := by rw [hWt]; exact FY.out.drew
        have NAt : Hid (NA k nb S0 w #[.int .i64 nd.kind, .int .i64 nd.n, .string nd.name, .string nd.token, .slice va nd.vars.length vc, .slice (some ⟨g, o, none⟩) nd.args.length ac0, .slice ca nd.cases.length cc] nd.kind nd.n nd.token (.slice va nd.vars.length vc) wl i aa ac (K' + 1) x0 Wt.drew) := (by rw [hWt]; exact NY'.out)
        have B11 : Hid (Wt.drew.heap[wr.heap.size]? = some (.cells #[.int .i64 k2a, .int .i64 n2a, .string x2a, .string y2a, .slice b0 m0 e0, .slice b1 m1 e1, .slice b2 m2 e2] 32 (0, 0))) := (by rw [hWt]; exact BY.out)
        have PSX : Hid (RowP (fun g => g ≠ nb) Wt.drew (.slice p4 (Np + 1) c4) (Np + 1) ((ps ++ ps2).map .string) ∧ (ps ++ ps2).length = (Np + 1) * 2 ∧ Short (ps ++ ps2)) := (by rw [hWt]; exact PY.out)
        have hwt3 : w.heap.size + 3 ≤ Wt.drew.heap.size := by have := FY.out.size; rw [hWt]; show _ ≤ w4.heap.size; omega
        have hq11 : wr.heap.size ≠ nb := by omega
        have S1F : Hid (∀ W, Fr (· = nb) Wt.drew W → (W.cell? ⟨wr.heap.size, 0, none⟩ = some (.int .i64 k2a) ∧ W.cell? ⟨wr.heap.size, 1, none⟩ = some (.int .i64 n2a) ∧ W.cell? ⟨wr.heap.size, 2, none⟩ = some (.string x2a) ∧ W.cell? ⟨wr.heap.size, 3, none⟩ = some (.string y2a) ∧ W.cell? ⟨wr.heap.size, 4, none⟩ = some (.slice b0 m0 e0) ∧ W.cell? ⟨wr.heap.size, 5, none⟩ = some (.slice b1 m1 e1) ∧ W.cell? ⟨wr.heap.size, 6, none⟩ = some (.slice b2 m2 e2))) := fun W hW => by
          have ck := cell_of_heap (fr_heap B11.out hW hq11)
          exact ⟨ck 0, ck 1, ck 2, ck 3, ck 4, ck 5, ck 6⟩
        have hwli := HWL.out i hlt
        have hbnn := HBN.out
        have hK1 : (K' + 1) ≤ K + (wl.take i).sum + 1 := by have hi1 := HI1.out; rw [hi1] at hcnt ⊢; simp at hcnt; omega
        have CT1 : Hid (Calls Tryz.prog 64 #[.pointer (some ⟨nb, 0, none⟩), .agg #[.int .i64 k2a, .int .i64 n2a, .string x2a, .string y2a, .slice b0 m0 e0, .slice b1 m1 e1, .slice b2 m2 e2], (.slice p4 (Np + 1) c4)] Wt.drew fun e w2 => ∃ kc nc xc yc r0 p0 d0 r1 p1 d1 r2 p2 d2, e = .returned (.agg #[.int .i64 kc, .int .i64 nc, .string xc, .string yc, .slice r0 p0 d0, .slice r1 p1 d1, .slice r2 p2 d2]) ∧ Fr (· = nb) Wt.drew w2 ∧ ∃ K2 m : Nat, K2 ≤ (K' + 1) + Pu.wt k nd.args[i] ∧ NA k nb S0 w #[.int .i64 nd.kind, .int .i64 nd.n, .string nd.name, .string nd.token, .slice va nd.vars.length vc, .slice (some ⟨g, o, none⟩) nd.args.length ac0, .slice ca nd.cases.length cc] nd.kind nd.n nd.token (.slice va nd.vars.length vc) wl i aa ac K2 x0 w2 ∧ PT k (SXo S0 (.slice aa i ac)) w2 [.int .i64 kc, .int .i64 nc, .string xc, .string yc, .slice r0 p0 d0, .slice r1 p1 d1, .slice r2 p2 d2] m ∧ m ≤ Pu.wt k nd.args[i]) := by
          obtain ⟨xs, ws, r1, _, _, _⟩ := NAt.out.row
          refine (CT.out nd.args[i] Wt.drew aa i ac (K' + 1) (Np + 1) xs (.slice p4 (Np + 1) c4) (ps ++ ps2) k2a n2a x2a y2a b0 m0 e0 b1 m1 e1 b2 m2 e2 HLT.out NAt.out.fr NAt.out.nbx hwt3 r1 (HRT.out.old (fW.old (by have := HEN.out.2.2.1; omega) (fun j hj e => by have := HEN.out.2.2.1; rcases e with e | e <;> omega)) fW.size) PSX.out.1 PSX.out.2.1 PSX.out.2.2 (by omega) (by omega)).mono fun e w2 ⟨kc, nc, xc, yc, r0, p0, d0, r1, p1, d1, r2, p2, d2, he, hf2, ⟨K2, hb2, hk2⟩, m, hm1, hm2⟩ => ?_
          exact ⟨kc, nc, xc, yc, r0, p0, d0, r1, p1, d1, r2, p2, d2, he, hf2, K2, m, hk2, NAt.out.call hf2 hb2 hnw (fun g hg => (HS0.out g hg).1), hm1, hm2⟩
        have RA : Hid (∀ w2 K2 m kc nc xc yc r0 p0 d0 r1 p1 d1 r2 p2 d2, Fr (· = nb) Wt.drew w2 → NA k nb S0 w #[.int .i64 nd.kind, .int .i64 nd.n, .string nd.name, .string nd.token, .slice va nd.vars.length vc, .slice (some ⟨g, o, none⟩) nd.args.length ac0, .slice ca nd.cases.length cc] nd.kind nd.n nd.token (.slice va nd.vars.length vc) wl i aa ac K2 x0 w2 → PT k (SXo S0 (.slice aa i ac)) w2 [.int .i64 kc, .int .i64 nc, .string xc, .string yc, .slice r0 p0 d0, .slice r1 p1 d1, .slice r2 p2 d2] m → m ≤ Pu.wt k nd.args[i] →
            ∃ v' w', (Builtin.append_ #[29, 29] 29 #[.slice aa i ac, .slice (some ⟨w2.heap.size, 0, none⟩) 1 1]).run Tryz.prog (w2.alloc (.cells #[.int .i64 kc, .int .i64 nc, .string xc, .string yc, .slice r0 p0 d0, .slice r1 p1 d1, .slice r2 p2 d2] 32)) = .ok v' w' ∧ ∃ a' c', v' = .slice a' (i + 1) c' ∧ (w'.cell? ⟨wr.heap.size, 0, none⟩ = some (.int .i64 k2a) ∧ w'.cell? ⟨wr.heap.size, 1, none⟩ = some (.int .i64 n2a) ∧ w'.cell? ⟨wr.heap.size, 2, none⟩ = some (.string x2a) ∧ w'.cell? ⟨wr.heap.size, 3, none⟩ = some (.string y2a) ∧ w'.cell? ⟨wr.heap.size, 4, none⟩ = some (.slice b0 m0 e0) ∧ w'.cell? ⟨wr.heap.size, 5, none⟩ = some (.slice b1 m1 e1) ∧ w'.cell? ⟨wr.heap.size, 6, none⟩ = some (.slice b2 m2 e2)) ∧ w'.heap[w.heap.size + 1 + 1]? = some (.cells #[.int .i64 nd.kind, .int .i64 nd.n, .string x0, .string nd.token, .slice va nd.vars.length vc, .slice aa i ac, .slice none 0 0] 32 (0, 0)) ∧ NA k nb S0 w #[.int .i64 nd.kind, .int .i64 nd.n, .string nd.name, .string nd.token, .slice va nd.vars.length vc, .slice (some ⟨g, o, none⟩) nd.args.length ac0, .slice ca nd.cases.length cc] nd.kind nd.n nd.token (.slice va nd.vars.length vc) wl (i + 1) a' c' K2 x0 (w'.setCell ⟨w.heap.size + 1 + 1, 5, none⟩ (.slice a' (i + 1) c'))) := fun w2 K2 m kc nc xc yc r0 p0 d0 r1 p1 d1 r2 p2 d2 hf2 hna2 hp hm => by
          obtain ⟨v', w', g1, a', c', g2, g3, g4⟩ := hna2.put hnw HS0.out (Nat.le_trans hwt3 hf2.size) (vals := [.int .i64 kc, .int .i64 nc, .string xc, .string yc, .slice r0 p0 d0, .slice r1 p1 d1, .slice r2 p2 d2]) rfl one7 hp hm hwli.1 (by omega)
          obtain ⟨xs, ws, r1, _, _, _⟩ := HNA.out.row
          have hb := fr_heap (fr_heap B11.out hf2 hq11) g3 (fun e => by have e := e.2.2; have := (r1.lt _ e).2; omega)
          have ck := cell_of_heap hb
          exact ⟨v', w', g1, a', c', g2, ⟨ck 0, ck 1, ck 2, ck 3, ck 4, ck 5, ck 6⟩, fr_heap hna2.o g3 (fun e => by have := e.1; omega), g4⟩
        have HZ : Hid (Wt.drew.cell? ⟨wr.heap.size, 0, none⟩ = some (.int .i64 k2a) ∧ Wt.drew.cell? ⟨wr.heap.size, 1, none⟩ = some (.int .i64 n2a) ∧ Wt.drew.cell? ⟨wr.heap.size, 2, none⟩ = some (.string x2a) ∧ Wt.drew.cell? ⟨wr.heap.size, 3, none⟩ = some (.string y2a) ∧ Wt.drew.cell? ⟨wr.heap.size, 4, none⟩ = some (.slice b0 m0 e0) ∧ Wt.drew.cell? ⟨wr.heap.size, 5, none⟩ = some (.slice b1 m1 e1) ∧ Wt.drew.cell? ⟨wr.heap.size, 6, none⟩ = some (.slice b2 m2 e2)) := S1F.out _ (Fr.refl _ _)
        have hneq : wr.heap.size ≠ w.heap.size + 1 + 1 := by omega
        have KC : Hid (∀ (W : World) (u : Value), (W.cell? ⟨wr.heap.size, 0, none⟩ = some (.int .i64 k2a) ∧ W.cell? ⟨wr.heap.size, 1, none⟩ = some (.int .i64 n2a) ∧ W.cell? ⟨wr.heap.size, 2, none⟩ = some (.string x2a) ∧ W.cell? ⟨wr.heap.size, 3, none⟩ = some (.string y2a) ∧ W.cell? ⟨wr.heap.size, 4, none⟩ = some (.slice b0 m0 e0) ∧ W.cell? ⟨wr.heap.size, 5, none⟩ = some (.slice b1 m1 e1) ∧ W.cell? ⟨wr.heap.size, 6, none⟩ = some (.slice b2 m2 e2)) → ((W.setCell ⟨w.heap.size + 1 + 1, 5, none⟩ u).cell? ⟨wr.heap.size, 0, none⟩ = some (.int .i64 k2a) ∧ (W.setCell ⟨w.heap.size + 1 + 1, 5, none⟩ u).cell? ⟨wr.heap.size, 1, none⟩ = some (.int .i64 n2a) ∧ (W.setCell ⟨w.heap.size + 1 + 1, 5, none⟩ u).cell? ⟨wr.heap.size, 2, none⟩ = some (.string x2a) ∧ (W.setCell ⟨w.heap.size + 1 + 1, 5, none⟩ u).cell? ⟨wr.heap.size, 3, none⟩ = some (.string y2a) ∧ (W.setCell ⟨w.heap.size + 1 + 1, 5, none⟩ u).cell? ⟨wr.heap.size, 4, none⟩ = some (.slice b0 m0 e0) ∧ (W.setCell ⟨w.heap.size + 1 + 1, 5, none⟩ u).cell? ⟨wr.heap.size, 5, none⟩ = some (.slice b1 m1 e1) ∧ (W.setCell ⟨w.heap.size + 1 + 1, 5, none⟩ u).cell? ⟨wr.heap.size, 6, none⟩ = some (.slice b2 m2 e2))) := fun W u h => ⟨by rw [cell_off hneq]; exact h.1, by rw [cell_off hneq]; exact h.2.1, by rw [cell_off hneq]; exact h.2.2.1, by rw [cell_off hneq]; exact h.2.2.2.1, by rw [cell_off hneq]; exact h.2.2.2.2.1, by rw [cell_off hneq]; exact h.2.2.2.2.2.1, by rw [cell_off hneq]; exact h.2.2.2.2.2.2⟩
        have SAL : Hid (∀ (W : World) o', (W.cell? ⟨wr.heap.size, 0, none⟩ = some (.int .i64 k2a) ∧ W.cell? ⟨wr.heap.size, 1, none⟩ = some (.int .i64 n2a) ∧ W.cell? ⟨wr.heap.size, 2, none⟩ = some (.string x2a) ∧ W.cell? ⟨wr.heap.size, 3, none⟩ = some (.string y2a) ∧ W.cell? ⟨wr.heap.size, 4, none⟩ = some (.slice b0 m0 e0) ∧ W.cell? ⟨wr.heap.size, 5, none⟩ = some (.slice b1 m1 e1) ∧ W.cell? ⟨wr.heap.size, 6, none⟩ = some (.slice b2 m2 e2)) → ((W.alloc o').cell? ⟨wr.heap.size, 0, none⟩ = some (.int .i64 k2a) ∧ (W.alloc o').cell? ⟨wr.heap.size, 1, none⟩ = some (.int .i64 n2a) ∧ (W.alloc o').cell? ⟨wr.heap.size, 2, none⟩ = some (.string x2a) ∧ (W.alloc o').cell? ⟨wr.heap.size, 3, none⟩ = some (.string y2a) ∧ (W.alloc o').cell? ⟨wr.heap.size, 4, none⟩ = some (.slice b0 m0 e0) ∧ (W.alloc o').cell? ⟨wr.heap.size, 5, none⟩ = some (.slice b1 m1 e1) ∧ (W.alloc o').cell? ⟨wr.heap.size, 6, none⟩ = some (.slice b2 m2 e2))) := fun W o' h => ⟨cell_allocA o' h.1, cell_allocA o' h.2.1, cell_allocA o' h.2.2.1, cell_allocA o' h.2.2.2.1, cell_allocA o' h.2.2.2.2.1, cell_allocA o' h.2.2.2.2.2.1, cell_allocA o' h.2.2.2.2.2.2⟩
        have kt2 : ∀ q, Wt.cell? ⟨w.heap.size + 1 + 1, q, none⟩ = _ := cell_of_heap NAt.out.o
        have lt2 : w.heap.size + 1 + 1 < Wt.heap.size := lt_of_heap NAt.out.o
        clear hWt
        have HCNT := hide (And.intro hcnt (And.intro hwli (And.intro hbnn hK1)))
        clear hcnt hwli hbnn hK1
        skip
        rw [← HWt.out]
        clear k0 k2 z2 l0 l2 q0 q1 q2 q3 q4 q5 q6
        rw [show Op.load 29 (.tmp 74) = ldN from rfl]
        go_region_held3 (fun w' : World => w'.cell? ⟨wr.heap.size, 0, none⟩ = some (.int .i64 k2a) ∧ w'.cell? ⟨wr.heap.size, 1, none⟩ = some (.int .i64 n2a) ∧ w'.cell? ⟨wr.heap.size, 2, none⟩ = some (.string x2a) ∧ w'.cell? ⟨wr.heap.size, 3, none⟩ = some (.string y2a) ∧ w'.cell? ⟨wr.heap.size, 4, none⟩ = some (.slice b0 m0 e0) ∧ w'.cell? ⟨wr.heap.size, 5, none⟩ = some (.slice b1 m1 e1) ∧ w'.cell? ⟨wr.heap.size, 6, none⟩ = some (.slice b2 m2 e2)) (first | with_reducible assumption | with_reducible exact HZ.out | with_reducible exact KC.out _ _ (by with_reducible assumption) | exact SAL.out _ _ (by first | with_reducible assumption | exact HZ.out))
          (first
          | (refine step_app rfl (.tmp 75) (.tmp 80) 29 rfl rfl rfl rfl (RA.out _ _ _ kc nc xc yc r0 p0 d0 r1 p1 d1 r2 p2 d2 F2.out N2.out P2.out M2.out.1) ?_; rintro v3 w3 ⟨a3, c3, rfl, hz3, ho3, hna3⟩; have O3 := hide ho3; have N3 := hide hna3; have kk3 := cell_of_heap ho3; have kz3 := frozen_of_heap ho3; have kl3 := lt_of_heap ho3; clear ho3 hna3)
          | (go_at_call 64; refine CT1.out.mono ?_; rintro e w2 ⟨kc, nc, xc, yc, r0, p0, d0, r1, p1, d1, r2, p2, d2, rfl, hf2, K2, m, hk2, hna2, hp2, hm2⟩; have hz2 := S1F.out w2 hf2; have F2 := hide hf2; have N2 := hide hna2; have P2 := hide hp2; have M2 := hide (And.intro hm2 hk2); have kk2 := cell_of_heap hna2.o; have kl2 := lt_of_heap hna2.o; clear hf2 hk2 hna2 hp2 hm2))
        all_goals
          go_wp2_with fail
          go_roundw
          case rel => exact ⟨i + 1, a3, c3, K2, x0, by omega, by go_num, by have h1 := M2.out.2; have h2 := (HWL.out i hlt).1; have hcnt := HCNT.out.1; have hi1 := HI1.out; rw [h2]; rw [if_neg (by omega)] at hcnt; rw [if_pos (by omega)]; omega, N3.out⟩
          case measure => simp [intOf]; omega
      · have h61' : (nd.kind == 6 && (i : Int) == 1) = false := by
          by_cases h : nd.kind = 6
          · have hi1 : ¬ (i : Int) = 1 := fun e => h61 ⟨h, by omega⟩
            simp [hi1]
          · simp [h]
        by_cases hk6 : nd.kind = 6
        · have e6 : (nd.kind == 6) = true := by simpa using hk6
          have ei : ((i : Int) == 1) = false := by
            have : ¬ (i : Int) = 1 := fun e => h61 ⟨hk6, by omega⟩
            simpa using this
          clear hk6 h61 h61'
          obtain ⟨Wt, hWt⟩ : ∃ Wt, Wt = wr.alloc (.cells #[.int .i64 k2a, .int .i64 n2a, .string x2a, .string y2a, .slice b0 m0 e0, .slice b1 m1 e1, .slice b2 m2 e2] 32) := ⟨_, rfl⟩
          have HWt := hide hWt
          have fW : Fr No wr Wt.drew := by rw [hWt]; exact ((Fr.refl No wr).alloc _).drew
          have NAt : Hid (NA k nb S0 w #[.int .i64 nd.kind, .int .i64 nd.n, .string nd.name, .string nd.token, .slice va nd.vars.length vc, .slice (some ⟨g, o, none⟩) nd.args.length ac0, .slice ca nd.cases.length cc] nd.kind nd.n nd.token (.slice va nd.vars.length vc) wl i aa ac K' x Wt.drew) := HNA.out.no fW hnw (fun g hg => (HS0.out g hg).1)
          have B11 : Hid (Wt.drew.heap[wr.heap.size]? = some (.cells #[.int .i64 k2a, .int .i64 n2a, .string x2a, .string y2a, .slice b0 m0 e0, .slice b1 m1 e1, .slice b2 m2 e2] 32 (0, 0))) := by rw [hWt]; exact heap_alloc_new wr _
          have PSX : Hid (RowP (fun g => g ≠ nb) Wt.drew (.slice pa Np pc) Np (ps.map .string) ∧ ps.length = Np * 2 ∧ Short ps) := ⟨HPS.out.kept (stays_fr (HNA.out.fr.no fW) (fun g hg _ e => hg e) (fun _ h => h)), HPL.out.1, HPL.out.2⟩
          have hwt3 : w.heap.size + 3 ≤ Wt.drew.heap.size := by rw [hWt]; show _ ≤ (wr.alloc _).heap.size; rw [World.size_alloc]; omega
          have hq11 : wr.heap.size ≠ nb := by omega
          have S1F : Hid (∀ W, Fr (· = nb) Wt.drew W → (W.cell? ⟨wr.heap.size, 0, none⟩ = some (.int .i64 k2a) ∧ W.cell? ⟨wr.heap.size, 1, none⟩ = some (.int .i64 n2a) ∧ W.cell? ⟨wr.heap.size, 2, none⟩ = some (.string x2a) ∧ W.cell? ⟨wr.heap.size, 3, none⟩ = some (.string y2a) ∧ W.cell? ⟨wr.heap.size, 4, none⟩ = some (.slice b0 m0 e0) ∧ W.cell? ⟨wr.heap.size, 5, none⟩ = some (.slice b1 m1 e1) ∧ W.cell? ⟨wr.heap.size, 6, none⟩ = some (.slice b2 m2 e2))) := fun W hW => by
            have ck := cell_of_heap (fr_heap B11.out hW hq11)
            exact ⟨ck 0, ck 1, ck 2, ck 3, ck 4, ck 5, ck 6⟩
          have hwli := HWL.out i hlt
          have hbnn := HBN.out
          have hK1 : K' ≤ K + (wl.take i).sum + 1 := by split at hcnt <;> omega
          have CT1 : Hid (Calls Tryz.prog 64 #[.pointer (some ⟨nb, 0, none⟩), .agg #[.int .i64 k2a, .int .i64 n2a, .string x2a, .string y2a, .slice b0 m0 e0, .slice b1 m1 e1, .slice b2 m2 e2], (.slice pa Np pc)] Wt.drew fun e w2 => ∃ kc nc xc yc r0 p0 d0 r1 p1 d1 r2 p2 d2, e = .returned (.agg #[.int .i64 kc, .int .i64 nc, .string xc, .string yc, .slice r0 p0 d0, .slice r1 p1 d1, .slice r2 p2 d2]) ∧ Fr (· = nb) Wt.drew w2 ∧ ∃ K2 m : Nat, K2 ≤ K' + Pu.wt k nd.args[i] ∧ NA k nb S0 w #[.int .i64 nd.kind, .int .i64 nd.n, .string nd.name, .string nd.token, .slice va nd.vars.length vc, .slice (some ⟨g, o, none⟩) nd.args.length ac0, .slice ca nd.cases.length cc] nd.kind nd.n nd.token (.slice va nd.vars.length vc) wl i aa ac K2 x w2 ∧ PT k (SXo S0 (.slice aa i ac)) w2 [.int .i64 kc, .int .i64 nc, .string xc, .string yc, .slice r0 p0 d0, .slice r1 p1 d1, .slice r2 p2 d2] m ∧ m ≤ Pu.wt k nd.args[i]) := by
            obtain ⟨xs, ws, r1, _, _, _⟩ := NAt.out.row
            refine (CT.out nd.args[i] Wt.drew aa i ac K' Np xs (.slice pa Np pc) ps k2a n2a x2a y2a b0 m0 e0 b1 m1 e1 b2 m2 e2 HLT.out NAt.out.fr NAt.out.nbx hwt3 r1 (HRT.out.old (fW.old (by have := HEN.out.2.2.1; omega) (fun _ _ e => e)) fW.size) PSX.out.1 PSX.out.2.1 PSX.out.2.2 (by omega) (by omega)).mono fun e w2 ⟨kc, nc, xc, yc, r0, p0, d0, r1, p1, d1, r2, p2, d2, he, hf2, ⟨K2, hb2, hk2⟩, m, hm1, hm2⟩ => ?_
            exact ⟨kc, nc, xc, yc, r0, p0, d0, r1, p1, d1, r2, p2, d2, he, hf2, K2, m, hk2, NAt.out.call hf2 hb2 hnw (fun g hg => (HS0.out g hg).1), hm1, hm2⟩
          have RA : Hid (∀ w2 K2 m kc nc xc yc r0 p0 d0 r1 p1 d1 r2 p2 d2, Fr (· = nb) Wt.drew w2 → NA k nb S0 w #[.int .i64 nd.kind, .int .i64 nd.n, .string nd.name, .string nd.token, .slice va nd.vars.length vc, .slice (some ⟨g, o, none⟩) nd.args.length ac0, .slice ca nd.cases.length cc] nd.kind nd.n nd.token (.slice va nd.vars.length vc) wl i aa ac K2 x w2 → PT k (SXo S0 (.slice aa i ac)) w2 [.int .i64 kc, .int .i64 nc, .string xc, .string yc, .slice r0 p0 d0, .slice r1 p1 d1, .slice r2 p2 d2] m → m ≤ Pu.wt k nd.args[i] →
              ∃ v' w', (Builtin.append_ #[29, 29] 29 #[.slice aa i ac, .slice (some ⟨w2.heap.size, 0, none⟩) 1 1]).run Tryz.prog (w2.alloc (.cells #[.int .i64 kc, .int .i64 nc, .string xc, .string yc, .slice r0 p0 d0, .slice r1 p1 d1, .slice r2 p2 d2] 32)) = .ok v' w' ∧ ∃ a' c', v' = .slice a' (i + 1) c' ∧ (w'.cell? ⟨wr.heap.size, 0, none⟩ = some (.int .i64 k2a) ∧ w'.cell? ⟨wr.heap.size, 1, none⟩ = some (.int .i64 n2a) ∧ w'.cell? ⟨wr.heap.size, 2, none⟩ = some (.string x2a) ∧ w'.cell? ⟨wr.heap.size, 3, none⟩ = some (.string y2a) ∧ w'.cell? ⟨wr.heap.size, 4, none⟩ = some (.slice b0 m0 e0) ∧ w'.cell? ⟨wr.heap.size, 5, none⟩ = some (.slice b1 m1 e1) ∧ w'.cell? ⟨wr.heap.size, 6, none⟩ = some (.slice b2 m2 e2)) ∧ w'.heap[w.heap.size + 1 + 1]? = some (.cells #[.int .i64 nd.kind, .int .i64 nd.n, .string x, .string nd.token, .slice va nd.vars.length vc, .slice aa i ac, .slice none 0 0] 32 (0, 0)) ∧ NA k nb S0 w #[.int .i64 nd.kind, .int .i64 nd.n, .string nd.name, .string nd.token, .slice va nd.vars.length vc, .slice (some ⟨g, o, none⟩) nd.args.length ac0, .slice ca nd.cases.length cc] nd.kind nd.n nd.token (.slice va nd.vars.length vc) wl (i + 1) a' c' K2 x (w'.setCell ⟨w.heap.size + 1 + 1, 5, none⟩ (.slice a' (i + 1) c'))) := fun w2 K2 m kc nc xc yc r0 p0 d0 r1 p1 d1 r2 p2 d2 hf2 hna2 hp hm => by
            obtain ⟨v', w', g1, a', c', g2, g3, g4⟩ := hna2.put hnw HS0.out (Nat.le_trans hwt3 hf2.size) (vals := [.int .i64 kc, .int .i64 nc, .string xc, .string yc, .slice r0 p0 d0, .slice r1 p1 d1, .slice r2 p2 d2]) rfl one7 hp hm hwli.1 (by omega)
            obtain ⟨xs, ws, r1, _, _, _⟩ := HNA.out.row
            have hb := fr_heap (fr_heap B11.out hf2 hq11) g3 (fun e => by have e := e.2.2; have := (r1.lt _ e).2; omega)
            have ck := cell_of_heap hb
            exact ⟨v', w', g1, a', c', g2, ⟨ck 0, ck 1, ck 2, ck 3, ck 4, ck 5, ck 6⟩, fr_heap hna2.o g3 (fun e => by have := e.1; omega), g4⟩
          have HZ : Hid (Wt.drew.cell? ⟨wr.heap.size, 0, none⟩ = some (.int .i64 k2a) ∧ Wt.drew.cell? ⟨wr.heap.size, 1, none⟩ = some (.int .i64 n2a) ∧ Wt.drew.cell? ⟨wr.heap.size, 2, none⟩ = some (.string x2a) ∧ Wt.drew.cell? ⟨wr.heap.size, 3, none⟩ = some (.string y2a) ∧ Wt.drew.cell? ⟨wr.heap.size, 4, none⟩ = some (.slice b0 m0 e0) ∧ Wt.drew.cell? ⟨wr.heap.size, 5, none⟩ = some (.slice b1 m1 e1) ∧ Wt.drew.cell? ⟨wr.heap.size, 6, none⟩ = some (.slice b2 m2 e2)) := S1F.out _ (Fr.refl _ _)
          have hneq : wr.heap.size ≠ w.heap.size + 1 + 1 := by omega
          have KC : Hid (∀ (W : World) (u : Value), (W.cell? ⟨wr.heap.size, 0, none⟩ = some (.int .i64 k2a) ∧ W.cell? ⟨wr.heap.size, 1, none⟩ = some (.int .i64 n2a) ∧ W.cell? ⟨wr.heap.size, 2, none⟩ = some (.string x2a) ∧ W.cell? ⟨wr.heap.size, 3, none⟩ = some (.string y2a) ∧ W.cell? ⟨wr.heap.size, 4, none⟩ = some (.slice b0 m0 e0) ∧ W.cell? ⟨wr.heap.size, 5, none⟩ = some (.slice b1 m1 e1) ∧ W.cell? ⟨wr.heap.size, 6, none⟩ = some (.slice b2 m2 e2)) → ((W.setCell ⟨w.heap.size + 1 + 1, 5, none⟩ u).cell? ⟨wr.heap.size, 0, none⟩ = some (.int .i64 k2a) ∧ (W.setCell ⟨w.heap.size + 1 + 1, 5, none⟩ u).cell? ⟨wr.heap.size, 1, none⟩ = some (.int .i64 n2a) ∧ (W.setCell ⟨w.heap.size + 1 + 1, 5, none⟩ u).cell? ⟨wr.heap.size, 2, none⟩ = some (.string x2a) ∧ (W.setCell ⟨w.heap.size + 1 + 1, 5, none⟩ u).cell? ⟨wr.heap.size, 3, none⟩ = some (.string y2a) ∧ (W.setCell ⟨w.heap.size + 1 + 1, 5, none⟩ u).cell? ⟨wr.heap.size, 4, none⟩ = some (.slice b0 m0 e0) ∧ (W.setCell ⟨w.heap.size + 1 + 1, 5, none⟩ u).cell? ⟨wr.heap.size, 5, none⟩ = some (.slice b1 m1 e1) ∧ (W.setCell ⟨w.heap.size + 1 + 1, 5, none⟩ u).cell? ⟨wr.heap.size, 6, none⟩ = some (.slice b2 m2 e2))) := fun W u h => ⟨by rw [cell_off hneq]; exact h.1, by rw [cell_off hneq]; exact h.2.1, by rw [cell_off hneq]; exact h.2.2.1, by rw [cell_off hneq]; exact h.2.2.2.1, by rw [cell_off hneq]; exact h.2.2.2.2.1, by rw [cell_off hneq]; exact h.2.2.2.2.2.1, by rw [cell_off hneq]; exact h.2.2.2.2.2.2⟩
          have SAL : Hid (∀ (W : World) o', (W.cell? ⟨wr.heap.size, 0, none⟩ = some (.int .i64 k2a) ∧ W.cell? ⟨wr.heap.size, 1, none⟩ = some (.int .i64 n2a) ∧ W.cell? ⟨wr.heap.size, 2, none⟩ = some (.string x2a) ∧ W.cell? ⟨wr.heap.size, 3, none⟩ = some (.string y2a) ∧ W.cell? ⟨wr.heap.size, 4, none⟩ = some (.slice b0 m0 e0) ∧ W.cell? ⟨wr.heap.size, 5, none⟩ = some (.slice b1 m1 e1) ∧ W.cell? ⟨wr.heap.size, 6, none⟩ = some (.slice b2 m2 e2)) → ((W.alloc o').cell? ⟨wr.heap.size, 0, none⟩ = some (.int .i64 k2a) ∧ (W.alloc o').cell? ⟨wr.heap.size, 1, none⟩ = some (.int .i64 n2a) ∧ (W.alloc o').cell? ⟨wr.heap.size, 2, none⟩ = some (.string x2a) ∧ (W.alloc o').cell? ⟨wr.heap.size, 3, none⟩ = some (.string y2a) ∧ (W.alloc o').cell? ⟨wr.heap.size, 4, none⟩ = some (.slice b0 m0 e0) ∧ (W.alloc o').cell? ⟨wr.heap.size, 5, none⟩ = some (.slice b1 m1 e1) ∧ (W.alloc o').cell? ⟨wr.heap.size, 6, none⟩ = some (.slice b2 m2 e2))) := fun W o' h => ⟨cell_allocA o' h.1, cell_allocA o' h.2.1, cell_allocA o' h.2.2.1, cell_allocA o' h.2.2.2.1, cell_allocA o' h.2.2.2.2.1, cell_allocA o' h.2.2.2.2.2.1, cell_allocA o' h.2.2.2.2.2.2⟩
          have kt2 : ∀ q, Wt.cell? ⟨w.heap.size + 1 + 1, q, none⟩ = _ := cell_of_heap NAt.out.o
          have lt2 : w.heap.size + 1 + 1 < Wt.heap.size := lt_of_heap NAt.out.o
          clear hWt
          have HCNT := hide (And.intro hcnt (And.intro hwli (And.intro hbnn hK1)))
          clear hcnt hwli hbnn hK1
          go_wp2_with fail
          rw [← HWt.out]
          clear k0 k2 z2 l0 l2 q0 q1 q2 q3 q4 q5 q6
          rw [show Op.load 29 (.tmp 74) = ldN from rfl]
          go_region_held3 (fun w' : World => w'.cell? ⟨wr.heap.size, 0, none⟩ = some (.int .i64 k2a) ∧ w'.cell? ⟨wr.heap.size, 1, none⟩ = some (.int .i64 n2a) ∧ w'.cell? ⟨wr.heap.size, 2, none⟩ = some (.string x2a) ∧ w'.cell? ⟨wr.heap.size, 3, none⟩ = some (.string y2a) ∧ w'.cell? ⟨wr.heap.size, 4, none⟩ = some (.slice b0 m0 e0) ∧ w'.cell? ⟨wr.heap.size, 5, none⟩ = some (.slice b1 m1 e1) ∧ w'.cell? ⟨wr.heap.size, 6, none⟩ = some (.slice b2 m2 e2)) (first | with_reducible assumption | with_reducible exact HZ.out | with_reducible exact KC.out _ _ (by with_reducible assumption) | exact SAL.out _ _ (by first | with_reducible assumption | exact HZ.out))
            (first
            | (refine step_app rfl (.tmp 75) (.tmp 80) 29 rfl rfl rfl rfl (RA.out _ _ _ kc nc xc yc r0 p0 d0 r1 p1 d1 r2 p2 d2 F2.out N2.out P2.out M2.out.1) ?_; rintro v3 w3 ⟨a3, c3, rfl, hz3, ho3, hna3⟩; have O3 := hide ho3; have N3 := hide hna3; have kk3 := cell_of_heap ho3; have kz3 := frozen_of_heap ho3; have kl3 := lt_of_heap ho3; clear ho3 hna3)
            | (go_at_call 64; refine CT1.out.mono ?_; rintro e w2 ⟨kc, nc, xc, yc, r0, p0, d0, r1, p1, d1, r2, p2, d2, rfl, hf2, K2, m, hk2, hna2, hp2, hm2⟩; have hz2 := S1F.out w2 hf2; have F2 := hide hf2; have N2 := hide hna2; have P2 := hide hp2; have M2 := hide (And.intro hm2 hk2); have kk2 := cell_of_heap hna2.o; have kl2 := lt_of_heap hna2.o; clear hf2 hk2 hna2 hp2 hm2))
          all_goals
            go_wp2_with fail
            go_roundw
            case rel => exact ⟨i + 1, a3, c3, K2, x, by omega, by go_num, by have h1 := M2.out.2; have h2 := (HWL.out i hlt).1; have hcnt := HCNT.out.1; rw [h2]; split at hcnt <;> split <;> omega, N3.out⟩
            case measure => simp [intOf]; omega
        · have e6 : (nd.kind == 6) = false := by simpa using hk6
          clear hk6 h61 h61'
          obtain ⟨Wt, hWt⟩ : ∃ Wt, Wt = wr.alloc (.cells #[.int .i64 k2a, .int .i64 n2a, .string x2a, .string y2a, .slice b0 m0 e0, .slice b1 m1 e1, .slice b2 m2 e2] 32) := ⟨_, rfl⟩
          have HWt := hide hWt
          have fW : Fr No wr Wt.drew := by rw [hWt]; exact ((Fr.refl No wr).alloc _).drew
          have NAt : Hid (NA k nb S0 w #[.int .i64 nd.kind, .int .i64 nd.n, .string nd.name, .string nd.token, .slice va nd.vars.length vc, .slice (some ⟨g, o, none⟩) nd.args.length ac0, .slice ca nd.cases.length cc] nd.kind nd.n nd.token (.slice va nd.vars.length vc) wl i aa ac K' x Wt.drew) := HNA.out.no fW hnw (fun g hg => (HS0.out g hg).1)
          have B11 : Hid (Wt.drew.heap[wr.heap.size]? = some (.cells #[.int .i64 k2a, .int .i64 n2a, .string x2a, .string y2a, .slice b0 m0 e0, .slice b1 m1 e1, .slice b2 m2 e2] 32 (0, 0))) := by rw [hWt]; exact heap_alloc_new wr _
          have PSX : Hid (RowP (fun g => g ≠ nb) Wt.drew (.slice pa Np pc) Np (ps.map .string) ∧ ps.length = Np * 2 ∧ Short ps) := ⟨HPS.out.kept (stays_fr (HNA.out.fr.no fW) (fun g hg _ e => hg e) (fun _ h => h)), HPL.out.1, HPL.out.2⟩
          have hwt3 : w.heap.size + 3 ≤ Wt.drew.heap.size := by rw [hWt]; show _ ≤ (wr.alloc _).heap.size; rw [World.size_alloc]; omega
          have hq11 : wr.heap.size ≠ nb := by omega
          have S1F : Hid (∀ W, Fr (· = nb) Wt.drew W → (W.cell? ⟨wr.heap.size, 0, none⟩ = some (.int .i64 k2a) ∧ W.cell? ⟨wr.heap.size, 1, none⟩ = some (.int .i64 n2a) ∧ W.cell? ⟨wr.heap.size, 2, none⟩ = some (.string x2a) ∧ W.cell? ⟨wr.heap.size, 3, none⟩ = some (.string y2a) ∧ W.cell? ⟨wr.heap.size, 4, none⟩ = some (.slice b0 m0 e0) ∧ W.cell? ⟨wr.heap.size, 5, none⟩ = some (.slice b1 m1 e1) ∧ W.cell? ⟨wr.heap.size, 6, none⟩ = some (.slice b2 m2 e2))) := fun W hW => by
            have ck := cell_of_heap (fr_heap B11.out hW hq11)
            exact ⟨ck 0, ck 1, ck 2, ck 3, ck 4, ck 5, ck 6⟩
          have hwli := HWL.out i hlt
          have hbnn := HBN.out
          have hK1 : K' ≤ K + (wl.take i).sum + 1 := by split at hcnt <;> omega
          have CT1 : Hid (Calls Tryz.prog 64 #[.pointer (some ⟨nb, 0, none⟩), .agg #[.int .i64 k2a, .int .i64 n2a, .string x2a, .string y2a, .slice b0 m0 e0, .slice b1 m1 e1, .slice b2 m2 e2], (.slice pa Np pc)] Wt.drew fun e w2 => ∃ kc nc xc yc r0 p0 d0 r1 p1 d1 r2 p2 d2, e = .returned (.agg #[.int .i64 kc, .int .i64 nc, .string xc, .string yc, .slice r0 p0 d0, .slice r1 p1 d1, .slice r2 p2 d2]) ∧ Fr (· = nb) Wt.drew w2 ∧ ∃ K2 m : Nat, K2 ≤ K' + Pu.wt k nd.args[i] ∧ NA k nb S0 w #[.int .i64 nd.kind, .int .i64 nd.n, .string nd.name, .string nd.token, .slice va nd.vars.length vc, .slice (some ⟨g, o, none⟩) nd.args.length ac0, .slice ca nd.cases.length cc] nd.kind nd.n nd.token (.slice va nd.vars.length vc) wl i aa ac K2 x w2 ∧ PT k (SXo S0 (.slice aa i ac)) w2 [.int .i64 kc, .int .i64 nc, .string xc, .string yc, .slice r0 p0 d0, .slice r1 p1 d1, .slice r2 p2 d2] m ∧ m ≤ Pu.wt k nd.args[i]) := by
            obtain ⟨xs, ws, r1, _, _, _⟩ := NAt.out.row
            refine (CT.out nd.args[i] Wt.drew aa i ac K' Np xs (.slice pa Np pc) ps k2a n2a x2a y2a b0 m0 e0 b1 m1 e1 b2 m2 e2 HLT.out NAt.out.fr NAt.out.nbx hwt3 r1 (HRT.out.old (fW.old (by have := HEN.out.2.2.1; omega) (fun _ _ e => e)) fW.size) PSX.out.1 PSX.out.2.1 PSX.out.2.2 (by omega) (by omega)).mono fun e w2 ⟨kc, nc, xc, yc, r0, p0, d0, r1, p1, d1, r2, p2, d2, he, hf2, ⟨K2, hb2, hk2⟩, m, hm1, hm2⟩ => ?_
            exact ⟨kc, nc, xc, yc, r0, p0, d0, r1, p1, d1, r2, p2, d2, he, hf2, K2, m, hk2, NAt.out.call hf2 hb2 hnw (fun g hg => (HS0.out g hg).1), hm1, hm2⟩
          have RA : Hid (∀ w2 K2 m kc nc xc yc r0 p0 d0 r1 p1 d1 r2 p2 d2, Fr (· = nb) Wt.drew w2 → NA k nb S0 w #[.int .i64 nd.kind, .int .i64 nd.n, .string nd.name, .string nd.token, .slice va nd.vars.length vc, .slice (some ⟨g, o, none⟩) nd.args.length ac0, .slice ca nd.cases.length cc] nd.kind nd.n nd.token (.slice va nd.vars.length vc) wl i aa ac K2 x w2 → PT k (SXo S0 (.slice aa i ac)) w2 [.int .i64 kc, .int .i64 nc, .string xc, .string yc, .slice r0 p0 d0, .slice r1 p1 d1, .slice r2 p2 d2] m → m ≤ Pu.wt k nd.args[i] →
              ∃ v' w', (Builtin.append_ #[29, 29] 29 #[.slice aa i ac, .slice (some ⟨w2.heap.size, 0, none⟩) 1 1]).run Tryz.prog (w2.alloc (.cells #[.int .i64 kc, .int .i64 nc, .string xc, .string yc, .slice r0 p0 d0, .slice r1 p1 d1, .slice r2 p2 d2] 32)) = .ok v' w' ∧ ∃ a' c', v' = .slice a' (i + 1) c' ∧ (w'.cell? ⟨wr.heap.size, 0, none⟩ = some (.int .i64 k2a) ∧ w'.cell? ⟨wr.heap.size, 1, none⟩ = some (.int .i64 n2a) ∧ w'.cell? ⟨wr.heap.size, 2, none⟩ = some (.string x2a) ∧ w'.cell? ⟨wr.heap.size, 3, none⟩ = some (.string y2a) ∧ w'.cell? ⟨wr.heap.size, 4, none⟩ = some (.slice b0 m0 e0) ∧ w'.cell? ⟨wr.heap.size, 5, none⟩ = some (.slice b1 m1 e1) ∧ w'.cell? ⟨wr.heap.size, 6, none⟩ = some (.slice b2 m2 e2)) ∧ w'.heap[w.heap.size + 1 + 1]? = some (.cells #[.int .i64 nd.kind, .int .i64 nd.n, .string x, .string nd.token, .slice va nd.vars.length vc, .slice aa i ac, .slice none 0 0] 32 (0, 0)) ∧ NA k nb S0 w #[.int .i64 nd.kind, .int .i64 nd.n, .string nd.name, .string nd.token, .slice va nd.vars.length vc, .slice (some ⟨g, o, none⟩) nd.args.length ac0, .slice ca nd.cases.length cc] nd.kind nd.n nd.token (.slice va nd.vars.length vc) wl (i + 1) a' c' K2 x (w'.setCell ⟨w.heap.size + 1 + 1, 5, none⟩ (.slice a' (i + 1) c'))) := fun w2 K2 m kc nc xc yc r0 p0 d0 r1 p1 d1 r2 p2 d2 hf2 hna2 hp hm => by
            obtain ⟨v', w', g1, a', c', g2, g3, g4⟩ := hna2.put hnw HS0.out (Nat.le_trans hwt3 hf2.size) (vals := [.int .i64 kc, .int .i64 nc, .string xc, .string yc, .slice r0 p0 d0, .slice r1 p1 d1, .slice r2 p2 d2]) rfl one7 hp hm hwli.1 (by omega)
            obtain ⟨xs, ws, r1, _, _, _⟩ := HNA.out.row
            have hb := fr_heap (fr_heap B11.out hf2 hq11) g3 (fun e => by have e := e.2.2; have := (r1.lt _ e).2; omega)
            have ck := cell_of_heap hb
            exact ⟨v', w', g1, a', c', g2, ⟨ck 0, ck 1, ck 2, ck 3, ck 4, ck 5, ck 6⟩, fr_heap hna2.o g3 (fun e => by have := e.1; omega), g4⟩
          have HZ : Hid (Wt.drew.cell? ⟨wr.heap.size, 0, none⟩ = some (.int .i64 k2a) ∧ Wt.drew.cell? ⟨wr.heap.size, 1, none⟩ = some (.int .i64 n2a) ∧ Wt.drew.cell? ⟨wr.heap.size, 2, none⟩ = some (.string x2a) ∧ Wt.drew.cell? ⟨wr.heap.size, 3, none⟩ = some (.string y2a) ∧ Wt.drew.cell? ⟨wr.heap.size, 4, none⟩ = some (.slice b0 m0 e0) ∧ Wt.drew.cell? ⟨wr.heap.size, 5, none⟩ = some (.slice b1 m1 e1) ∧ Wt.drew.cell? ⟨wr.heap.size, 6, none⟩ = some (.slice b2 m2 e2)) := S1F.out _ (Fr.refl _ _)
          have hneq : wr.heap.size ≠ w.heap.size + 1 + 1 := by omega
          have KC : Hid (∀ (W : World) (u : Value), (W.cell? ⟨wr.heap.size, 0, none⟩ = some (.int .i64 k2a) ∧ W.cell? ⟨wr.heap.size, 1, none⟩ = some (.int .i64 n2a) ∧ W.cell? ⟨wr.heap.size, 2, none⟩ = some (.string x2a) ∧ W.cell? ⟨wr.heap.size, 3, none⟩ = some (.string y2a) ∧ W.cell? ⟨wr.heap.size, 4, none⟩ = some (.slice b0 m0 e0) ∧ W.cell? ⟨wr.heap.size, 5, none⟩ = some (.slice b1 m1 e1) ∧ W.cell? ⟨wr.heap.size, 6, none⟩ = some (.slice b2 m2 e2)) → ((W.setCell ⟨w.heap.size + 1 + 1, 5, none⟩ u).cell? ⟨wr.heap.size, 0, none⟩ = some (.int .i64 k2a) ∧ (W.setCell ⟨w.heap.size + 1 + 1, 5, none⟩ u).cell? ⟨wr.heap.size, 1, none⟩ = some (.int .i64 n2a) ∧ (W.setCell ⟨w.heap.size + 1 + 1, 5, none⟩ u).cell? ⟨wr.heap.size, 2, none⟩ = some (.string x2a) ∧ (W.setCell ⟨w.heap.size + 1 + 1, 5, none⟩ u).cell? ⟨wr.heap.size, 3, none⟩ = some (.string y2a) ∧ (W.setCell ⟨w.heap.size + 1 + 1, 5, none⟩ u).cell? ⟨wr.heap.size, 4, none⟩ = some (.slice b0 m0 e0) ∧ (W.setCell ⟨w.heap.size + 1 + 1, 5, none⟩ u).cell? ⟨wr.heap.size, 5, none⟩ = some (.slice b1 m1 e1) ∧ (W.setCell ⟨w.heap.size + 1 + 1, 5, none⟩ u).cell? ⟨wr.heap.size, 6, none⟩ = some (.slice b2 m2 e2))) := fun W u h => ⟨by rw [cell_off hneq]; exact h.1, by rw [cell_off hneq]; exact h.2.1, by rw [cell_off hneq]; exact h.2.2.1, by rw [cell_off hneq]; exact h.2.2.2.1, by rw [cell_off hneq]; exact h.2.2.2.2.1, by rw [cell_off hneq]; exact h.2.2.2.2.2.1, by rw [cell_off hneq]; exact h.2.2.2.2.2.2⟩
          have SAL : Hid (∀ (W : World) o', (W.cell? ⟨wr.heap.size, 0, none⟩ = some (.int .i64 k2a) ∧ W.cell? ⟨wr.heap.size, 1, none⟩ = some (.int .i64 n2a) ∧ W.cell? ⟨wr.heap.size, 2, none⟩ = some (.string x2a) ∧ W.cell? ⟨wr.heap.size, 3, none⟩ = some (.string y2a) ∧ W.cell? ⟨wr.heap.size, 4, none⟩ = some (.slice b0 m0 e0) ∧ W.cell? ⟨wr.heap.size, 5, none⟩ = some (.slice b1 m1 e1) ∧ W.cell? ⟨wr.heap.size, 6, none⟩ = some (.slice b2 m2 e2)) → ((W.alloc o').cell? ⟨wr.heap.size, 0, none⟩ = some (.int .i64 k2a) ∧ (W.alloc o').cell? ⟨wr.heap.size, 1, none⟩ = some (.int .i64 n2a) ∧ (W.alloc o').cell? ⟨wr.heap.size, 2, none⟩ = some (.string x2a) ∧ (W.alloc o').cell? ⟨wr.heap.size, 3, none⟩ = some (.string y2a) ∧ (W.alloc o').cell? ⟨wr.heap.size, 4, none⟩ = some (.slice b0 m0 e0) ∧ (W.alloc o').cell? ⟨wr.heap.size, 5, none⟩ = some (.slice b1 m1 e1) ∧ (W.alloc o').cell? ⟨wr.heap.size, 6, none⟩ = some (.slice b2 m2 e2))) := fun W o' h => ⟨cell_allocA o' h.1, cell_allocA o' h.2.1, cell_allocA o' h.2.2.1, cell_allocA o' h.2.2.2.1, cell_allocA o' h.2.2.2.2.1, cell_allocA o' h.2.2.2.2.2.1, cell_allocA o' h.2.2.2.2.2.2⟩
          have kt2 : ∀ q, Wt.cell? ⟨w.heap.size + 1 + 1, q, none⟩ = _ := cell_of_heap NAt.out.o
          have lt2 : w.heap.size + 1 + 1 < Wt.heap.size := lt_of_heap NAt.out.o
          clear hWt
          have HCNT := hide (And.intro hcnt (And.intro hwli (And.intro hbnn hK1)))
          clear hcnt hwli hbnn hK1
          go_wp2_with fail
          rw [← HWt.out]
          clear k0 k2 z2 l0 l2 q0 q1 q2 q3 q4 q5 q6
          rw [show Op.load 29 (.tmp 74) = ldN from rfl]
          go_region_held3 (fun w' : World => w'.cell? ⟨wr.heap.size, 0, none⟩ = some (.int .i64 k2a) ∧ w'.cell? ⟨wr.heap.size, 1, none⟩ = some (.int .i64 n2a) ∧ w'.cell? ⟨wr.heap.size, 2, none⟩ = some (.string x2a) ∧ w'.cell? ⟨wr.heap.size, 3, none⟩ = some (.string y2a) ∧ w'.cell? ⟨wr.heap.size, 4, none⟩ = some (.slice b0 m0 e0) ∧ w'.cell? ⟨wr.heap.size, 5, none⟩ = some (.slice b1 m1 e1) ∧ w'.cell? ⟨wr.heap.size, 6, none⟩ = some (.slice b2 m2 e2)) (first | with_reducible assumption | with_reducible exact HZ.out | with_reducible exact KC.out _ _ (by with_reducible assumption) | exact SAL.out _ _ (by first | with_reducible assumption | exact HZ.out))
            (first
            | (refine step_app rfl (.tmp 75) (.tmp 80) 29 rfl rfl rfl rfl (RA.out _ _ _ kc nc xc yc r0 p0 d0 r1 p1 d1 r2 p2 d2 F2.out N2.out P2.out M2.out.1) ?_; rintro v3 w3 ⟨a3, c3, rfl, hz3, ho3, hna3⟩; have O3 := hide ho3; have N3 := hide hna3; have kk3 := cell_of_heap ho3; have kz3 := frozen_of_heap ho3; have kl3 := lt_of_heap ho3; clear ho3 hna3)
            | (go_at_call 64; refine CT1.out.mono ?_; rintro e w2 ⟨kc, nc, xc, yc, r0, p0, d0, r1, p1, d1, r2, p2, d2, rfl, hf2, K2, m, hk2, hna2, hp2, hm2⟩; have hz2 := S1F.out w2 hf2; have F2 := hide hf2; have N2 := hide hna2; have P2 := hide hp2; have M2 := hide (And.intro hm2 hk2); have kk2 := cell_of_heap hna2.o; have kl2 := lt_of_heap hna2.o; clear hf2 hk2 hna2 hp2 hm2))
          all_goals
            go_wp2_with fail
            go_roundw
            case rel => exact ⟨i + 1, a3, c3, K2, x, by omega, by go_num, by have h1 := M2.out.2; have h2 := (HWL.out i hlt).1; have hcnt := HCNT.out.1; rw [h2]; split at hcnt <;> split <;> omega, N3.out⟩
            case measure => simp [intOf]; omega
    · have hil : i = nd.args.length := by omega
      have hK1 : K' ≤ K + wl.sum + 1 := by
        have h1 : (wl.take i).sum ≤ wl.sum := by rw [← List.take_append_drop i wl, List.sum_append]; simp
        split at hcnt <;> omega
      have hsumle : (wl.take i).sum ≤ wl.sum := by
        have h2 : wl.sum = (wl.take i).sum + (wl.drop i).sum := by rw [← List.sum_append, List.take_append_drop]
        omega
      have C0 : Hid (NC k nb S0 w #[.int .i64 nd.kind, .int .i64 nd.n, .string nd.name, .string nd.token, .slice va nd.vars.length vc, .slice aa0 nd.args.length ac0, .slice ca nd.cases.length cc] nd.kind nd.n nd.token (.slice va nd.vars.length vc) i wl.sum aa ac wl2 0 none 0 K' x wr) := hna.nc (fun g hg => HS3.out g hg) hsumle
      have HK1 := hide hK1
      clear hna hcnt hK1 hsumle HNA
      subst hil
      go_wp2_with fail
      clear k0 l0 k2 z2 l2
      go_loopw [87] (fun q wr => ∃ (i : Nat) (ca' : Option Addr) (cc' K2 : Nat), i ≤ nd.cases.length ∧ q = .int .i64 i ∧ K2 ≤ K' + (wl2.take i).sum ∧ NC k nb S0 w #[.int .i64 nd.kind, .int .i64 nd.n, .string nd.name, .string nd.token, .slice va nd.vars.length vc, .slice aa0 nd.args.length ac0, .slice ca nd.cases.length cc] nd.kind nd.n nd.token (.slice va nd.vars.length vc) nd.args.length wl.sum aa ac wl2 i ca' cc' K2 x wr) (fun q _ => nd.cases.length - (intOf q).toNat)
      case atStart => exact ⟨0, none, 0, K', Nat.zero_le _, rfl, by simp, C0.out⟩
      case round =>
        rename_i wr0 _
        obtain ⟨i, ca', cc', K2, hi, rfl, hcnt, hnc⟩ := hrel
        have k0 := cell_of_heap hnc.t
        have l0 := lt_of_heap hnc.t
        have k2 := cell_of_heap hnc.o
        have z2 := frozen_of_heap hnc.o
        have l2 := lt_of_heap hnc.o
        have k1 := cell_of_heap hnc.r
        have z1 := frozen_of_heap hnc.r
        have l1 := lt_of_heap hnc.r
        have HNC := hide hnc
        by_cases hlt : i < nd.cases.length
        · obtain ⟨g, o, cap, tg, va9, vc9, kB, nB, xB, yB, b0, m0, e0, b1, m1, e1, b2, m2, e2, hv, hgl, hnm9, hrt, hvc9, hcell⟩ := HCASE.out wr hnc.fr i hlt
          injection hv with hv1 _ hv2
          subst hv1 hv2
          have q0 : wr.cell? ⟨g, o + i * 9, none⟩ = some (.int .i64 tg) := hcell 0 (by omega)
          have q1 := hcell 1 (by omega)
          have q2 := hcell 2 (by omega)
          have q3 := hcell 3 (by omega)
          have q4 := hcell 4 (by omega)
          have q5 := hcell 5 (by omega)
          have q6 := hcell 6 (by omega)
          have q7 := hcell 7 (by omega)
          have q8 := hcell 8 (by omega)
          have hwli := HWL2.out i hlt
          have hK1 := HK1.out
          have hwc := HWC.out.1
          have hkn := HWT.out.2
          have hwr3 : w.heap.size + 3 ≤ wr.heap.size := by omega
          have i1 : (i : Int) < (nd.cases.length : Int) := by omega
          have i0 : (0 : Int) ≤ (i : Int) := by omega
          have f1 : Fr No wr (wr.alloc (.cells #[.int .i64 tg, .slice va9 nd.cases[i].2.1.length vc9, .int .i64 kB, .int .i64 nB, .string xB, .string yB, .slice b0 m0 e0, .slice b1 m1 e1, .slice b2 m2 e2] 58)) := (Fr.refl No wr).alloc _
          have hown : ∀ a, (Value.slice ca' i cc').ownBlock = some a → w.heap.size + 3 ≤ a ∧ a < wr.heap.size := fun a ha => by
            obtain ⟨xs, cl, r1, _⟩ := hnc.row
            exact r1.lt a ha
          have HOWN := hide hown
          have CF : Hid (Calls Tryz.prog 63 #[.pointer (some ⟨nb, 0, none⟩), .slice va9 nd.cases[i].2.1.length vc9] (wr.alloc (.cells #[.int .i64 tg, .slice va9 nd.cases[i].2.1.length vc9, .int .i64 kB, .int .i64 nB, .string xB, .string yB, .slice b0 m0 e0, .slice b1 m1 e1, .slice b2 m2 e2] 58)) fun e w2 => ∃ na9 nc9 pa2 pc2 ns ps2, e = .returned (.tuple #[.slice na9 nd.cases[i].2.1.length nc9, .slice pa2 nd.cases[i].2.1.length pc2]) ∧ Fr (· = nb) wr w2 ∧ w2.heap[nb]? = some (.cells #[.int .i64 ((K2 + nd.cases[i].2.1.length : Nat) : Int)] 96 (0, 0)) ∧ Fresh (SXo S0 (.slice ca' i cc')) w2 (.slice na9 nd.cases[i].2.1.length nc9) (.slice pa2 nd.cases[i].2.1.length pc2) ns ps2 nd.cases[i].2.1.length ∧ w2.heap[wr.heap.size]? = some (.cells #[.int .i64 tg, .slice va9 nd.cases[i].2.1.length vc9, .int .i64 kB, .int .i64 nB, .string xB, .string yB, .slice b0 m0 e0, .slice b1 m1 e1, .slice b2 m2 e2] 58 (0, 0))) :=
            (fresh_any nb K2 (SXo S0 (.slice ca' i cc')) _ _ nd.cases[i].2.1 (fun g hg => ⟨HS3.out g (by have := f1.size; omega), fun e => by have := (hown g e).2; have := f1.size; omega⟩) (fr_heap hnc.nbx f1 (fun e => e)) h3 (HEN.out.1.fr (hnc.fr.no f1) (by omega) (fun j hj e => by have e : j = nb := e; omega)) (hnm9.kept (stays_of_fr f1)) (by omega)).mono fun e w2 ⟨na9, nc9, pa2, pc2, ns, ps2, he, hf2, hb2, hfr⟩ =>
              ⟨na9, nc9, pa2, pc2, ns, ps2, he, (f1.mono (fun _ _ e => e.elim)).trans hf2, by rw [hb2]; simp, hfr, fr_heap (heap_alloc_new wr _) hf2 (fun e => by have e : wr.heap.size = nb := e; omega)⟩
          have HCT := hide (And.intro hcnt (And.intro hwli (And.intro hK1 (And.intro hwc hkn))))
          have HRT := hide hrt
          have HMEM := hide (List.getElem_mem hlt)
          obtain ⟨vn9, hvn9⟩ : ∃ vn9, vn9 = nd.cases[i].2.1.length := ⟨_, rfl⟩
          unfold maxLen at hvc9
          clear hnc hcell hrt hnm9 hcnt hwli hK1 hwc hkn hown f1
          rw [← hvn9] at CF q1
          have HVN := hide hvn9
          clear hvn9
          go_wp2_with fail
          refine CF.out.mono ?_
          rintro e w2 ⟨na9, nc9, pa2, pc2, ns, ps2, rfl, hf2, hb2, hfr, hb16⟩
          clear CF q0 q1 q2 q3 q4 q5 q6 q7 q8 k0 l0 k2 z2 l2 k1 z1 l1
          have fD : Fr (· = nb) wr w2.drew := hf2.drew
          have bD : Hid (w2.drew.heap[wr.heap.size]? = some (.cells #[.int .i64 tg, .slice va9 vn9 vc9, .int .i64 kB, .int .i64 nB, .string xB, .string yB, .slice b0 m0 e0, .slice b1 m1 e1, .slice b2 m2 e2] 58 (0, 0))) := hb16
          have FRS : Hid (Fresh (SXo S0 (.slice ca' i cc')) w2.drew (.slice na9 vn9 nc9) (.slice pa2 vn9 pc2) ns ps2 vn9) := ⟨hfr.names.kept (stays_of_fr (Fr.refl No w2).drew), hfr.pairs.kept (stays_of_fr (Fr.refl No w2).drew), hfr.len1, hfr.len2, hfr.short1, hfr.short2⟩
          have NCD : Hid (NC k nb S0 w #[.int .i64 nd.kind, .int .i64 nd.n, .string nd.name, .string nd.token, .slice va nd.vars.length vc, .slice aa0 nd.args.length ac0, .slice (some ⟨g, o, none⟩) nd.cases.length cc] nd.kind nd.n nd.token (.slice va nd.vars.length vc) nd.args.length wl.sum aa ac wl2 i ca' cc' (K2 + vn9) x w2.drew) := HNC.out.move fD hb2 hnw (fun g hg => (HS0.out g hg).1)
          have hDs : wr.heap.size < w2.heap.size := lt_of_heap bD.out
          have hq16 : wr.heap.size ≠ nb := by omega
          have hbd : K2 + vn9 + Pu.wt k nd.cases[i].2.2 ≤ 1073741824 ∧ Np + vn9 + Pu.wt k nd.cases[i].2.2 ≤ 1073741824 ∧ Np + vn9 ≤ 1073741824 := by
            obtain ⟨b1, b2, b3, b4, b5⟩ := HCT.out
            have b6 := HVN.out
            omega
          have HBD := hide hbd
          have R1 : Hid (∃ v' w', (Builtin.append_ #[97, 97] 97 #[.slice (some ⟨w2.heap.size, 0, none⟩) 0 0, .slice pa Np pc]).run Tryz.prog (w2.drew.alloc (.cells #[] 132)) = .ok v' w' ∧ (∃ a' c', v' = .slice a' Np c' ∧ w'.ownsRow w2.heap.size 132 2 v' Np (ps.map .string) ∧ (∀ (q : Nat) (c : Array Value) (t : Nat) (z : Nat × Nat), t ≠ 132 → w2.drew.heap[q]? = some (Obj.cells c t z) → w'.heap[q]? = some (Obj.cells c t z)) ∧ Fr No w2.drew w')) := by
            have fa : Fr No w2.drew (w2.drew.alloc (.cells #[] 132)) := (Fr.refl No w2.drew).alloc _
            have hp : RowP (fun g => g ≠ nb) (w2.drew.alloc (.cells #[] 132)) (.slice pa Np pc) Np (ps.map .string) := HPS.out.kept (stays_fr ((HNC.out.fr.trans fD).no fa) (fun g hg _ e => hg e) (fun _ h => h))
            obtain ⟨v', w', g1, a', c', g2, g3, g4, g5⟩ := app_pairs (xs := []) (ys := ps) (row_litP w2.heap.size 132 2 w2.drew (Nat.le_refl _)) hp HPL.out.1 (by have := HBD.out; omega) (by rw [World.size_alloc]; exact Nat.le_succ _)
            exact ⟨v', w', g1, a', c', by simpa using g2, by simpa using g3, fun q c t z ht hh => g4 q c t z ht (fr_heap hh fa (fun e => e)), fa.trans' g5 (fun j hj e => by have hj : j < w2.heap.size := hj; omega)⟩
          have R2 : Hid (∀ w3 a3 c3, w3.ownsRow w2.heap.size 132 2 (.slice a3 Np c3) Np (ps.map .string) → (∀ (q : Nat) (c : Array Value) (t : Nat) (z : Nat × Nat), t ≠ 132 → w2.drew.heap[q]? = some (Obj.cells c t z) → w3.heap[q]? = some (Obj.cells c t z)) → Fr No w2.drew w3 →
              ∃ v' w', (Builtin.append_ #[97, 97] 97 #[.slice a3 Np c3, .slice pa2 vn9 pc2]).run Tryz.prog w3 = .ok v' w' ∧ (∃ a' c', v' = .slice a' (Np + vn9) c' ∧ w'.ownsRow w2.heap.size 132 2 v' (Np + vn9) ((ps ++ ps2).map .string) ∧ (∀ (q : Nat) (c : Array Value) (t : Nat) (z : Nat × Nat), t ≠ 132 → w2.drew.heap[q]? = some (Obj.cells c t z) → w'.heap[q]? = some (Obj.cells c t z)) ∧ Fr No w2.drew w')) := fun w3 a3 c3 ho hk hf3 => by
            obtain ⟨v', w', g1, a', c', g2, g3, g4, g5⟩ := app_pairs ho (FRS.out.pairs.kept (S' := SXo S0 (.slice ca' i cc')) (stays_of_fr hf3)) FRS.out.len2 (by have := HBD.out; omega) (show w2.heap.size ≤ w3.heap.size from hf3.size)
            exact ⟨v', w', g1, a', c', g2, g3, fun q c t z ht hh => g4 q c t z ht (hk q c t z ht hh), hf3.trans' g5 (fun j hj e => by have hj : j < w2.heap.size := hj; omega)⟩
          have CT1 : Hid (∀ w4 a4 c4, w4.ownsRow w2.heap.size 132 2 (.slice a4 (Np + vn9) c4) (Np + vn9) ((ps ++ ps2).map .string) → Fr No w2.drew w4 → Calls Tryz.prog 64 #[.pointer (some ⟨nb, 0, none⟩), .agg #[.int .i64 kB, .int .i64 nB, .string xB, .string yB, .slice b0 m0 e0, .slice b1 m1 e1, .slice b2 m2 e2], .slice a4 (Np + vn9) c4] w4 fun e w5 => ∃ kc nc xc yc r0 p0 d0 r1 p1 d1 r2 p2 d2, e = .returned (.agg #[.int .i64 kc, .int .i64 nc, .string xc, .string yc, .slice r0 p0 d0, .slice r1 p1 d1, .slice r2 p2 d2]) ∧ Fr (· = nb) w2.drew w5 ∧ ∃ K3 m : Nat, K3 ≤ K2 + vn9 + Pu.wt k nd.cases[i].2.2 ∧ NC k nb S0 w #[.int .i64 nd.kind, .int .i64 nd.n, .string nd.name, .string nd.token, .slice va nd.vars.length vc, .slice aa0 nd.args.length ac0, .slice (some ⟨g, o, none⟩) nd.cases.length cc] nd.kind nd.n nd.token (.slice va nd.vars.length vc) nd.args.length wl.sum aa ac wl2 i ca' cc' K3 x w5 ∧ PT k (SXo S0 (.slice ca' i cc')) w5 [.int .i64 kc, .int .i64 nc, .string xc, .string yc, .slice r0 p0 d0, .slice r1 p1 d1, .slice r2 p2 d2] m ∧ m ≤ Pu.wt k nd.cases[i].2.2) := fun w4 a4 c4 ho hf4 => by
            have hsD : wr.heap.size ≤ w2.drew.heap.size := fD.size
            have hs4 := hf4.size
            have hfw : Fr (· = nb) w w4 := (HNC.out.fr.trans fD).no hf4
            refine (CTC.out nd.cases[i] w4 (.slice ca' i cc') (K2 + vn9) (Np + vn9) _ (ps ++ ps2) kB nB xB yB b0 m0 e0 b1 m1 e1 b2 m2 e2 HMEM.out hfw (fr_heap NCD.out.nbx hf4 (fun e => e)) (by omega) (fun a ha => by have := HOWN.out a ha; omega) (HRT.out.old ((fD.no hf4).old (by have := HEN.out.2.2.1; omega) (fun j hj e => by have e : j = nb := e; have := HEN.out.2.2.1; omega)) (fD.no hf4).size) (rowP_own ho (fun g hg => by have := (ho.lt g hg).1; omega)) (by rw [List.length_append, HPL.out.1, FRS.out.len2]; omega) (fun y hy => (List.mem_append.1 hy).elim (HPL.out.2 y) (FRS.out.short2 y)) HBD.out.1 HBD.out.2.1).mono fun e w5 ⟨kc, nc, xc, yc, r0, p0, d0, r1, p1, d1, r2, p2, d2, he, hf5, ⟨K3, hb3, hk3⟩, m, hm1, hm2⟩ => ?_
            have hf25 : Fr (· = nb) w2.drew w5 := (hf4.mono (fun _ _ e => e.elim)).trans hf5
            exact ⟨kc, nc, xc, yc, r0, p0, d0, r1, p1, d1, r2, p2, d2, he, hf25, K3, m, hk3, NCD.out.move hf25 hb3 hnw (fun g hg => (HS0.out g hg).1), hm1, hm2⟩
          have SCF : Hid (∀ W : World, W.heap[wr.heap.size]? = some (.cells #[.int .i64 tg, .slice va9 vn9 vc9, .int .i64 kB, .int .i64 nB, .string xB, .string yB, .slice b0 m0 e0, .slice b1 m1 e1, .slice b2 m2 e2] 58 (0, 0)) → (W.cell? ⟨wr.heap.size, 0, none⟩ = some (.int .i64 tg) ∧ W.cell? ⟨wr.heap.size, 2, none⟩ = some (.int .i64 kB) ∧ W.cell? ⟨wr.heap.size, 2 + 1, none⟩ = some (.int .i64 nB) ∧ W.cell? ⟨wr.heap.size, 2 + 2, none⟩ = some (.string xB) ∧ W.cell? ⟨wr.heap.size, 2 + 3, none⟩ = some (.string yB) ∧ W.cell? ⟨wr.heap.size, 2 + 4, none⟩ = some (.slice b0 m0 e0) ∧ W.cell? ⟨wr.heap.size, 2 + 5, none⟩ = some (.slice b1 m1 e1) ∧ W.cell? ⟨wr.heap.size, 2 + 6, none⟩ = some (.slice b2 m2 e2))) := fun W hW => by
            have ck := cell_of_heap hW
            exact ⟨ck 0, ck 2, ck 3, ck 4, ck 5, ck 6, ck 7, ck 8⟩
          have RA : Hid (∀ w5 K3 m kc nc xc yc r0 p0 d0 r1 p1 d1 r2 p2 d2, Fr (· = nb) w2.drew w5 → NC k nb S0 w #[.int .i64 nd.kind, .int .i64 nd.n, .string nd.name, .string nd.token, .slice va nd.vars.length vc, .slice aa0 nd.args.length ac0, .slice (some ⟨g, o, none⟩) nd.cases.length cc] nd.kind nd.n nd.token (.slice va nd.vars.length vc) nd.args.length wl.sum aa ac wl2 i ca' cc' K3 x w5 → PT k (SXo S0 (.slice ca' i cc')) w5 [.int .i64 kc, .int .i64 nc, .string xc, .string yc, .slice r0 p0 d0, .slice r1 p1 d1, .slice r2 p2 d2] m → m ≤ Pu.wt k nd.cases[i].2.2 →
              ∃ v' w', (Builtin.append_ #[30, 30] 30 #[.slice ca' i cc', .slice (some ⟨w5.heap.size, 0, none⟩) 1 1]).run Tryz.prog (w5.alloc (.cells #[.int .i64 tg, .slice na9 vn9 nc9, .int .i64 kc, .int .i64 nc, .string xc, .string yc, .slice r0 p0 d0, .slice r1 p1 d1, .slice r2 p2 d2] 58)) = .ok v' w' ∧ ∃ a' c', v' = .slice a' (i + 1) c' ∧ w'.heap[wr.heap.size]? = some (.cells #[.int .i64 tg, .slice va9 vn9 vc9, .int .i64 kB, .int .i64 nB, .string xB, .string yB, .slice b0 m0 e0, .slice b1 m1 e1, .slice b2 m2 e2] 58 (0, 0)) ∧ w'.heap[w.heap.size + 1 + 1]? = some (.cells #[.int .i64 nd.kind, .int .i64 nd.n, .string x, .string nd.token, .slice va nd.vars.length vc, .slice aa nd.args.length ac, .slice ca' i cc'] 32 (0, 0)) ∧ NC k nb S0 w #[.int .i64 nd.kind, .int .i64 nd.n, .string nd.name, .string nd.token, .slice va nd.vars.length vc, .slice aa0 nd.args.length ac0, .slice (some ⟨g, o, none⟩) nd.cases.length cc] nd.kind nd.n nd.token (.slice va nd.vars.length vc) nd.args.length wl.sum aa ac wl2 (i + 1) a' c' K3 x (w'.setCell ⟨w.heap.size + 1 + 1, 6, none⟩ (.slice a' (i + 1) c'))) := fun w5 K3 m kc nc xc yc r0 p0 d0 r1 p1 d1 r2 p2 d2 hf5 hnc5 hp hm => by
            have hsD : wr.heap.size ≤ w2.drew.heap.size := fD.size
            have hs5 := hf5.size
            have hnames : NamesP (SXo S0 (.slice ca' i cc')) w5 (.slice na9 vn9 nc9) ns := by
              refine ⟨?_, FRS.out.short1⟩
              rw [FRS.out.len1]
              exact FRS.out.names.kept (stays_fr hf5 (fun g hg _ e => (HS0.out g hg.1).1 e) (fun _ h => h))
            obtain ⟨v', w', g1, a', c', g2, g3, g4⟩ := hnc5.put hnw HS0.out (by omega) (vals := [.int .i64 tg, .slice na9 vn9 nc9, .int .i64 kc, .int .i64 nc, .string xc, .string yc, .slice r0 p0 d0, .slice r1 p1 d1, .slice r2 p2 d2]) (c := (tg, ns, m)) (a := 1 + nd.cases[i].2.1.length + Pu.wt k nd.cases[i].2.2) rfl one9 ⟨_, _, rfl, hnames, rfl, hp⟩ (by have h1 := FRS.out.len1; have h2 := HVN.out; show 1 + ns.length + m ≤ _; omega) (HWL2.out i hlt).1 (by omega)
            exact ⟨v', w', g1, a', c', g2, fr_heap (fr_heap bD.out hf5 hq16) g3 (fun e => by have := (HOWN.out _ e.2.2).2; omega), fr_heap hnc5.o g3 (fun e => by have := e.1; omega), g4⟩
          have HZ : Hid (w2.drew.cell? ⟨wr.heap.size, 0, none⟩ = some (.int .i64 tg) ∧ w2.drew.cell? ⟨wr.heap.size, 2, none⟩ = some (.int .i64 kB) ∧ w2.drew.cell? ⟨wr.heap.size, 2 + 1, none⟩ = some (.int .i64 nB) ∧ w2.drew.cell? ⟨wr.heap.size, 2 + 2, none⟩ = some (.string xB) ∧ w2.drew.cell? ⟨wr.heap.size, 2 + 3, none⟩ = some (.string yB) ∧ w2.drew.cell? ⟨wr.heap.size, 2 + 4, none⟩ = some (.slice b0 m0 e0) ∧ w2.drew.cell? ⟨wr.heap.size, 2 + 5, none⟩ = some (.slice b1 m1 e1) ∧ w2.drew.cell? ⟨wr.heap.size, 2 + 6, none⟩ = some (.slice b2 m2 e2)) := SCF.out _ bD.out
          have hneq : wr.heap.size ≠ w.heap.size + 1 + 1 := by omega
          have KC : Hid (∀ (W : World) (u : Value), (W.cell? ⟨wr.heap.size, 0, none⟩ = some (.int .i64 tg) ∧ W.cell? ⟨wr.heap.size, 2, none⟩ = some (.int .i64 kB) ∧ W.cell? ⟨wr.heap.size, 2 + 1, none⟩ = some (.int .i64 nB) ∧ W.cell? ⟨wr.heap.size, 2 + 2, none⟩ = some (.string xB) ∧ W.cell? ⟨wr.heap.size, 2 + 3, none⟩ = some (.string yB) ∧ W.cell? ⟨wr.heap.size, 2 + 4, none⟩ = some (.slice b0 m0 e0) ∧ W.cell? ⟨wr.heap.size, 2 + 5, none⟩ = some (.slice b1 m1 e1) ∧ W.cell? ⟨wr.heap.size, 2 + 6, none⟩ = some (.slice b2 m2 e2)) → ((W.setCell ⟨w.heap.size + 1 + 1, 6, none⟩ u).cell? ⟨wr.heap.size, 0, none⟩ = some (.int .i64 tg) ∧ (W.setCell ⟨w.heap.size + 1 + 1, 6, none⟩ u).cell? ⟨wr.heap.size, 2, none⟩ = some (.int .i64 kB) ∧ (W.setCell ⟨w.heap.size + 1 + 1, 6, none⟩ u).cell? ⟨wr.heap.size, 2 + 1, none⟩ = some (.int .i64 nB) ∧ (W.setCell ⟨w.heap.size + 1 + 1, 6, none⟩ u).cell? ⟨wr.heap.size, 2 + 2, none⟩ = some (.string xB) ∧ (W.setCell ⟨w.heap.size + 1 + 1, 6, none⟩ u).cell? ⟨wr.heap.size, 2 + 3, none⟩ = some (.string yB) ∧ (W.setCell ⟨w.heap.size + 1 + 1, 6, none⟩ u).cell? ⟨wr.heap.size, 2 + 4, none⟩ = some (.slice b0 m0 e0) ∧ (W.setCell ⟨w.heap.size + 1 + 1, 6, none⟩ u).cell? ⟨wr.heap.size, 2 + 5, none⟩ = some (.slice b1 m1 e1) ∧ (W.setCell ⟨w.heap.size + 1 + 1, 6, none⟩ u).cell? ⟨wr.heap.size, 2 + 6, none⟩ = some (.slice b2 m2 e2))) := fun W u h => ⟨by rw [cell_off hneq]; exact h.1, by rw [cell_off hneq]; exact h.2.1, by rw [cell_off hneq]; exact h.2.2.1, by rw [cell_off hneq]; exact h.2.2.2.1, by rw [cell_off hneq]; exact h.2.2.2.2.1, by rw [cell_off hneq]; exact h.2.2.2.2.2.1, by rw [cell_off hneq]; exact h.2.2.2.2.2.2.1, by rw [cell_off hneq]; exact h.2.2.2.2.2.2.2⟩
          have SAL : Hid (∀ (W : World) o', (W.cell? ⟨wr.heap.size, 0, none⟩ = some (.int .i64 tg) ∧ W.cell? ⟨wr.heap.size, 2, none⟩ = some (.int .i64 kB) ∧ W.cell? ⟨wr.heap.size, 2 + 1, none⟩ = some (.int .i64 nB) ∧ W.cell? ⟨wr.heap.size, 2 + 2, none⟩ = some (.string xB) ∧ W.cell? ⟨wr.heap.size, 2 + 3, none⟩ = some (.string yB) ∧ W.cell? ⟨wr.heap.size, 2 + 4, none⟩ = some (.slice b0 m0 e0) ∧ W.cell? ⟨wr.heap.size, 2 + 5, none⟩ = some (.slice b1 m1 e1) ∧ W.cell? ⟨wr.heap.size, 2 + 6, none⟩ = some (.slice b2 m2 e2)) → ((W.alloc o').cell? ⟨wr.heap.size, 0, none⟩ = some (.int .i64 tg) ∧ (W.alloc o').cell? ⟨wr.heap.size, 2, none⟩ = some (.int .i64 kB) ∧ (W.alloc o').cell? ⟨wr.heap.size, 2 + 1, none⟩ = some (.int .i64 nB) ∧ (W.alloc o').cell? ⟨wr.heap.size, 2 + 2, none⟩ = some (.string xB) ∧ (W.alloc o').cell? ⟨wr.heap.size, 2 + 3, none⟩ = some (.string yB) ∧ (W.alloc o').cell? ⟨wr.heap.size, 2 + 4, none⟩ = some (.slice b0 m0 e0) ∧ (W.alloc o').cell? ⟨wr.heap.size, 2 + 5, none⟩ = some (.slice b1 m1 e1) ∧ (W.alloc o').cell? ⟨wr.heap.size, 2 + 6, none⟩ = some (.slice b2 m2 e2))) := fun W o' h => ⟨cell_allocA o' h.1, cell_allocA o' h.2.1, cell_allocA o' h.2.2.1, cell_allocA o' h.2.2.2.1, cell_allocA o' h.2.2.2.2.1, cell_allocA o' h.2.2.2.2.2.1, cell_allocA o' h.2.2.2.2.2.2.1, cell_allocA o' h.2.2.2.2.2.2.2⟩
          have kt2 : ∀ q, w2.cell? ⟨w.heap.size + 1 + 1, q, none⟩ = _ := cell_of_heap NCD.out.o
          have kl2 : w.heap.size + 1 + 1 < w2.heap.size := lt_of_heap NCD.out.o
          have kb2 : ∀ q, w2.cell? ⟨wr.heap.size, q, none⟩ = _ := cell_of_heap bD.out
          have BO := hide NCD.out.o
          have FDD := hide fD
          clear fD hf2 hb2 hfr hb16 hbd
          go_wp2_with fail
          clear kb2
          rw [show Op.load 30 (.tmp 98) = ldM from rfl]
          go_region_held3 (fun w' : World => w'.cell? ⟨wr.heap.size, 0, none⟩ = some (.int .i64 tg) ∧ w'.cell? ⟨wr.heap.size, 2, none⟩ = some (.int .i64 kB) ∧ w'.cell? ⟨wr.heap.size, 2 + 1, none⟩ = some (.int .i64 nB) ∧ w'.cell? ⟨wr.heap.size, 2 + 2, none⟩ = some (.string xB) ∧ w'.cell? ⟨wr.heap.size, 2 + 3, none⟩ = some (.string yB) ∧ w'.cell? ⟨wr.heap.size, 2 + 4, none⟩ = some (.slice b0 m0 e0) ∧ w'.cell? ⟨wr.heap.size, 2 + 5, none⟩ = some (.slice b1 m1 e1) ∧ w'.cell? ⟨wr.heap.size, 2 + 6, none⟩ = some (.slice b2 m2 e2)) (first | with_reducible assumption | with_reducible exact HZ.out | with_reducible exact KC.out _ _ (by with_reducible assumption) | exact SAL.out _ _ (by first | with_reducible assumption | exact HZ.out))
            (first
            | (refine step_app rfl (.tmp 106) (.tmp 107) 97 rfl rfl rfl rfl R1.out ?_; rintro v3 w3 ⟨a3, c3, rfl, p1, p2, p3⟩; have P1 := hide p1; have P2 := hide p2; have P3 := hide p3; have hz3 := SCF.out w3 (p2 _ _ _ _ (by decide) bD.out); have kk3 := cell_of_heap (p2 _ _ _ _ (by decide) BO.out); have kl3 := lt_of_heap (p2 _ _ _ _ (by decide) BO.out); clear p1 p2 p3)
            | (refine step_app rfl (.tmp 108) (.tmp 109) 97 rfl rfl rfl rfl (R2.out _ _ _ P1.out P2.out P3.out) ?_; rintro v4 w4 ⟨a4, c4, rfl, p1, p2, p3⟩; have Q1 := hide p1; have Q3 := hide p3; have hz4 := SCF.out w4 (p2 _ _ _ _ (by decide) bD.out); have kk4 := cell_of_heap (p2 _ _ _ _ (by decide) BO.out); have kl4 := lt_of_heap (p2 _ _ _ _ (by decide) BO.out); clear p1 p2 p3)
            | (refine step_app rfl (.tmp 99) (.tmp 113) 30 rfl rfl rfl rfl (RA.out _ _ _ kc nc xc yc r0 p0 d0 r1 p1 d1 r2 p2 d2 F5.out N5.out T5.out M5.out.1) ?_; rintro v6 w6 ⟨a6, c6, rfl, p1, p2, p3⟩; have hz6 := SCF.out w6 p1; have O6 := hide p2; have N6 := hide p3; have kk6 := cell_of_heap p2; have kz6 := frozen_of_heap p2; have kl6 := lt_of_heap p2; clear p1 p2 p3)
            | (go_at_call 64; refine (CT1.out _ _ _ Q1.out Q3.out).mono ?_; rintro e w5 ⟨kc, nc, xc, yc, r0, p0, d0, r1, p1, d1, r2, p2, d2, rfl, hf5, K3, m, hk3, hnc5, hp5, hm5⟩; have hz5 := SCF.out w5 (fr_heap bD.out hf5 hq16); have F5 := hide hf5; have N5 := hide hnc5; have T5 := hide hp5; have M5 := hide (And.intro hm5 hk3); have kk5 := cell_of_heap hnc5.o; have kl5 := lt_of_heap hnc5.o; clear hf5 hk3 hnc5 hp5 hm5))
          all_goals
            go_wp2_with fail
            go_roundw
            case rel => exact ⟨i + 1, a6, c6, K3, by omega, by go_num, by have h1 := M5.out.2; have h2 := (HWL2.out i hlt).1; have h3' := HCT.out.1; have h4' := HVN.out; rw [h2]; omega, N6.out⟩
            case measure => simp [intOf]; omega
        · have hil : i = nd.cases.length := by omega
          have HCN := hide hcnt
          clear hnc hcnt
          subst hil
          go_wp2_with fail
          obtain ⟨s1, s2⟩ := set7 HNC.out.r (.int .i64 nd.kind) (.int .i64 nd.n) (.string x) (.string nd.token) (.slice va nd.vars.length vc) (.slice aa nd.args.length ac) (.slice ca' nd.cases.length cc')
          have hs := HNC.out.fr.size
          have hF1 := HNC.out.fr.trans' s2 (fun j hj e => by have e : j = w.heap.size + 1 := e; omega)
          have hNV : NamesP S0 wr (.slice va nd.vars.length vc) nd.vars := H4.out.kept ⟨HNC.out.fr.size, fun g hg hl => ⟨HS5.out g hg hl, HNC.out.fr.block g hl (fun e => HSN.out.2 (by have e : g = nb := e; rw [← e]; exact hg))⟩⟩
          obtain ⟨m, hm1, hm2⟩ := HNC.out.fin (S := S0) (fun g hg => hg) (fun g hg => HS3.out g hg) hNV ⟨HQ.out.1.1, HQ.out.1.2⟩ HNM.out.2
          refine bodyPost_ret (retT rfl _ _ (w.heap.size + 1) _ _ _ _ _ _ _ (0, 0) rfl s1) rfl ⟨_, rfl, hF1, ⟨K2, fr_heap HNC.out.nbx s2 (fun e => by have e : nb = w.heap.size + 1 := e; omega), ?_⟩, ?_⟩
          · have h1 := HCN.out; have h2 := HK1.out; have h3 := HWT.out.1; have h4 := HWC.out.1; rw [List.take_of_length_le (by rw [HWC.out.2]; exact Nat.le_refl _)] at h1; omega
          · rw [List.take_of_length_le (by rw [HWC.out.2]; exact Nat.le_refl _)] at hm2
            exact ⟨m, hm1.kept (stays_fr s2 (fun g hg _ e => HS6.out g hg e) (fun g hg => HS4.out g hg)), by have h4 := HWC.out.1; omega⟩
end Go.Proofs.YtomahbdidlglfacGreatDoor
