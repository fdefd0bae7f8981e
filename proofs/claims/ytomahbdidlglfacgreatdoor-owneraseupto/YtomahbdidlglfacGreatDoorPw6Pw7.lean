/- The document's Plain terms, walked: a match. -/
import Derived.Test.YtomahbdidlglfacGreatDoorPw4Pw5
namespace Go.Proofs.YtomahbdidlglfacGreatDoor
open Go.RowKit Go.Maps Go.WideMaps

/-- What is there between two rounds over cases. -/
structure MC (wb : Nat) (S0 : Nat → Prop) (w : World) (vv : Value) (wl : List Nat) (i : Nat) (ca : Option Addr) (cc : Nat) (K' : Nat) (W : World) : Prop where
  fr : Fr (· = wb) w W
  nbx : W.heap[wb]? = some (.cells #[.int .i64 (K' : Int)] 71 (0, 0))
  o : W.heap[w.heap.size]? = some (.cells #[.int .i64 7, .int .i64 0, .string ⟨#[]⟩, .string ⟨#[]⟩, .slice none 0 0, vv, .slice ca i cc] 32 (0, 0))
  row : ∃ kc xs cl, W.ownsRow (w.heap.size + 1) 58 9 (.slice ca i cc) i xs ∧ Each 9 (RCP (PT kc (SXo S0 (.slice ca i cc)) W) (SXo S0 (.slice ca i cc)) W) xs cl ∧ cl.length = i ∧ (cl.map fun c : Int × List ByteArray × Nat => 1 + c.2.1.length + c.2.2).sum ≤ 4 * (wl.take i).sum
theorem MC.call {wb : Nat} {S0 : Nat → Prop} {w : World} {vv : Value} {wl : List Nat} {i : Nat} {ca : Option Addr} {cc K' K2 : Nat} {W W' : World} (h : MC wb S0 w vv wl i ca cc K' W) (hf : Fr (· = wb) W W') (hb : W'.heap[wb]? = some (.cells #[.int .i64 (K2 : Int)] 71 (0, 0))) (hnb : wb < w.heap.size) (hS0 : ∀ g, S0 g → g ≠ wb) : MC wb S0 w vv wl i ca cc K2 W' := by
  have ne : ∀ q, w.heap.size ≤ q → ¬ q = wb := fun q hq e => by omega
  obtain ⟨kc, xs, cl, h1, h2, h3, h4⟩ := h.row
  have st : Stays (SXo S0 (.slice ca i cc)) (SXo S0 (.slice ca i cc)) W W' := stays_fr hf (fun g hg _ e => hS0 g hg.1 e) (fun _ h => h)
  exact ⟨h.fr.trans hf, hb, fr_heap h.o hf (ne _ (Nat.le_refl _)), kc, xs, cl, own_keptF h1 hf (fun a ha => ne a (by omega)), h2.mono fun c a hp => rcp_keptE kc _ _ _ _ _ _ st hp, h3, h4⟩
theorem MC.no {wb : Nat} {S0 : Nat → Prop} {w : World} {vv : Value} {wl : List Nat} {i : Nat} {ca : Option Addr} {cc K' : Nat} {W W' : World} (h : MC wb S0 w vv wl i ca cc K' W) (hf : Fr No W W') (hnb : wb < w.heap.size) (hS0 : ∀ g, S0 g → g ≠ wb) : MC wb S0 w vv wl i ca cc K' W' :=
  h.call (hf.mono fun _ _ e => e.elim) (fr_heap h.nbx hf (fun e => e)) hnb hS0
theorem MC.put {wb : Nat} {S0 : Nat → Prop} {w : World} {vv : Value} {wl : List Nat} {i : Nat} {ca : Option Addr} {cc K' : Nat} {W : World} (h : MC wb S0 w vv wl i ca cc K' W) (hnb : wb < w.heap.size) (hS0 : ∀ g, S0 g → g ≠ wb ∧ g ≠ w.heap.size) (hw3 : w.heap.size + 1 ≤ W.heap.size) {vals : List Value} {c : Int × List ByteArray × Nat} {a kn : Nat} (hv : vals.length = 9) (h1 : ∀ u ∈ vals, u.oneCell' = true) (hn : RCP (PT kn (SXo S0 (.slice ca i cc)) W) (SXo S0 (.slice ca i cc)) W vals c) (hm : 1 + c.2.1.length + c.2.2 ≤ 4 * a) (hw : (wl.take (i + 1)).sum = (wl.take i).sum + a) (hi : i + 1 ≤ 2147483648) :
    ∃ v' w', (Builtin.append_ #[30, 30] 30 #[.slice ca i cc, .slice (some ⟨W.heap.size, 0, none⟩) 1 1]).run Tryz.prog (W.alloc (.cells vals.toArray 58)) = .ok v' w' ∧ ∃ a' c', v' = .slice a' (i + 1) c' ∧ Fr (fun g => w.heap.size + 1 ≤ g ∧ g < W.heap.size ∧ (Value.slice ca i cc).ownBlock = some g) W w' ∧ MC wb S0 w vv wl (i + 1) a' c' K' (w'.setCell ⟨w.heap.size, 6, none⟩ (.slice a' (i + 1) c')) := by
  obtain ⟨kc, xs, cl, r1, r2, r3, r4⟩ := h.row
  have up : ∀ {k k' : Nat} {S : Nat → Prop} {W : World} {c : List Value} {a : Int × List ByteArray × Nat}, k ≤ k' → RCP (PT k S W) S W c a → RCP (PT k' S W) S W c a := fun hk hr => hr.kept (stays_self fun _ h => h) fun _ _ hp => hp.upTo hk
  obtain ⟨v', w', g1, a', c', rfl, g2, g3, g4, st⟩ := app_el Tryz.ul30P Tryz.info58 rfl (by decide) (by decide) (rcp_keptE (kc + kn)) r1 (r2.mono fun c a h => up (Nat.le_add_right _ _) h) (up (Nat.le_add_left _ _) hn) hv h1 hi hw3
  have g4' : Fr (fun g => w.heap.size + 1 ≤ g ∧ g < W.heap.size ∧ (Value.slice ca i cc).ownBlock = some g) W w' := g4.mono (fun g _ hg => ⟨(r1.lt g hg).1, (r1.lt g hg).2, hg⟩)
  refine ⟨_, w', g1, a', c', rfl, g4', ?_⟩
  have f1 : Fr (· = w.heap.size) w' (w'.setCell ⟨w.heap.size, 6, none⟩ (.slice a' (i + 1) c')) := (Fr.refl (· = w.heap.size) w').setCell (p := ⟨w.heap.size, 6, none⟩) (.inl rfl) _
  have lo : ∀ q z, q < w.heap.size + 1 → W.heap[q]? = some z → w'.heap[q]? = some z := fun q z hq hz => fr_heap hz g4' (fun e => by have := e.1; omega)
  have ho := lo _ _ (by omega) h.o
  have st1 : Stays (SXo S0 (.slice a' (i + 1) c')) (SXo S0 (.slice a' (i + 1) c')) w' (w'.setCell ⟨w.heap.size, 6, none⟩ (.slice a' (i + 1) c')) := stays_fr f1 (fun g hg _ e => (hS0 g hg.1).2 e) (fun _ h => h)
  refine ⟨(h.fr.trans' g4' (fun j hj e => by have := e.1; omega)).trans' f1 (fun j hj e => by have e : j = w.heap.size := e; omega), fr_heap (lo _ _ (by omega) h.nbx) f1 (fun e => by have e : wb = w.heap.size := e; omega), ?_, kc + kn, xs ++ vals, cl ++ [c], own_keptF g2 f1 (fun q hq e => by have e : q = w.heap.size := e; omega), g3.mono fun c q hp => rcp_keptE (kc + kn) _ _ _ _ _ _ st1 hp, by rw [List.length_append, r3]; rfl, by rw [List.map_append, List.sum_append, hw]; simp; omega⟩
  simp [World.setCell, Array.getElem?_modify, ho]
/-- The whole. -/
theorem MC.fin {k wb : Nat} {S0 S : Nat → Prop} {w : World} {av : Value} {wl ws : List Nat} {xs : List Value} {i : Nat} {ca : Option Addr} {cc K' : Nat} {W : World} (h : MC wb S0 w av wl i ca cc K' W) (hS : ∀ g, S0 g → S g) (hSn : ∀ g, w.heap.size + 1 ≤ g → S g) (hr : RowP S W av ws.length xs) (he : Each 7 (PT k S W) xs ws) :
    ∃ k' m, k ≤ k' ∧ PT k' S W [.int .i64 7, .int .i64 0, .string ⟨#[]⟩, .string ⟨#[]⟩, .slice none 0 0, av, .slice ca i cc] m ∧ m ≤ 1 + ws.sum + 4 * (wl.take i).sum := by
  obtain ⟨kc, ys, cl, r1, r2, r3, r4⟩ := h.row
  have st : Stays (SXo S0 (.slice ca i cc)) S W W := stays_self fun g hg => hS g hg.1
  have hrow : RowP S W (.slice ca i cc) cl.length ys := by rw [r3]; exact rowP_own r1 (fun g hg => hSn g (r1.lt g hg).1)
  exact ⟨k + kc + 1, _, by omega, mk_pt (by decide) (fun h => absurd h (by decide)) (by decide) (by decide) hr (he.mono fun c a hp => hp.upTo (Nat.le_add_right _ _)) hrow (r2.mono fun c a hp => hp.kept st fun _ _ hp => (hp.kept st).upTo (Nat.le_add_left _ _)), by omega⟩

/-- A load, by a name of its own: a walk takes it as it comes up. -/
def ldO : Op := Op.load 30 (.tmp 73)
theorem ldO_eq : ldO = Op.load 30 (.tmp 73) := rfl
attribute [local go_sem] ldO_eq

set_option maxRecDepth 100000 in
set_option maxHeartbeats 8000000 in
theorem wterm_match (k : Nat) (ih : WTerm k) (wb K : Nat) (S : Nat → Prop) (w : World) (cs : List Value) (nd : Pu.Node Nat) (hS : ∀ g, w.heap.size ≤ g → S g) (hSn : ¬ S wb) (hn : w.heap[wb]? = some (.cells #[.int .i64 (K : Int)] 71 (0, 0))) (h3 : 3 ≤ wb) (henv : Env w) (hr : RNP (PT k S w) S w cs nd) (hk : nd.kind = 7) (hK : K + wtN nd ≤ 1073741824) :
    Calls Tryz.prog 36 #[.pointer (some ⟨wb, 0, none⟩), .agg cs.toArray] w fun e w' => ∃ cs', e = .returned (.agg cs'.toArray) ∧ Fr (· = wb) w w' ∧ (∃ K' : Nat, w'.heap[wb]? = some (.cells #[.int .i64 (K' : Int)] 71 (0, 0)) ∧ K' + 1 ≤ K + wtN nd) ∧ ∃ k' m', PT k' S w' cs' m' ∧ m' + 2 ≤ 4 * wtN nd := by
  obtain ⟨vv, av, cv, acs, ccs, rfl, hnm, hwf, h4, h5, h6, h7, h8⟩ := hr
  obtain ⟨va, vc, rfl, _, _⟩ := h4.1.form
  obtain ⟨aa0, ac0, rfl, hac1, hac2⟩ := h5.form
  obtain ⟨ca, cc, rfl, hcc1, hcc2⟩ := h7.form
  unfold maxLen at hcc2
  have hnw := lt_of_heap hn
  have hlen := each_len h6
  obtain ⟨wl, hwl⟩ : ∃ wl, wl = nd.cases.map fun c => 1 + c.2.1.length + c.2.2 := ⟨_, rfl⟩
  have hwt : wtN nd = 1 + nd.vars.length + nd.args.sum + wl.sum := by rw [hwl]; rfl
  have hlc : nd.cases.length ≤ wl.sum := by rw [hwl]; exact len_le (fun c : Int × List ByteArray × Nat => 1 + c.2.1.length + c.2.2) (fun c => by omega) nd.cases
  have HWL : Hid (∀ i (h : i < nd.cases.length), (wl.take (i + 1)).sum = (wl.take i).sum + (1 + nd.cases[i].2.1.length + nd.cases[i].2.2) ∧ (wl.take i).sum + (1 + nd.cases[i].2.1.length + nd.cases[i].2.2) ≤ wl.sum) := fun i hi => by
    have hl : i < wl.length := by rw [hwl, List.length_map]; exact hi
    have he : wl[i] = 1 + nd.cases[i].2.1.length + nd.cases[i].2.2 := by simp [hwl]
    have h1 : (wl.take (i + 1)).sum = (wl.take i).sum + (1 + nd.cases[i].2.1.length + nd.cases[i].2.2) := by rw [List.take_succ_eq_append_getElem hl, List.sum_append, he]; simp
    have h2 : wl.sum = (wl.take (i + 1)).sum + (wl.drop (i + 1)).sum := by rw [← List.sum_append, List.take_append_drop]
    exact ⟨h1, by omega⟩
  have HWC : Hid (wl.length = nd.cases.length) := by rw [hwl, List.length_map]; exact rfl
  obtain ⟨S', hS'⟩ : ∃ S' : Nat → Prop, S' = fun g => S g ∧ g ≠ w.heap.size + 1 := ⟨_, rfl⟩
  have HS2 : Hid (∀ g, w.heap.size + 2 ≤ g → S' g) := fun g hg => by rw [hS']; exact ⟨hS g (by omega), by omega⟩
  have HSE : Hid (∀ g, S' g → S g ∧ g ≠ w.heap.size + 1) := fun g hg => by rw [hS'] at hg; exact hg
  have HSB : Hid (∀ g, S g → g < w.heap.size → S' g) := fun g hg hl => by rw [hS']; exact ⟨hg, by omega⟩
  have HSN := hide hSn
  have st1 : ∀ W, Fr (· = wb) w W → Stays S S' w W := fun W hW => ⟨hW.size, fun g hg hl => ⟨HSB.out g hg hl, hW.block g hl (fun e => hSn (by have e : g = wb := e; rw [← e]; exact hg))⟩⟩
  have CAT : Hid (∀ W, Fr No w W → W.heap.size = w.heap.size + 2 → Calls Tryz.prog 65 #[.pointer (some ⟨wb, 0, none⟩), .slice aa0 nd.args.length ac0] W fun e w' => ∃ va vc ba j bc, e = .returned (.tuple #[.slice va nd.args.length vc, .slice ba j bc]) ∧ ∃ K', K' ≤ K + nd.args.sum ∧ AT k wb S' W nd.args nd.args.length va vc ba j bc K' w') := fun W hW hz =>
    atoms_any k ih wb K S' W _ acs nd.args (fun g hg => HS2.out g (by omega)) (fun h => hSn (HSE.out _ h).1) (fr_heap hn hW (fun e => e)) h3 (henv.fr hW (by omega) (fun _ _ e => e)) (h5.kept (st1 W (hW.mono fun _ _ e => e.elim))) (h6.mono fun c a h => h.kept (st1 W (hW.mono fun _ _ e => e.elim))) (by omega)
  have HCASE : Hid (∀ W, Fr (· = wb) w W → ∀ i (h : i < nd.cases.length), ∃ g o cap tg va9 vc9 kB nB xB yB b0 m0 e0 b1 m1 e1 b2 m2 e2, Value.slice ca nd.cases.length cc = .slice (some ⟨g, o, none⟩) nd.cases.length cap ∧ g < W.heap.size ∧ vc9 ≤ maxLen ∧ (∀ S2, (∀ g, S g → g < w.heap.size → S2 g) → NamesP S2 W (.slice va9 nd.cases[i].2.1.length vc9) nd.cases[i].2.1 ∧ PT k S2 W [.int .i64 kB, .int .i64 nB, .string xB, .string yB, .slice b0 m0 e0, .slice b1 m1 e1, .slice b2 m2 e2] nd.cases[i].2.2) ∧ ∀ j, j < 9 → W.cell? ⟨g, o + i * 9 + j, none⟩ = [Value.int .i64 tg, .slice va9 nd.cases[i].2.1.length vc9, .int .i64 kB, .int .i64 nB, .string xB, .string yB, .slice b0 m0 e0, .slice b1 m1 e1, .slice b2 m2 e2][j]?) := fun W hW i hi => by
    obtain ⟨g, o, cap, ck, hv, _, hSg, hgl, _, ⟨vv9, b, rfl, hnm9, _, hp⟩, hcell⟩ := h7.el h8 i hi
    obtain ⟨va9, vc9, rfl, _, hvm⟩ := hnm9.1.form
    obtain ⟨kB, nB, xB, yB, b0, m0, e0, b1, m1, e1, b2, m2, e2, rfl⟩ := hp.form
    have hb := hW.block g hgl (fun e => hSn (by have e : g = wb := e; rw [← e]; exact hSg))
    have st : ∀ S2 : Nat → Prop, (∀ g, S g → g < w.heap.size → S2 g) → Stays S S2 w W := fun S2 h2 => ⟨hW.size, fun q hq hl => ⟨h2 q hq hl, hW.block q hl (fun e => hSn (by have e : q = wb := e; rw [← e]; exact hq))⟩⟩
    exact ⟨g, o, cap, _, va9, vc9, kB, nB, xB, yB, b0, m0, e0, b1, m1, e1, b2, m2, e2, hv, Nat.lt_of_lt_of_le hgl hW.size, hvm, fun S2 h2 => ⟨hnm9.kept (st S2 h2), hp.kept (st S2 h2)⟩, fun j hj => by rw [show W.cell? ⟨g, o + i * 9 + j, none⟩ = w.cell? ⟨g, o + i * 9 + j, none⟩ from by simp only [World.cell?, hb]]; exact hcell j hj⟩
  have CT : Hid (∀ (S2 : Nat → Prop) W K2 kB nB xB yB b0 m0 e0 b1 m1 e1 b2 m2 e2 m, (∀ g, W.heap.size ≤ g → S2 g) → ¬ S2 wb → Fr (· = wb) w W → W.heap[wb]? = some (.cells #[.int .i64 ((K2 : Nat) : Int)] 71 (0, 0)) → PT k S2 W [.int .i64 kB, .int .i64 nB, .string xB, .string yB, .slice b0 m0 e0, .slice b1 m1 e1, .slice b2 m2 e2] m → K2 + m ≤ 1073741824 → Calls Tryz.prog 36 #[.pointer (some ⟨wb, 0, none⟩), .agg #[.int .i64 kB, .int .i64 nB, .string xB, .string yB, .slice b0 m0 e0, .slice b1 m1 e1, .slice b2 m2 e2]] W fun e w' => ∃ kC nC xC yC u0 p0 d0 u1 p1 d1 u2 p2 d2, e = .returned (.agg #[.int .i64 kC, .int .i64 nC, .string xC, .string yC, .slice u0 p0 d0, .slice u1 p1 d1, .slice u2 p2 d2]) ∧ Fr (· = wb) W w' ∧ (∃ K' : Nat, w'.heap[wb]? = some (.cells #[.int .i64 (K' : Int)] 71 (0, 0)) ∧ K' + 1 ≤ K2 + m) ∧ ∃ k' m', PT k' S2 w' [.int .i64 kC, .int .i64 nC, .string xC, .string yC, .slice u0 p0 d0, .slice u1 p1 d1, .slice u2 p2 d2] m' ∧ m' + 2 ≤ 4 * m) := fun S2 W K2 kB nB xB yB b0 m0 e0 b1 m1 e1 b2 m2 e2 m h1 h2 hW hb hp hk => by
    refine (ih wb K2 S2 W _ m h1 h2 hb h3 (henv.fr hW (by omega) (fun q hq e => by have e : q = wb := e; omega)) hp hk).mono fun e w' ⟨cs', he, hf, hK', k', m', hp', hm'⟩ => ?_
    obtain ⟨kC, nC, xC, yC, u0, p0, d0, u1, p1, d1, u2, p2, d2, rfl⟩ := hp'.form
    exact ⟨kC, nC, xC, yC, u0, p0, d0, u1, p1, d1, u2, p2, d2, he, hf, hK', k', m', hp', hm'⟩
  have HWT := hide hwt
  have HKK := hide hK
  have HLC := hide hlc
  have hcl : nd.cases.length ≤ 1073741824 := by omega
  have hal : nd.args.length ≤ 1073741824 := by omega
  rw [hk]
  obtain ⟨W0, hW0⟩ : ∃ W0, W0 = ((w.alloc (.cells #[.int .i64 7, .int .i64 nd.n, .string nd.name, .string nd.token, .slice va nd.vars.length vc, .slice aa0 nd.args.length ac0, .slice ca nd.cases.length cc] 32)).alloc (.cells tz 32)) := ⟨_, rfl⟩
  have f0 : Fr No w W0 := by rw [hW0]; exact ((Fr.refl No w).alloc _).alloc _
  have b0' : W0.heap[w.heap.size]? = some (.cells #[.int .i64 7, .int .i64 nd.n, .string nd.name, .string nd.token, .slice va nd.vars.length vc, .slice aa0 nd.args.length ac0, .slice ca nd.cases.length cc] 32 (0, 0)) := by rw [hW0]; exact fr_heap (heap_alloc_new w _) ((Fr.refl No _).alloc _) (fun e => e)
  have b1' : W0.heap[w.heap.size + 1]? = some (.cells tz 32 (0, 0)) := by
    have h := heap_alloc_new (w.alloc (.cells #[.int .i64 7, .int .i64 nd.n, .string nd.name, .string nd.token, .slice va nd.vars.length vc, .slice aa0 nd.args.length ac0, .slice ca nd.cases.length cc] 32)) (.cells tz 32)
    rw [World.size_alloc] at h
    rw [hW0]; exact h
  have hs0 : W0.heap.size = w.heap.size + 2 := by rw [hW0]; simp
  have HW0 := hide hW0
  have F0 := hide f0
  have B0 := hide b0'
  have B1 := hide b1'
  have HS0 := hide hs0
  have CA1 := hide (CAT.out W0 f0 hs0)
  have ST1 := hide st1
  clear CAT hW0 f0 b0' b1' hs0 hk hwt hK hlc hwl hS' st1 hS hSn hn henv h4 h5 h6 h7 h8 hnm hwf ih hlen hac1 hac2
  go_enter Tryz.func36, Tryz.ntmps36
  go_wp2_with fail
  rw [← HW0.out]
  refine CA1.out.mono ?_
  rintro e w2 ⟨va2, vc2, ba, j, bc, rfl, K', hK', hat⟩
  have g0 := fr_heap B0.out hat.fr (fun e => by have e : w.heap.size = wb := e; omega)
  have g1 := fr_heap B1.out hat.fr (fun e => by have e : w.heap.size + 1 = wb := e; omega)
  obtain ⟨kb, bs, xb, ws, xs, _, e1, e2, e3, e4, r1, r2, r3, r4⟩ := hat.fin (fun g hg => HS2.out g (by have := HS0.out; omega))
  subst e1
  have hsz2 : w.heap.size + 2 ≤ w2.heap.size := by have := HS0.out; have := hat.fr.size; omega
  have FAT : Hid (Fr (· = wb) w w2 ∧ w2.heap[wb]? = some (.cells #[.int .i64 (K' : Int)] 71 (0, 0))) := ⟨(F0.out.mono fun _ _ e => e.elim).trans hat.fr, hat.nbx⟩
  have RR := hide (And.intro r1 (And.intro r2 (And.intro r3 r4)))
  have EE := hide (And.intro e2 (And.intro e3 e4))
  have HK' := hide hK'
  have G0 := hide g0
  have G1 := hide g1
  have k0 := cell_of_heap g0
  have l0 := lt_of_heap g0
  have hnw2 : wb < w2.heap.size := by omega
  clear hat g0 g1 r1 r2 r3 r4 e2 e3 e4 hK' CA1
  go_wp2_with fail
  obtain ⟨W1, hW1⟩ : ∃ W1, W1 = w2.alloc (.cells #[.int .i64 7, .int .i64 0, .string ⟨#[]⟩, .string ⟨#[]⟩, .slice none 0 0, .slice va2 nd.args.length vc2, .slice none 0 0] 32) := ⟨_, rfl⟩
  rw [← hW1]
  obtain ⟨S0, hS0⟩ : ∃ S0 : Nat → Prop, S0 = fun g => S' g ∧ g ≠ w2.heap.size := ⟨_, rfl⟩
  have HT2 : Hid (∀ g, w2.heap.size + 1 ≤ g → S0 g) := fun g hg => by rw [hS0]; exact ⟨HS2.out g (by omega), by omega⟩
  have HTE : Hid (∀ g, S0 g → S' g ∧ g ≠ w2.heap.size) := fun g hg => by rw [hS0] at hg; exact hg
  have HTN : Hid (∀ g, S0 g → g ≠ wb) := fun g hg e => by rw [hS0] at hg; exact HSN.out (by rw [← e]; exact (HSE.out g hg.1).1)
  have HTB : Hid (∀ g, S g → g < w.heap.size → S0 g) := fun g hg hl => by rw [hS0]; exact ⟨HSB.out g hg hl, by omega⟩
  have M0 : Hid (MC wb S0 w2 (.slice va2 nd.args.length vc2) wl 0 none 0 K' W1) :=
    ⟨by rw [hW1]; exact (Fr.refl _ w2).alloc _, by rw [hW1]; exact fr_heap FAT.out.2 ((Fr.refl No w2).alloc _) (fun e => e), by rw [hW1]; exact heap_alloc_new w2 _, 0, [], [], World.ownsRow_nil _ _ _ _, rfl, rfl, by simp⟩
  clear hS0 hW1 k0 l0
  go_loopw [69] (fun q wr => ∃ (i : Nat) (ca' : Option Addr) (cc' K2 : Nat), i ≤ nd.cases.length ∧ q = .int .i64 i ∧ K2 ≤ K' + (wl.take i).sum ∧ MC wb S0 w2 (.slice va2 nd.args.length vc2) wl i ca' cc' K2 wr) (fun q _ => nd.cases.length - (intOf q).toNat)
  case atStart => exact ⟨0, none, 0, K', Nat.zero_le _, rfl, by simp, M0.out⟩
  case round =>
    obtain ⟨i, ca', cc', K2, hi, rfl, hcnt, hmc⟩ := hrel
    have k2 := cell_of_heap hmc.o
    have z2 := frozen_of_heap hmc.o
    have l2 := lt_of_heap hmc.o
    have hg0 := fr_heap G0.out hmc.fr (fun e => by have e : w.heap.size = wb := e; omega)
    have k0 := cell_of_heap hg0
    have l0 := lt_of_heap hg0
    have hg1 := fr_heap G1.out hmc.fr (fun e => by have e : w.heap.size + 1 = wb := e; omega)
    have k1 := cell_of_heap hg1
    have z1 := frozen_of_heap hg1
    have l1 := lt_of_heap hg1
    have HG1 := hide hg1
    have HMC := hide hmc
    by_cases hlt : i < nd.cases.length
    · obtain ⟨g, o, cap, tg, va9, vc9, kB, nB, xB, yB, b0, m0, e0, b1, m1, e1, b2, m2, e2, hv, hgl, hvc9, hrt, hcell⟩ := HCASE.out wr (FAT.out.1.trans hmc.fr) i hlt
      injection hv with hv1 _ hv2
      subst hv1 hv2
      have q0 : wr.cell? ⟨g, o + i * 9, none⟩ = some (.int .i64 tg) := hcell 0 (by omega)
      have q1 := hcell 1 (by omega)
      have q2 := hcell 2 (by omega)
      have q3 := hcell 3 (by omega)
      have q4 := hcell 4 (by omega)
      have q5 := hcell 5 (by omega)
      have q6 := hcell 6 (by omega)
      have q7 := hcell 7 (by omega)
      have q8 := hcell 8 (by omega)
      have hwli := HWL.out i hlt
      have i1 : (i : Int) < (nd.cases.length : Int) := by omega
      have i0 : (0 : Int) ≤ (i : Int) := by omega
      have hbig : K2 + nd.cases[i].2.2 ≤ 1073741824 := by have h1 := HKK.out; have h2 := HWT.out; have h3 := HK'.out; have h4 := hwli.2; omega
      obtain ⟨hnm9, hp9⟩ := hrt (SXo S0 (.slice ca' i cc')) (fun g hg hl => ⟨HTB.out g hg hl, fun e => by obtain ⟨_, xs, cl, r1, _⟩ := hmc.row; have := (r1.lt g e).1; omega⟩)
      obtain ⟨W1, hW1⟩ : ∃ W1, W1 = wr.alloc (.cells #[.int .i64 tg, .slice va9 nd.cases[i].2.1.length vc9, .int .i64 kB, .int .i64 nB, .string xB, .string yB, .slice b0 m0 e0, .slice b1 m1 e1, .slice b2 m2 e2] 58) := ⟨_, rfl⟩
      have f1 : Fr No wr W1.drew := by rw [hW1]; exact ((Fr.refl No wr).alloc _).drew
      have f1' : Fr No wr W1 := by rw [hW1]; exact (Fr.refl No wr).alloc _
      have bc1 : W1.heap[wr.heap.size]? = some (.cells #[.int .i64 tg, .slice va9 nd.cases[i].2.1.length vc9, .int .i64 kB, .int .i64 nB, .string xB, .string yB, .slice b0 m0 e0, .slice b1 m1 e1, .slice b2 m2 e2] 58 (0, 0)) := by rw [hW1]; exact heap_alloc_new wr _
      have hmc1 := hmc.no f1 hnw2 HTN.out
      have hsz1 : w2.heap.size + 1 ≤ wr.heap.size := by omega
      have CTB := hide (CT.out (SXo S0 (.slice ca' i cc')) W1.drew K2 kB nB xB yB b0 m0 e0 b1 m1 e1 b2 m2 e2 nd.cases[i].2.2 (fun g hg => ⟨HT2.out g (by have := f1.size; omega), fun e => by obtain ⟨_, xs, cl, r1, _⟩ := hmc.row; have := (r1.lt g e).2; have := f1.size; omega⟩) (fun h => HTN.out wb h.1 rfl) ((FAT.out.1.trans hmc.fr).trans (f1.mono fun _ _ e => e.elim)) hmc1.nbx (hp9.kept (stays_of_fr f1)) hbig)
      have PUT : Hid (∀ (W : World) (K3 : Nat) kC nC xC yC u0 p0 d0 u1 p1 d1 u2 p2 d2 (k' m' : Nat), Fr (· = wb) W1.drew W → W.heap[wb]? = some (.cells #[.int .i64 ((K3 : Nat) : Int)] 71 (0, 0)) → PT k' (SXo S0 (.slice ca' i cc')) W [.int .i64 kC, .int .i64 nC, .string xC, .string yC, .slice u0 p0 d0, .slice u1 p1 d1, .slice u2 p2 d2] m' → m' + 2 ≤ 4 * nd.cases[i].2.2 → ∃ v' w', (Builtin.append_ #[30, 30] 30 #[.slice ca' i cc', .slice (some ⟨W.heap.size, 0, none⟩) 1 1]).run Tryz.prog (W.alloc (.cells #[.int .i64 tg, .slice va9 nd.cases[i].2.1.length vc9, .int .i64 kC, .int .i64 nC, .string xC, .string yC, .slice u0 p0 d0, .slice u1 p1 d1, .slice u2 p2 d2] 58)) = .ok v' w' ∧ ∃ a' c', v' = .slice a' (i + 1) c' ∧ w'.heap[wr.heap.size]? = some (.cells #[.int .i64 tg, .slice va9 nd.cases[i].2.1.length vc9, .int .i64 kB, .int .i64 nB, .string xB, .string yB, .slice b0 m0 e0, .slice b1 m1 e1, .slice b2 m2 e2] 58 (0, 0)) ∧ w'.heap[w2.heap.size]? = some (.cells #[.int .i64 7, .int .i64 0, .string ⟨#[]⟩, .string ⟨#[]⟩, .slice none 0 0, .slice va2 nd.args.length vc2, .slice ca' i cc'] 32 (0, 0)) ∧ MC wb S0 w2 (.slice va2 nd.args.length vc2) wl (i + 1) a' c' K3 (w'.setCell ⟨w2.heap.size, 6, none⟩ (.slice a' (i + 1) c'))) := fun W K3 kC nC xC yC u0 p0 d0 u1 p1 d1 u2 p2 d2 k' m' hW hb hp hm => by
        have hmc3 := hmc1.call hW hb hnw2 HTN.out
        have hszW : w2.heap.size + 1 ≤ W.heap.size := by have := hW.size; have := f1.size; omega
        obtain ⟨v', w', g1, a', c', g2, g3, g4⟩ := hmc3.put hnw2 (fun g hg => ⟨HTN.out g hg, (HTE.out g hg).2⟩) hszW (vals := [.int .i64 tg, .slice va9 nd.cases[i].2.1.length vc9, .int .i64 kC, .int .i64 nC, .string xC, .string yC, .slice u0 p0 d0, .slice u1 p1 d1, .slice u2 p2 d2]) (c := (tg, nd.cases[i].2.1, m')) (a := 1 + nd.cases[i].2.1.length + nd.cases[i].2.2) (kn := k') rfl one9 ⟨_, _, rfl, (hnm9.kept (stays_of_fr f1)).kept (stays_fr hW (fun g hg _ e => HTN.out g hg.1 e) (fun _ h => h)), rfl, hp⟩ (by show 1 + nd.cases[i].2.1.length + m' ≤ _; omega) hwli.1 (by omega)
        refine ⟨v', w', g1, a', c', g2, ?_, fr_heap hmc3.o g3 (fun e => by have := e.1; omega), g4⟩
        have hb16 : W.heap[wr.heap.size]? = some (.cells #[.int .i64 tg, .slice va9 nd.cases[i].2.1.length vc9, .int .i64 kB, .int .i64 nB, .string xB, .string yB, .slice b0 m0 e0, .slice b1 m1 e1, .slice b2 m2 e2] 58 (0, 0)) := fr_heap (w := W1.drew) bc1 hW (fun e => by have e : wr.heap.size = wb := e; omega)
        exact fr_heap hb16 g3 (fun e => by obtain ⟨_, xs, cl, r1, _⟩ := hmc.row; have := (r1.lt _ e.2.2).2; omega)
      have SCF : Hid (∀ W : World, W.heap[wr.heap.size]? = some (.cells #[.int .i64 tg, .slice va9 nd.cases[i].2.1.length vc9, .int .i64 kB, .int .i64 nB, .string xB, .string yB, .slice b0 m0 e0, .slice b1 m1 e1, .slice b2 m2 e2] 58 (0, 0)) → (W.cell? ⟨wr.heap.size, 0, none⟩ = some (.int .i64 tg) ∧ W.cell? ⟨wr.heap.size, 1, none⟩ = some (.slice va9 nd.cases[i].2.1.length vc9) ∧ W.cell? ⟨wr.heap.size, 2, none⟩ = some (.int .i64 kB) ∧ W.cell? ⟨wr.heap.size, 2 + 1, none⟩ = some (.int .i64 nB) ∧ W.cell? ⟨wr.heap.size, 2 + 2, none⟩ = some (.string xB) ∧ W.cell? ⟨wr.heap.size, 2 + 3, none⟩ = some (.string yB) ∧ W.cell? ⟨wr.heap.size, 2 + 4, none⟩ = some (.slice b0 m0 e0) ∧ W.cell? ⟨wr.heap.size, 2 + 5, none⟩ = some (.slice b1 m1 e1) ∧ W.cell? ⟨wr.heap.size, 2 + 6, none⟩ = some (.slice b2 m2 e2))) := fun W hW => by
        have ck := cell_of_heap hW
        exact ⟨ck 0, ck 1, ck 2, ck 3, ck 4, ck 5, ck 6, ck 7, ck 8⟩
      have BC1 := hide bc1
      have HM1 := hide hmc1
      have HF1 := hide f1'
      have HW1 := hide hW1
      have HCT := hide (And.intro hcnt hwli)
      have KOF : Hid (∀ W, Fr (· = wb) W1.drew W → W.heap[w2.heap.size]? = some (.cells #[.int .i64 7, .int .i64 0, .string ⟨#[]⟩, .string ⟨#[]⟩, .slice none 0 0, .slice va2 nd.args.length vc2, .slice ca' i cc'] 32 (0, 0)) ∧ W.heap[wr.heap.size]? = some (.cells #[.int .i64 tg, .slice va9 nd.cases[i].2.1.length vc9, .int .i64 kB, .int .i64 nB, .string xB, .string yB, .slice b0 m0 e0, .slice b1 m1 e1, .slice b2 m2 e2] 58 (0, 0))) := fun W hW => ⟨fr_heap HM1.out.o hW (fun e => by have e : w2.heap.size = wb := e; omega), fr_heap (w := W1.drew) BC1.out hW (fun e => by have e : wr.heap.size = wb := e; omega)⟩
      obtain ⟨vn9, hvn9⟩ : ∃ vn9, vn9 = nd.cases[i].2.1.length := ⟨_, rfl⟩
      unfold maxLen at hvc9
      clear hmc hmc1 hcell hrt hnm9 hp9 hcnt hwli hbig f1 f1' bc1 hW1 hg0 hg1 CT
      rw [← hvn9] at q1 SCF PUT KOF HW1
      have HVN := hide hvn9
      clear hvn9 k1 z1 l1
      go_wp2_with fail
      rw [← HW1.out]
      clear q0 q1 q2 q3 q4 q5 q6 q7 q8 k0 l0 k2 z2 l2
      have HZ : Hid (W1.drew.cell? ⟨wr.heap.size, 0, none⟩ = some (.int .i64 tg) ∧ W1.drew.cell? ⟨wr.heap.size, 1, none⟩ = some (.slice va9 vn9 vc9) ∧ W1.drew.cell? ⟨wr.heap.size, 2, none⟩ = some (.int .i64 kB) ∧ W1.drew.cell? ⟨wr.heap.size, 2 + 1, none⟩ = some (.int .i64 nB) ∧ W1.drew.cell? ⟨wr.heap.size, 2 + 2, none⟩ = some (.string xB) ∧ W1.drew.cell? ⟨wr.heap.size, 2 + 3, none⟩ = some (.string yB) ∧ W1.drew.cell? ⟨wr.heap.size, 2 + 4, none⟩ = some (.slice b0 m0 e0) ∧ W1.drew.cell? ⟨wr.heap.size, 2 + 5, none⟩ = some (.slice b1 m1 e1) ∧ W1.drew.cell? ⟨wr.heap.size, 2 + 6, none⟩ = some (.slice b2 m2 e2)) := SCF.out _ (KOF.out _ (Fr.refl _ W1.drew)).2
      have hneq : wr.heap.size ≠ w2.heap.size := by omega
      have KC : Hid (∀ (W : World) (u : Value), (W.cell? ⟨wr.heap.size, 0, none⟩ = some (.int .i64 tg) ∧ W.cell? ⟨wr.heap.size, 1, none⟩ = some (.slice va9 vn9 vc9) ∧ W.cell? ⟨wr.heap.size, 2, none⟩ = some (.int .i64 kB) ∧ W.cell? ⟨wr.heap.size, 2 + 1, none⟩ = some (.int .i64 nB) ∧ W.cell? ⟨wr.heap.size, 2 + 2, none⟩ = some (.string xB) ∧ W.cell? ⟨wr.heap.size, 2 + 3, none⟩ = some (.string yB) ∧ W.cell? ⟨wr.heap.size, 2 + 4, none⟩ = some (.slice b0 m0 e0) ∧ W.cell? ⟨wr.heap.size, 2 + 5, none⟩ = some (.slice b1 m1 e1) ∧ W.cell? ⟨wr.heap.size, 2 + 6, none⟩ = some (.slice b2 m2 e2)) → ((W.setCell ⟨w2.heap.size, 6, none⟩ u).cell? ⟨wr.heap.size, 0, none⟩ = some (.int .i64 tg) ∧ (W.setCell ⟨w2.heap.size, 6, none⟩ u).cell? ⟨wr.heap.size, 1, none⟩ = some (.slice va9 vn9 vc9) ∧ (W.setCell ⟨w2.heap.size, 6, none⟩ u).cell? ⟨wr.heap.size, 2, none⟩ = some (.int .i64 kB) ∧ (W.setCell ⟨w2.heap.size, 6, none⟩ u).cell? ⟨wr.heap.size, 2 + 1, none⟩ = some (.int .i64 nB) ∧ (W.setCell ⟨w2.heap.size, 6, none⟩ u).cell? ⟨wr.heap.size, 2 + 2, none⟩ = some (.string xB) ∧ (W.setCell ⟨w2.heap.size, 6, none⟩ u).cell? ⟨wr.heap.size, 2 + 3, none⟩ = some (.string yB) ∧ (W.setCell ⟨w2.heap.size, 6, none⟩ u).cell? ⟨wr.heap.size, 2 + 4, none⟩ = some (.slice b0 m0 e0) ∧ (W.setCell ⟨w2.heap.size, 6, none⟩ u).cell? ⟨wr.heap.size, 2 + 5, none⟩ = some (.slice b1 m1 e1) ∧ (W.setCell ⟨w2.heap.size, 6, none⟩ u).cell? ⟨wr.heap.size, 2 + 6, none⟩ = some (.slice b2 m2 e2))) := fun W u h => ⟨by rw [cell_off hneq]; exact h.1, by rw [cell_off hneq]; exact h.2.1, by rw [cell_off hneq]; exact h.2.2.1, by rw [cell_off hneq]; exact h.2.2.2.1, by rw [cell_off hneq]; exact h.2.2.2.2.1, by rw [cell_off hneq]; exact h.2.2.2.2.2.1, by rw [cell_off hneq]; exact h.2.2.2.2.2.2.1, by rw [cell_off hneq]; exact h.2.2.2.2.2.2.2.1, by rw [cell_off hneq]; exact h.2.2.2.2.2.2.2.2⟩
      have SAL : Hid (∀ (W : World) o', (W.cell? ⟨wr.heap.size, 0, none⟩ = some (.int .i64 tg) ∧ W.cell? ⟨wr.heap.size, 1, none⟩ = some (.slice va9 vn9 vc9) ∧ W.cell? ⟨wr.heap.size, 2, none⟩ = some (.int .i64 kB) ∧ W.cell? ⟨wr.heap.size, 2 + 1, none⟩ = some (.int .i64 nB) ∧ W.cell? ⟨wr.heap.size, 2 + 2, none⟩ = some (.string xB) ∧ W.cell? ⟨wr.heap.size, 2 + 3, none⟩ = some (.string yB) ∧ W.cell? ⟨wr.heap.size, 2 + 4, none⟩ = some (.slice b0 m0 e0) ∧ W.cell? ⟨wr.heap.size, 2 + 5, none⟩ = some (.slice b1 m1 e1) ∧ W.cell? ⟨wr.heap.size, 2 + 6, none⟩ = some (.slice b2 m2 e2)) → ((W.alloc o').cell? ⟨wr.heap.size, 0, none⟩ = some (.int .i64 tg) ∧ (W.alloc o').cell? ⟨wr.heap.size, 1, none⟩ = some (.slice va9 vn9 vc9) ∧ (W.alloc o').cell? ⟨wr.heap.size, 2, none⟩ = some (.int .i64 kB) ∧ (W.alloc o').cell? ⟨wr.heap.size, 2 + 1, none⟩ = some (.int .i64 nB) ∧ (W.alloc o').cell? ⟨wr.heap.size, 2 + 2, none⟩ = some (.string xB) ∧ (W.alloc o').cell? ⟨wr.heap.size, 2 + 3, none⟩ = some (.string yB) ∧ (W.alloc o').cell? ⟨wr.heap.size, 2 + 4, none⟩ = some (.slice b0 m0 e0) ∧ (W.alloc o').cell? ⟨wr.heap.size, 2 + 5, none⟩ = some (.slice b1 m1 e1) ∧ (W.alloc o').cell? ⟨wr.heap.size, 2 + 6, none⟩ = some (.slice b2 m2 e2))) := fun W o' h => ⟨cell_allocA o' h.1, cell_allocA o' h.2.1, cell_allocA o' h.2.2.1, cell_allocA o' h.2.2.2.1, cell_allocA o' h.2.2.2.2.1, cell_allocA o' h.2.2.2.2.2.1, cell_allocA o' h.2.2.2.2.2.2.1, cell_allocA o' h.2.2.2.2.2.2.2.1, cell_allocA o' h.2.2.2.2.2.2.2.2⟩
      have kt2 : ∀ q, W1.cell? ⟨w2.heap.size, q, none⟩ = _ := cell_of_heap (KOF.out _ (Fr.refl _ W1.drew)).1
      have kl2 : w2.heap.size < W1.heap.size := lt_of_heap (KOF.out _ (Fr.refl _ W1.drew)).1
      rw [show Op.load 30 (.tmp 73) = ldO from rfl]
      go_region_held3 (fun w' : World => w'.cell? ⟨wr.heap.size, 0, none⟩ = some (.int .i64 tg) ∧ w'.cell? ⟨wr.heap.size, 1, none⟩ = some (.slice va9 vn9 vc9) ∧ w'.cell? ⟨wr.heap.size, 2, none⟩ = some (.int .i64 kB) ∧ w'.cell? ⟨wr.heap.size, 2 + 1, none⟩ = some (.int .i64 nB) ∧ w'.cell? ⟨wr.heap.size, 2 + 2, none⟩ = some (.string xB) ∧ w'.cell? ⟨wr.heap.size, 2 + 3, none⟩ = some (.string yB) ∧ w'.cell? ⟨wr.heap.size, 2 + 4, none⟩ = some (.slice b0 m0 e0) ∧ w'.cell? ⟨wr.heap.size, 2 + 5, none⟩ = some (.slice b1 m1 e1) ∧ w'.cell? ⟨wr.heap.size, 2 + 6, none⟩ = some (.slice b2 m2 e2)) (first | with_reducible assumption | with_reducible exact HZ.out | with_reducible exact KC.out _ _ (by with_reducible assumption) | with_reducible exact SAL.out _ _ (by first | with_reducible assumption | with_reducible exact HZ.out))
        (first
        | (refine step_app rfl (.tmp 74) (.tmp 84) 30 rfl rfl rfl rfl (PUT.out _ _ kC nC xC yC u0 p0 d0 u1 p1 d1 u2 p2 d2 _ _ F3.out P3.out.1 P3.out.2.1 P3.out.2.2.1) ?_; rintro v6 w6 ⟨a6, c6, rfl, p1', p2', p3'⟩; have hz6 := SCF.out w6 p1'; have N6 := hide p3'; have kk6 := cell_of_heap p2'; have kz6 := frozen_of_heap p2'; have kl6 := lt_of_heap p2'; clear p1' p2' p3')
        | (go_at_call 36; refine CTB.out.mono ?_; rintro e w3 ⟨kC, nC, xC, yC, u0, p0, d0, u1, p1, d1, u2, p2, d2, rfl, hf3, ⟨K3, hb3, hK3⟩, k9, m9, hp3, hm3⟩; have hz3 := SCF.out w3 (KOF.out w3 hf3).2; have F3 := hide hf3; have P3 := hide (And.intro hb3 (And.intro hp3 (And.intro hm3 hK3))); have kk3 := cell_of_heap (KOF.out w3 hf3).1; have kl3 := lt_of_heap (KOF.out w3 hf3).1; clear hf3 hp3 hm3 hb3 hK3))
      all_goals
        go_wp2_with fail
        go_roundw
        case rel => exact ⟨i + 1, a6, c6, K3, by omega, by go_num, by have h1 := P3.out.2.2.2; have h2 := HCT.out.1; have h3' := HCT.out.2.1; rw [h3']; omega, N6.out⟩
        case measure => simp [intOf]; omega
    · have hil : i = nd.cases.length := by omega
      have st2 : Stays S' S' w2 wr := stays_fr hmc.fr (fun g hg _ e => HSN.out (by have e : g = wb := e; rw [← e]; exact (HSE.out g hg).1)) (fun _ h => h)
      obtain ⟨k', m, _, hp, hm⟩ := hmc.fin (k := k + 1) (S := S') (ws := ws) (xs := xs) (fun g hg => (HTE.out g hg).1) (fun g hg => HS2.out g (by omega)) (by rw [EE.out.1]; exact RR.out.2.2.1.kept st2) (RR.out.2.2.2.mono fun c a h => h.kept st2)
      have hszr : w2.heap.size ≤ wr.heap.size := hmc.fr.size
      have CAR : Hid (Calls Tryz.prog 66 #[.slice ba bs.length bc, .agg #[.int .i64 7, .int .i64 0, .string ⟨#[]⟩, .string ⟨#[]⟩, .slice none 0 0, .slice va2 nd.args.length vc2, .slice ca' i cc']] wr fun e w' => ∃ kC nC xC yC u0 p0 d0 u1 p1 d1 u2 p2 d2, e = .returned (.agg #[.int .i64 kC, .int .i64 nC, .string xC, .string yC, .slice u0 p0 d0, .slice u1 p1 d1, .slice u2 p2 d2]) ∧ Fr No wr w' ∧ ∃ k' m', PT k' S' w' [.int .i64 kC, .int .i64 nC, .string xC, .string yC, .slice u0 p0 d0, .slice u1 p1 d1, .slice u2 p2 d2] m' ∧ m' ≤ 1 + 4 * nd.args.sum + 4 * wl.sum) := by
        refine (around_any kb (kb + k') _ (Nat.le_add_right _ _) S' wr _ xb _ bs (fun g hg => HS2.out g (by omega)) (RR.out.1.kept st2) (RR.out.2.1.mono fun c a h => h.mono fun _ _ h => h.kept st2) (hp.upTo (Nat.le_add_left _ _)) (by have := EE.out.2.1; omega)).mono fun e w' ⟨cs', he, hf, hpp⟩ => ?_
        obtain ⟨kC, nC, xC, yC, u0, p0, d0, u1, p1, d1, u2, p2, d2, rfl⟩ := hpp.form
        refine ⟨kC, nC, xC, yC, u0, p0, d0, u1, p1, d1, u2, p2, d2, he, hf, _, _, hpp, ?_⟩
        have h1 := EE.out.2.2
        rw [List.take_of_length_le (by rw [HWC.out, hil]; exact Nat.le_refl _)] at hm
        omega
      have HC := hide hcnt
      have FF := hide (And.intro (FAT.out.1.trans hmc.fr) hmc.nbx)
      clear hmc hcnt hp hm st2 hg0 hg1 M0 HCASE CT
      subst hil
      go_wp2_with fail
      refine CAR.out.mono ?_
      rintro e w3 ⟨kC, nC, xC, yC, u0, p0, d0, u1, p1, d1, u2, p2, d2, rfl, hf3, k9, m9, hp3, hm3⟩
      have g3 := fr_heap HG1.out hf3 (fun e => e)
      have kg3 := cell_of_heap g3
      have zg3 := frozen_of_heap g3
      have lg3 := lt_of_heap g3
      have G3 := hide g3
      have F3 := hide hf3
      have P3 := hide (And.intro hp3 hm3)
      clear hp3 hm3 hf3 g3 k1 z1 k2 z2 CAR
      go_wp2_with fail
      obtain ⟨t1, t2⟩ := set7 G3.out (.int .i64 kC) (.int .i64 nC) (.string xC) (.string yC) (.slice u0 p0 d0) (.slice u1 p1 d1) (.slice u2 p2 d2)
      have hnb3 := fr_heap FF.out.2 F3.out (fun e => e)
      refine bodyPost_ret (retT rfl _ _ (w.heap.size + 1) _ _ _ _ _ _ _ (0, 0) rfl t1) rfl ⟨_, rfl, ?_, ⟨K2, fr_heap hnb3 t2 (fun e => by have e : wb = w.heap.size + 1 := e; omega), ?_⟩, k9, m9, ?_, ?_⟩
      · exact (FF.out.1.trans (F3.out.mono fun _ _ e => e.elim)).trans' t2 (fun q hq e => by have e : q = w.heap.size + 1 := e; omega)
      · have h1 := HC.out; have h2 := HK'.out; have h3 := HWT.out; rw [List.take_of_length_le (by rw [HWC.out]; exact Nat.le_refl _)] at h1; omega
      · exact P3.out.1.kept (stays_fr t2 (fun g hg _ e => (HSE.out g hg).2 e) (fun g hg => (HSE.out g hg).1))
      · have := P3.out.2; have := HWT.out; omega
end Go.Proofs.YtomahbdidlglfacGreatDoor

/- The document's Plain terms, at all terms of a program's kinds. -/
namespace Go.Proofs.YtomahbdidlglfacGreatDoor
open Go.RowKit Go.Maps Go.WideMaps

theorem wterm_all : ∀ k, WTerm k
  | 0 => fun _ _ _ _ _ _ _ _ _ _ _ h _ => h.elim
  | k + 1 => fun wb K S w cs m hS hSn hn h3 henv hp hK => by
    have hp0 := hp
    obtain ⟨nd, ⟨hk1, hk2⟩, rfl, hr⟩ := hp
    by_cases h12 : nd.kind = 1 ∨ nd.kind = 2
    · obtain ⟨vv, av, cv, acs, ccs, rfl, hnm, hwf, h4, h5, h6, h7, h8⟩ := hr
      obtain ⟨va, vc, rfl, _, _⟩ := h4.1.form
      obtain ⟨aa, ac, rfl, _, _⟩ := h5.form
      obtain ⟨ca, cc, rfl, _, _⟩ := h7.form
      refine (wterm_leaf (k + 1) wb K S w nd.kind nd.n nd.name nd.token va nd.vars.length vc aa nd.args.length ac ca nd.cases.length cc (wtN nd) hS hp0 h12).mono fun e w' ⟨cs', he, hf, hq⟩ => ?_
      have hpos := hp0.pos
      exact ⟨cs', he, hf.mono (fun _ _ h => h.elim), ⟨K, fr_heap hn hf (fun h => h), by omega⟩, k + 1, _, hq, by omega⟩
    · by_cases h6 : nd.kind = 6
      · exact wterm_let k (wterm_all k) wb K S w cs nd hS hSn hn h3 henv hr h6 (hk2 h6) hK
      · by_cases h7 : nd.kind = 7
        · exact wterm_match k (wterm_all k) wb K S w cs nd hS hSn hn h3 henv hr h7 hK
        · exact wterm_con k (wterm_all k) wb K S w cs nd hS hSn hn h3 henv hr (by omega) hK
end Go.Proofs.YtomahbdidlglfacGreatDoor
