/- The closed text of chapter 6's statements: read. -/
import Derived.Test.YtdcdegeeaakekacDoorGp4Gp5Gp6
import Derived.Test.YtdcdegeeaakekacDoorGp3
import Derived.Test.YtdcdegeeaakekacDoorOx3Ox4
import Derived.Test.YtdcdegeeaakekacDoorSh1
namespace Go.Proofs.YtdcdegeeaakekacDoor
open Go.RowKit Go.Maps Go.WideMaps

def conS : ByteArray := ⟨#[40, 102, 110, 32, 102, 32, 40, 120, 32, 121, 41, 32, 40, 35, 49, 32, 120, 32, 120, 41, 41]⟩
theorem con_size : conS.size = 21 := rfl
abbrev sx : ByteArray := ⟨#[120]⟩
abbrev sy : ByteArray := ⟨#[121]⟩
def conT : Pu.TT 2 := ncon 1 1 [lname 0 sx, lname 0 sx]
def conN : Pu.Node (Pu.TT 1) := ⟨3, 1, ⟨#[]⟩, ⟨#[]⟩, [], [lname 0 sx, lname 0 sx], []⟩
def conF : Pu.Fn 2 := (⟨#[102]⟩, [sx, sy], conT)

theorem itoa1 : Lib.itoa 1 = [49] := by simp [Lib.itoa, Lib.decDigits]
theorem number_1 : number ⟨#[49]⟩ = (1, true) := by
  have e : Lib.atoiAll (⟨#[49]⟩ : ByteArray).data.toList = .ok 1 := rfl
  unfold number; rw [e]; dsimp only; rw [itoa1, ByteArray.toList_eq]; rfl

theorem con_args (pb : Nat) : RdA 1 pb conS 0 15 [lname 0 sx, lname 0 sx] 20 :=
  ⟨16, 17, 17, by decide +kernel, by decide +kernel,
    rd_name 0 pb conS sx 16 16 17 1 (by rw [con_size]; decide) (by decide +kernel) (by decide) (by rw [con_size]; decide) (by decide +kernel) (by decide +kernel) number_x (by decide +kernel) (by decide),
    18, 19, 19, by decide +kernel, by decide +kernel,
    rd_name 0 pb conS sx 18 18 19 1 (by rw [con_size]; decide) (by decide +kernel) (by decide) (by rw [con_size]; decide) (by decide +kernel) (by decide +kernel) number_x (by decide +kernel) (by decide),
    19, by decide +kernel, by decide +kernel, by rw [con_size]; decide, rfl⟩
theorem con_term (pb : Nat) : RdT 2 pb conS 11 20 0 conT :=
  rd_con 1 pb conS ⟨#[35, 49]⟩ ⟨#[49]⟩ 1 11 12 13 15 20 0 [lname 0 sx, lname 0 sx] (by rw [con_size]; decide) (by decide +kernel) (by decide +kernel) (by decide +kernel) (by decide) (by decide +kernel) (by rw [con_size]; decide)
    (by decide) (by decide) (by decide +kernel) (by decide +kernel) number_1 (by decide) (by decide +kernel) (by decide +kernel) (by decide +kernel) (by decide +kernel) (by decide +kernel) (con_args pb) (by decide) (by decide)
theorem con_one : OneN conS ⟨#[102]⟩ [sx, sy] 2 0 1 4 6 11 20 20 conT where
  size := by rw [con_size]; decide
  p0 := by decide +kernel
  x0 := by decide +kernel
  p1 := by decide +kernel
  x1 := by decide +kernel
  p2 := by decide +kernel
  x2 := by decide +kernel
  n2 := by decide +kernel
  m2 := by decide
  p3 := by decide +kernel
  x3 := by decide +kernel
  ps := ⟨7, by decide +kernel, by decide +kernel, by decide +kernel, by decide, by decide +kernel, by rw [con_size]; decide, 9, by decide +kernel, by decide +kernel, by decide +kernel, by decide, by decide +kernel, by rw [con_size]; decide, 10, by decide +kernel, by decide +kernel, by rw [con_size]; decide, rfl⟩
  pl := by decide
  sh := fun x hx => by
    simp only [List.mem_cons, List.not_mem_nil, or_false] at hx
    rcases hx with rfl | rfl <;> (unfold maxLen; decide)
  t6 := con_term
  p7 := by decide +kernel
  x7 := by decide +kernel
  p8 := by decide +kernel
  x8 := by decide +kernel

theorem con_gone : gone 2 conT [sx, sy] = [sy] := by decide +kernel
theorem con_rep : rep (namesOf 1 conN.args) = [sx] := by decide +kernel
theorem con_step : StepC 2 conT (wrap 8 sx ⟨2, conT⟩) := by
  have h := step_con 1 conT (.inl rfl) (by decide)
  have e : cnt 8 (rep (namesOf 1 (show Pu.Node (Pu.TT 1) from conT).args)) ⟨2, conT⟩ = wrap 8 sx ⟨2, conT⟩ := by
    rw [show (show Pu.Node (Pu.TT 1) from conT).args = conN.args from rfl, con_rep]; rfl
  rw [e] at h
  exact h
/-- The body that counts. -/
abbrev conO : Tm := wrap 9 sy (wrap 8 sx ⟨2, conT⟩)
theorem con_owned : cnt 9 (gone 2 conT [sx, sy]) (wrap 8 sx ⟨2, conT⟩) = conO := by rw [con_gone]; rfl
theorem con_wt : wf conF ≤ 1073741824 := by decide +kernel
theorem conO_wt : Pu.wt conO.1 conO.2 ≤ 1073741824 := by decide +kernel
theorem conO_spine : conO = spine [(9, sy), (8, sx)] ⟨2, conT⟩ := rfl

theorem leaf_same (x : ByteArray) : ErSame 1 (lname 0 x) := fun S w cs h hS =>
  (er_flat 0 (⟨1, 0, x, ⟨#[]⟩, [], [], []⟩ : Pu.Node (Pu.TT 0)) (.inl rfl) rfl (fun i h => absurd h (by simp)) (by simp) [] (fun p hp => by simp at hp) S w cs h hS).mono fun e w' ⟨cs', he, hf, _, hc⟩ => by
    rw [hc rfl] at he; exact ⟨he, hf⟩

theorem sh_leaf (x : ByteArray) (hx : x.size ≤ 1000000) : ShC 1 (lname 0 x) x := by
  have h := show_node 0 (⟨1, 0, x, ⟨#[]⟩, [], [], []⟩ : Pu.Node (Pu.TT 0)) [] rfl hx (.inl rfl) rfl (fun i h => absurd h (by simp)) (fun i hi => by
    have : i = 0 := by simpa using hi
    subst this; decide) (fun x hx => by simp at hx)
  exact h

def con1 : ByteArray := ⟨#[40, 35, 49, 32, 120, 32, 120, 41]⟩
def con2 : ByteArray := ⟨#[40, 100, 117, 112, 32, 120, 32, 40, 35, 49, 32, 120, 32, 120, 41, 41]⟩
def con3 : ByteArray := ⟨#[40, 100, 114, 111, 112, 32, 121, 32, 40, 100, 117, 112, 32, 120, 32, 40, 35, 49, 32, 120, 32, 120, 41, 41, 41]⟩
theorem asTo_small (ss : List ByteArray) (n : Nat) (h : ∀ i, i < ss.length + 1 → (asTo ss i).size ≤ n) : ∀ i, i ≤ ss.length → (asTo ss i).size ≤ n := fun i hi => h i (by omega)
theorem sh_con : ShC 2 conT con1 := by
  have h := show_node 1 conN [sx, sx] rfl (by decide) (.inr (.inr (.inl rfl))) rfl (fun i h => by
    have hi : i = 0 ∨ i = 1 := by have : i < 2 := h; omega
    rcases hi with rfl | rfl <;> exact sh_leaf sx (by decide)) (asTo_small _ _ (by decide +kernel)) (fun x hx => by
    simp only [List.mem_cons, List.not_mem_nil, or_false, or_self] at hx
    subst hx; decide)
  have e : shown conN.kind conN.n conN.name (asAll [sx, sx]) = con1 := by
    show shown 3 1 ⟨#[]⟩ (asAll [sx, sx]) = con1
    unfold shown
    rw [if_neg (by decide), if_neg (by decide), if_pos rfl, itoa1]
    decide +kernel
  rw [e] at h
  exact h
theorem sh_dup : ShC 3 (wrap 8 sx ⟨2, conT⟩).2 con2 := by
  have h := show_node 2 (⟨8, 0, sx, ⟨#[]⟩, [], [conT], []⟩ : Pu.Node (Pu.TT 2)) [con1] rfl (by decide) (.inr (.inr (.inr (.inr (.inr (.inl rfl)))))) rfl (fun i h => by
    have hi : i = 0 := by have : i < 1 := h; omega
    subst hi; exact sh_con) (asTo_small _ _ (by decide +kernel)) (fun x hx => by
    simp only [List.mem_cons, List.not_mem_nil, or_false] at hx
    subst hx; decide)
  have e : shown 8 0 sx (asAll [con1]) = con2 := by decide +kernel
  have h' : ShC 3 (wrap 8 sx ⟨2, conT⟩).2 (shown 8 0 sx (asAll [con1])) := h
  rw [e] at h'
  exact h'
theorem sh_drop : ShC 4 conO.2 con3 := by
  have h := show_node 3 (⟨9, 0, sy, ⟨#[]⟩, [], [(wrap 8 sx ⟨2, conT⟩).2], []⟩ : Pu.Node (Pu.TT 3)) [con2] rfl (by decide) (.inr (.inr (.inr (.inr (.inr (.inr rfl)))))) rfl (fun i h => by
    have hi : i = 0 := by have : i < 1 := h; omega
    subst hi; exact sh_dup) (asTo_small _ _ (by decide +kernel)) (fun x hx => by
    simp only [List.mem_cons, List.not_mem_nil, or_false] at hx
    subst hx; decide)
  have e : shown 9 0 sy (asAll [con2]) = con3 := by decide +kernel
  have h' : ShC 4 conO.2 (shown 9 0 sy (asAll [con2])) := h
  rw [e] at h'
  exact h'
end Go.Proofs.YtdcdegeeaakekacDoor

/- What chapter 6's statements ask first, walked. -/
namespace Go.Proofs.YtdcdegeeaakekacDoor
open Go.RowKit Go.Maps Go.WideMaps

/-- A function in a row of one, in a set of blocks: as Fns; its cells. -/
theorem row_one {S : Nat → Prop} {K : Nat} {w : World} {v : Value} {cs : List Value} {f : Pu.Fn K} (hr : RowS S w v 1 cs) (hc : cs.length = 9) (h : RFS K S w cs f) :
    ∃ g o cap pa pc kd n x y a0 n0 c0 a1 n1 c1 a2 n2 c2, v = .slice (some ⟨g, o, none⟩) 1 cap ∧ OneAt K S w g o cap pa pc kd n x y a0 n0 c0 a1 n1 c1 a2 n2 c2 f ∧ f.1.size ≤ maxLen := by
  obtain ⟨a, cap, rfl, _, hcap, hrow⟩ := hr
  obtain ⟨g, o, rfl, hS, hg, _, hcell⟩ := hrow (by decide)
  obtain ⟨pv, b, rfl, h1, h2, h3, h4⟩ := h
  obtain ⟨pa, pc, rfl, _⟩ := rowS_form h2.1
  obtain ⟨kd, n, x, y, a0, n0, c0, a1, n1, c1, a2, n2, c2, rfl⟩ := h4.form
  exact ⟨g, o, cap, pa, pc, kd, n, x, y, a0, n0, c0, a1, n1, c1, a2, n2, c2, rfl, ⟨hcap, hg, hS, h2, h4, fun j hj => hcell j (by simpa using hj)⟩, h1⟩

theorem OneAt.rf {K : Nat} {S : Nat → Prop} {w : World} {g o cap : Nat} {pa : Option Addr} {pc : Nat} {kd n : Int} {x y : ByteArray} {a0 : Option Addr} {n0 c0 : Nat} {a1 : Option Addr} {n1 c1 : Nat} {a2 : Option Addr} {n2 c2 : Nat} {f : Pu.Fn K} (h : OneAt K S w g o cap pa pc kd n x y a0 n0 c0 a1 n1 c1 a2 n2 c2 f) (hf : f.1.size ≤ maxLen) (hS : ∀ g, S g → g < w.heap.size) :
    RF K w.heap.size w [.string f.1, .slice pa f.2.1.length pc, .int .i64 kd, .int .i64 n, .string x, .string y, .slice a0 n0 c0, .slice a1 n1 c1, .slice a2 n2 c2] f :=
  ⟨_, _, rfl, hf, ⟨h.names.1.row hS, h.names.2⟩, rfl, RTS.rt hS h.term⟩
theorem OneAt.fns {K : Nat} {S : Nat → Prop} {w : World} {g o cap : Nat} {pa : Option Addr} {pc : Nat} {kd n : Int} {x y : ByteArray} {a0 : Option Addr} {n0 c0 : Nat} {a1 : Option Addr} {n1 c1 : Nat} {a2 : Option Addr} {n2 c2 : Nat} {f : Pu.Fn K} (h : OneAt K S w g o cap pa pc kd n x y a0 n0 c0 a1 n1 c1 a2 n2 c2 f) (hf : f.1.size ≤ maxLen) (hS : ∀ g, S g → g < w.heap.size) (h1 : 1 ≤ cap) :
    Fns K w.heap.size w (.slice (some ⟨g, o, none⟩) 1 cap) [f] :=
  ⟨_, ⟨_, cap, rfl, h1, h.cap, fun _ => ⟨g, o, rfl, h.lt, h.lt, fun i hi => h.cells i (by simpa using hi)⟩⟩, _, [], by simp, rfl, h.rf hf hS, rfl⟩

/-- What 'alive' asks of the world. -/
def AliveC6 : Prop := ∀ w : World, Env w → 3 ≤ w.heap.size → Calls Tryd.prog 24 #[] w fun e w' => e = .returned (.bool true) ∧ Fr No w w'

set_option maxRecDepth 100000 in
set_option maxHeartbeats 4000000 in
theorem alive6_any : AliveC6 := by
  intro w henv h3
  have CP := hide (parse_fn con_one w henv h3)
  rw [show conS = ⟨#[40, 102, 110, 32, 102, 32, 40, 120, 32, 121, 41, 32, 40, 35, 49, 32, 120, 32, 120, 41, 41]⟩ from rfl] at CP
  have HENV := hide henv
  clear henv
  go_enter Tryd.func24, Tryd.ntmps24
  go_wp2_with fail
  refine CP.out.mono ?_
  rintro e w1 ⟨v, cs, rfl, hf1, hr, hc, hrf⟩
  have hcap0 := hr.form
  obtain ⟨g, o, cap, pa, pc, kd, n, x, y, a0, n0, c0, a1, n1, c1, a2, n2, c2, rfl, h1, hn1⟩ := row_one hr hc hrf
  have hcap1 : 1 ≤ cap := by
    obtain ⟨_, _, hv, hle, _⟩ := hcap0
    injection hv with _ _ hv2
    omega
  have HN : ∀ g, New w w1 g → g < w1.heap.size := fun g h => h.2
  have CFN : Hid (∀ W, Fr No w1 W → Calls Tryd.prog 21 #[.agg #[.string ⟨#[102]⟩, .slice pa 2 pc, .int .i64 kd, .int .i64 n, .string x, .string y, .slice a0 n0 c0, .slice a1 n1 c1, .slice a2 n2 c2]] W fun e w' => ∃ pa' pc' kd' n' x' y' a0' n0' c0' a1' n1' c1' a2' n2' c2', e = .returned (.agg #[.string ⟨#[102]⟩, .slice pa' 2 pc', .int .i64 kd', .int .i64 n', .string x', .string y', .slice a0' n0' c0', .slice a1' n1' c1', .slice a2' n2' c2']) ∧ Fr No W w' ∧ RT 4 w'.heap.size w' [.int .i64 kd', .int .i64 n', .string x', .string y', .slice a0' n0' c0', .slice a1' n1' c1', .slice a2' n2' c2'] conO.2) := fun W hW =>
    (ownFn_any' 2 conF _ con_step w1.heap.size W _ ((h1.rf hn1 HN).kept (hW.old (Nat.le_refl _) (fun _ _ e => e)) (Nat.le_refl _) hW.size) hW.size con_wt).mono fun e w' ⟨pa', pc', kd', n', x', y', a0', n0', c0', a1', n1', c1', a2', n2', c2', he, hf, _, hr⟩ => by
      have hr' : RS (New W w') w' [.int .i64 kd', .int .i64 n', .string x', .string y', .slice a0' n0' c0', .slice a1' n1' c1', .slice a2' n2' c2'] conO := by
        have := hr
        rw [show gone 2 conF.2.2 conF.2.1 = [sy] from con_gone] at this
        exact this
      exact ⟨pa', pc', kd', n', x', y', a0', n0', c0', a1', n1', c1', a2', n2', c2', he, hf, RTS.rt (fun g h => h.2) hr'⟩
  have CAL : Hid (∀ W, Fr No w1 W → Calls Tryd.prog 16 #[.slice (some ⟨g, o, none⟩) 1 cap] W fun e w' => ∃ a c, e = .returned (.slice a 1 c) ∧ Fr No W w') := fun W hW =>
    ownAll_one 2 conF _ con_step w1.heap.size _ W ((h1.fns hn1 HN hcap1).old (hW.old (Nat.le_refl _) (fun _ _ e => e)) hW.size) hW.size con_wt
  have CTM : Hid (∀ W, Fr No w1 W → W.heap.size ≤ W.heap.size → ∀ ov, Names W.heap.size W ov [sx, sy] → Calls Tryd.prog 22 #[.agg #[.int .i64 kd, .int .i64 n, .string x, .string y, .slice a0 n0 c0, .slice a1 n1 c1, .slice a2 n2 c2], ov] W fun e w' => ∃ u1 u2 u3 u4 u5 u6, e = .returned (.agg #[.int .i64 9, u1, u2, u3, u4, u5, u6]) ∧ Fr No W w') := fun W hW _ ov hov =>
    (ownTerm_any 2 conT _ con_step w1.heap.size W _ ov [sx, sy] ((RTS.rt HN h1.term).old (hW.old (Nat.le_refl _) (fun _ _ e => e)) hW.size) hW.size hov (by decide +kernel) (by decide)).mono fun e w' ⟨cs', he, hf, hr⟩ => by
      rw [con_gone] at hr
      have hr' : RS (New W w') w' cs' (wrap 9 sy (wrap 8 sx ⟨2, conT⟩)) := hr
      obtain ⟨_, _, _, _, _, _, _, _, _, _, _, _, _, _, _, _, _, _, _, _, rfl, _⟩ := RS.wrap_inv hr'
      exact ⟨_, _, _, _, _, _, he, hf⟩
  have q : ∀ j, j < 9 → w1.cell? ⟨g, o + j, none⟩ = [Value.string ⟨#[102]⟩, .slice pa 2 pc, .int .i64 kd, .int .i64 n, .string x, .string y, .slice a0 n0 c0, .slice a1 n1 c1, .slice a2 n2 c2][j]? := h1.cells
  have hgl := h1.lt
  have hcp := h1.cap
  unfold maxLen at hcp
  have Q := hide q
  have F1 := hide hf1
  have q0 : w1.cell? ⟨g, o, none⟩ = some (.string ⟨#[102]⟩) := q 0 (by omega)
  have q1 := q 1 (by omega)
  have q2 := q 2 (by omega)
  have q3 := q 3 (by omega)
  have q4 := q 4 (by omega)
  have q5 := q 5 (by omega)
  have q6 := q 6 (by omega)
  have q7 := q 7 (by omega)
  have q8 := q 8 (by omega)
  clear CP hf1 hr hc hrf h1 hn1 hcap0 HN q
  go_wp2_with fail
  refine (CFN.out _ (Fr.refl No w1)).mono ?_
  rintro e w2 ⟨pa', pc', kd', n', x', y', a0', n0', c0', a1', n1', c1', a2', n2', c2', rfl, hf2, hrt⟩
  have F2 := hide hf2
  have HRT := hide hrt
  clear hf2 hrt CFN q0 q1 q2 q3 q4 q5 q6 q7 q8
  go_wp2_with fail
  obtain ⟨W3, hW3⟩ : ∃ W3, W3 = w2.alloc (.cells #[.string ⟨#[102]⟩, .slice pa' 2 pc', .int .i64 kd', .int .i64 n', .string x', .string y', .slice a0' n0' c0', .slice a1' n1' c1', .slice a2' n2' c2'] 33) := ⟨_, rfl⟩
  rw [← hW3]
  have f23 : Fr No w2 W3 := by rw [hW3]; exact (Fr.refl No w2).alloc _
  have o3 : W3.heap[w2.heap.size]? = some (.cells #[.string ⟨#[102]⟩, .slice pa' 2 pc', .int .i64 kd', .int .i64 n', .string x', .string y', .slice a0' n0' c0', .slice a1' n1' c1', .slice a2' n2' c2'] 33 (0, 0)) := by rw [hW3]; exact heap_alloc_new w2 _
  have hs3 : W3.heap.size = w2.heap.size + 1 := by rw [hW3]; simp
  clear hW3
  have hfw3 : Fr No w W3 := (F1.out.trans F2.out).trans f23
  have hE3 : Env W3 := HENV.out.fr hfw3 h3 (fun _ _ e => e)
  have hsz3 : 3 ≤ W3.heap.size := Nat.le_trans h3 hfw3.size
  have hRT3 : RT 4 w2.heap.size W3 [.int .i64 kd', .int .i64 n', .string x', .string y', .slice a0' n0' c0', .slice a1' n1' c1', .slice a2' n2' c2'] conO.2 := HRT.out.old (f23.old (Nat.le_refl _) (fun _ _ e => e)) f23.size
  have CS : Hid (Calls Tryd.prog 45 #[.agg #[.int .i64 kd', .int .i64 n', .string x', .string y', .slice a0' n0' c0', .slice a1' n1' c1', .slice a2' n2' c2']] W3 fun e w' => e = .returned (.string ⟨#[40, 100, 114, 111, 112, 32, 121, 32, 40, 100, 117, 112, 32, 120, 32, 40, 35, 49, 32, 120, 32, 120, 41, 41, 41]⟩) ∧ Fr No W3 w') := sh_drop w2.heap.size W3 _ hRT3 (by omega) hE3 hsz3
  have CE : Hid (∀ W, Fr No W3 W → Calls Tryd.prog 19 #[.agg #[.int .i64 kd', .int .i64 n', .string x', .string y', .slice a0' n0' c0', .slice a1' n1' c1', .slice a2' n2' c2']] W fun e w' => ∃ d0 d1 d2 d3 d4 d5 d6, e = .returned (.agg #[d0, d1, d2, d3, d4, d5, d6]) ∧ Fr No W w' ∧ RT 2 w'.heap.size w' [d0, d1, d2, d3, d4, d5, d6] conT) := fun W hW =>
    (ownErase_any 1 conN (.inr rfl) rfl (fun i h => by
      have hi : i = 0 ∨ i = 1 := by have : i < 2 := h; omega
      rcases hi with rfl | rfl <;> exact leaf_same sx) (by decide) [(9, sy), (8, sx)] (fun p hp => by
      simp only [List.mem_cons, List.not_mem_nil, or_false] at hp
      rcases hp with rfl | rfl
      · exact .inr rfl
      · exact .inl rfl) w2.heap.size W _ (hRT3.old (hW.old (by omega) (fun _ _ e => e)) hW.size) (by have := hW.size; omega) conO_wt).mono fun e w' ⟨cs', he, hf, hr⟩ => by
      obtain ⟨_, _, _, _, _, _, _, _, _, _, _, _, _, rfl⟩ := hr.form
      exact ⟨_, _, _, _, _, _, _, he, hf, RTS.rt (fun g h => h.2) hr⟩
  have HF3 := hide hfw3
  have O3 := hide o3
  have F3 := hide f23
  clear hRT3 hfw3 o3 f23 hE3
  refine CS.out.mono ?_
  rintro e w4 ⟨rfl, hf4⟩
  have k4 := cell_of_heap (fr_heap O3.out hf4 (fun e => e))
  have l4 := lt_of_heap (fr_heap O3.out hf4 (fun e => e))
  have F4 := hide hf4
  clear hf4 CS
  go_wp2_with fail
  refine (CE.out _ F4.out).mono ?_
  rintro e w5 ⟨d0, d1, d2, d3, d4, d5, d6, rfl, hf5, hrt5⟩
  have F35 := hide (F4.out.trans hf5)
  have CS2 : Hid (Calls Tryd.prog 45 #[.agg #[d0, d1, d2, d3, d4, d5, d6]] w5 fun e w' => e = .returned (.string ⟨#[40, 35, 49, 32, 120, 32, 120, 41]⟩) ∧ Fr No w5 w') := sh_con w5.heap.size w5 _ hrt5 (Nat.le_refl _) (HENV.out.fr (HF3.out.trans F35.out) h3 (fun _ _ e => e)) (by have := F35.out.size; omega)
  clear hf5 hrt5 CE k4 l4
  go_wp2_with fail
  refine CS2.out.mono ?_
  rintro e w6 ⟨rfl, hf6⟩
  have F16 := hide (((F2.out.trans F3.out).trans F35.out).trans hf6)
  clear hf6 CS2
  go_wp2_with fail
  refine (CAL.out _ F16.out).mono ?_
  rintro e w7 ⟨a7, c7, rfl, hf7⟩
  have F17 := hide (F16.out.trans hf7)
  have q : ∀ j, j < 9 → w7.cell? ⟨g, o + j, none⟩ = [Value.string ⟨#[102]⟩, .slice pa 2 pc, .int .i64 kd, .int .i64 n, .string x, .string y, .slice a0 n0 c0, .slice a1 n1 c1, .slice a2 n2 c2][j]? := fun j hj => by
    rw [show w7.cell? ⟨g, o + j, none⟩ = w1.cell? ⟨g, o + j, none⟩ from by simp only [World.cell?, F17.out.block g hgl (fun e => e)]]; exact Q.out j hj
  have q2 := q 2 (by omega)
  have q3 := q 3 (by omega)
  have q4 := q 4 (by omega)
  have q5 := q 5 (by omega)
  have q6 := q 6 (by omega)
  have q7 := q 7 (by omega)
  have q8 := q 8 (by omega)
  have hgl7 : g < w7.heap.size := Nat.lt_of_lt_of_le hgl F17.out.size
  clear hf7 CAL q
  have hfl : ∀ (u1 u2 u3 u4 u5 u6 : Value) (W : World), (Instr.field 31 (.agg #[.int .i64 9, u1, u2, u3, u4, u5, u6]) 0).run Tryd.prog W = .ok (.int .i64 9) W := fun _ _ _ _ _ _ _ => by kernel_rfl
  go_wp2_with fail
  have hnm : Names (w7.alloc (.cells #[.string sx, .string sy] 9)).heap.size (w7.alloc (.cells #[.string sx, .string sy] 9)) (.slice (some ⟨w7.heap.size, 0, none⟩) 2 2) [sx, sy] :=
    ⟨⟨_, 2, rfl, Nat.le_refl _, by unfold maxLen; decide, fun _ => ⟨w7.heap.size, 0, rfl, by rw [World.size_alloc]; exact Nat.lt_succ_self _, by rw [World.size_alloc]; exact Nat.lt_succ_self _, fun i hi => by
      rw [Nat.zero_add, cell_of_heap (heap_alloc_new w7 _) i]
      simp⟩⟩, fun y hy => by
      simp only [List.mem_cons, List.not_mem_nil, or_false] at hy
      rcases hy with rfl | rfl <;> (unfold maxLen; decide)⟩
  refine (CTM.out _ (F17.out.alloc _) (Nat.le_refl _) _ hnm).mono ?_
  rintro e w8 ⟨u1, u2, u3, u4, u5, u6, rfl, hf8⟩
  have F18 := hide ((F1.out.trans (F17.out.alloc _)).trans hf8)
  clear hf8 hnm CTM
  go_wp2_with fail
  go_ret
  exact ⟨rfl, F18.out⟩
end Go.Proofs.YtdcdegeeaakekacDoor
