/- The closed text of chapter 6's statements: read. -/
import Derived.Test.YtomahbdidlglfacGreatDoorG2G3Gp4Gp5Gp6FaG4Gp1
import Derived.Test.YtomahbdidlglfacGreatDoorGp2Gp3Ox4Sh1
import Derived.Deep.Strs
import Derived.Test.YtomahbdidlglfacGreatDoorRows
import Derived.Test.YtomahbdidlglfacGreatDoorO1O2O3C9O4O5W6Rs
import Derived.ProofKit
import Derived.OpenShut
import Derived.JoinedCond
import Derived.ReadAgain
import Derived.Test.YtomahbdidlglfacGreatDoorP1ShelfP2
import Derived.LaidMore
import Derived.Stop.Joined
import Derived.Stop.LaidErr
import Derived.SizedLaws
namespace Go.Proofs.YtomahbdidlglfacGreatDoor
open Go.RowKit Go.Maps Go.WideMaps

def conS : ByteArray := ⟨#[40, 102, 110, 32, 102, 32, 40, 120, 32, 121, 41, 32, 40, 35, 49, 32, 120, 32, 120, 41, 41]⟩
theorem con_size : conS.size = 21 := rfl
abbrev sx : ByteArray := ⟨#[120]⟩
abbrev sy : ByteArray := ⟨#[121]⟩
def conT : Pu.TT 2 := ncon 1 1 [lname 0 sx, lname 0 sx]
def conN : Pu.Node (Pu.TT 1) := ⟨3, 1, ⟨#[]⟩, ⟨#[]⟩, [], [lname 0 sx, lname 0 sx], []⟩
def conF : Pu.Fn 2 := (⟨#[102]⟩, [sx, sy], conT)

theorem itoa1 : Lib.itoa 1 = [49] := by simp [Lib.itoa, Lib.decDigits]
theorem number_1 : number ⟨#[49]⟩ = (1, true) := by
  have e : Lib.atoiAll (⟨#[49]⟩ : ByteArray).data.toList = .ok 1 := rfl
  unfold number; rw [e]; dsimp only; rw [itoa1, ByteArray.toList_eq]; rfl

theorem con_args (pb : Nat) : RdA 1 pb conS 0 15 [lname 0 sx, lname 0 sx] 20 :=
  ⟨16, 17, 17, by decide +kernel, by decide +kernel,
    rd_name 0 pb conS sx 16 16 17 1 (by rw [con_size]; decide) (by decide +kernel) (by decide) (by rw [con_size]; decide) (by decide +kernel) (by decide +kernel) number_x (by decide +kernel) (by decide),
    18, 19, 19, by decide +kernel, by decide +kernel,
    rd_name 0 pb conS sx 18 18 19 1 (by rw [con_size]; decide) (by decide +kernel) (by decide) (by rw [con_size]; decide) (by decide +kernel) (by decide +kernel) number_x (by decide +kernel) (by decide),
    19, by decide +kernel, by decide +kernel, by rw [con_size]; decide, rfl⟩
theorem con_term (pb : Nat) : RdT 2 pb conS 11 20 0 conT :=
  rd_con 1 pb conS ⟨#[35, 49]⟩ ⟨#[49]⟩ 1 11 12 13 15 20 0 [lname 0 sx, lname 0 sx] (by rw [con_size]; decide) (by decide +kernel) (by decide +kernel) (by decide +kernel) (by decide) (by decide +kernel) (by rw [con_size]; decide)
    (by decide) (by decide) (by decide +kernel) (by decide +kernel) number_1 (by decide) (by decide +kernel) (by decide +kernel) (by decide +kernel) (by decide +kernel) (by decide +kernel) (con_args pb) (by decide) (by decide)
theorem con_one : OneN conS ⟨#[102]⟩ [sx, sy] 2 0 1 4 6 11 20 20 conT where
  size := by rw [con_size]; decide
  p0 := by decide +kernel
  x0 := by decide +kernel
  p1 := by decide +kernel
  x1 := by decide +kernel
  p2 := by decide +kernel
  x2 := by decide +kernel
  n2 := by decide +kernel
  m2 := by decide
  p3 := by decide +kernel
  x3 := by decide +kernel
  ps := ⟨7, by decide +kernel, by decide +kernel, by decide +kernel, by decide, by decide +kernel, by rw [con_size]; decide, 9, by decide +kernel, by decide +kernel, by decide +kernel, by decide, by decide +kernel, by rw [con_size]; decide, 10, by decide +kernel, by decide +kernel, by rw [con_size]; decide, rfl⟩
  pl := by decide
  sh := fun x hx => by
    simp only [List.mem_cons, List.not_mem_nil, or_false] at hx
    rcases hx with rfl | rfl <;> (unfold maxLen; decide)
  t6 := con_term
  p7 := by decide +kernel
  x7 := by decide +kernel
  p8 := by decide +kernel
  x8 := by decide +kernel

theorem con_gone : gone 2 conT [sx, sy] = [sy] := by decide +kernel
theorem con_rep : rep (namesOf 1 conN.args) = [sx] := by decide +kernel
theorem con_step : StepC 2 conT (wrap 8 sx ⟨2, conT⟩) := by
  have h := step_con 1 conT (.inl rfl) (by decide)
  have e : cnt 8 (rep (namesOf 1 (show Pu.Node (Pu.TT 1) from conT).args)) ⟨2, conT⟩ = wrap 8 sx ⟨2, conT⟩ := by
    rw [show (show Pu.Node (Pu.TT 1) from conT).args = conN.args from rfl, con_rep]; rfl
  rw [e] at h
  exact h
/-- The body that counts. -/
abbrev conO : Tm := wrap 9 sy (wrap 8 sx ⟨2, conT⟩)
theorem con_wt : wf conF ≤ 1073741824 := by decide +kernel
theorem conO_wt : Pu.wt conO.1 conO.2 ≤ 1073741824 := by decide +kernel
theorem leaf_same (x : ByteArray) : ErSame 1 (lname 0 x) := fun S w cs h hS =>
  (er_flat 0 (⟨1, 0, x, ⟨#[]⟩, [], [], []⟩ : Pu.Node (Pu.TT 0)) (.inl rfl) rfl (fun i h => absurd h (by simp)) (by simp) [] (fun p hp => by simp at hp) S w cs h hS).mono fun e w' ⟨cs', he, hf, _, hc⟩ => by
    rw [hc rfl] at he; exact ⟨he, hf⟩

theorem sh_leaf (x : ByteArray) (hx : x.size ≤ 1000000) : ShC 1 (lname 0 x) x := by
  have h := show_node 0 (⟨1, 0, x, ⟨#[]⟩, [], [], []⟩ : Pu.Node (Pu.TT 0)) [] rfl hx (.inl rfl) rfl (fun i h => absurd h (by simp)) (fun i hi => by
    have : i = 0 := by simpa using hi
    subst this; decide) (fun x hx => by simp at hx)
  exact h

def con1 : ByteArray := ⟨#[40, 35, 49, 32, 120, 32, 120, 41]⟩
def con2 : ByteArray := ⟨#[40, 100, 117, 112, 32, 120, 32, 40, 35, 49, 32, 120, 32, 120, 41, 41]⟩
def con3 : ByteArray := ⟨#[40, 100, 114, 111, 112, 32, 121, 32, 40, 100, 117, 112, 32, 120, 32, 40, 35, 49, 32, 120, 32, 120, 41, 41, 41]⟩
theorem asTo_small (ss : List ByteArray) (n : Nat) (h : ∀ i, i < ss.length + 1 → (asTo ss i).size ≤ n) : ∀ i, i ≤ ss.length → (asTo ss i).size ≤ n := fun i hi => h i (by omega)
theorem sh_con : ShC 2 conT con1 := by
  have h := show_node 1 conN [sx, sx] rfl (by decide) (.inr (.inr (.inl rfl))) rfl (fun i h => by
    have hi : i = 0 ∨ i = 1 := by have : i < 2 := h; omega
    rcases hi with rfl | rfl <;> exact sh_leaf sx (by decide)) (asTo_small _ _ (by decide +kernel)) (fun x hx => by
    simp only [List.mem_cons, List.not_mem_nil, or_false, or_self] at hx
    subst hx; decide)
  have e : shown conN.kind conN.n conN.name (asAll [sx, sx]) = con1 := by
    show shown 3 1 ⟨#[]⟩ (asAll [sx, sx]) = con1
    unfold shown
    rw [if_neg (by decide), if_neg (by decide), if_pos rfl, itoa1]
    decide +kernel
  rw [e] at h
  exact h
theorem sh_dup : ShC 3 (wrap 8 sx ⟨2, conT⟩).2 con2 := by
  have h := show_node 2 (⟨8, 0, sx, ⟨#[]⟩, [], [conT], []⟩ : Pu.Node (Pu.TT 2)) [con1] rfl (by decide) (.inr (.inr (.inr (.inr (.inr (.inl rfl)))))) rfl (fun i h => by
    have hi : i = 0 := by have : i < 1 := h; omega
    subst hi; exact sh_con) (asTo_small _ _ (by decide +kernel)) (fun x hx => by
    simp only [List.mem_cons, List.not_mem_nil, or_false] at hx
    subst hx; decide)
  have e : shown 8 0 sx (asAll [con1]) = con2 := by decide +kernel
  have h' : ShC 3 (wrap 8 sx ⟨2, conT⟩).2 (shown 8 0 sx (asAll [con1])) := h
  rw [e] at h'
  exact h'
theorem sh_drop : ShC 4 conO.2 con3 := by
  have h := show_node 3 (⟨9, 0, sy, ⟨#[]⟩, [], [(wrap 8 sx ⟨2, conT⟩).2], []⟩ : Pu.Node (Pu.TT 3)) [con2] rfl (by decide) (.inr (.inr (.inr (.inr (.inr (.inr rfl)))))) rfl (fun i h => by
    have hi : i = 0 := by have : i < 1 := h; omega
    subst hi; exact sh_dup) (asTo_small _ _ (by decide +kernel)) (fun x hx => by
    simp only [List.mem_cons, List.not_mem_nil, or_false] at hx
    subst hx; decide)
  have e : shown 9 0 sy (asAll [con2]) = con3 := by decide +kernel
  have h' : ShC 4 conO.2 (shown 9 0 sy (asAll [con2])) := h
  rw [e] at h'
  exact h'
end Go.Proofs.YtomahbdidlglfacGreatDoor

/- What chapter 6's statements ask first, walked. -/
namespace Go.Proofs.YtomahbdidlglfacGreatDoor
open Go.RowKit Go.Maps Go.WideMaps

/-- A function in a row of one, in a set of blocks: as Fns; its cells. -/
theorem row_one {S : Nat → Prop} {K : Nat} {w : World} {v : Value} {cs : List Value} {f : Pu.Fn K} (hr : RowS S w v 1 cs) (hc : cs.length = 9) (h : RFS K S w cs f) :
    ∃ g o cap pa pc kd n x y a0 n0 c0 a1 n1 c1 a2 n2 c2, v = .slice (some ⟨g, o, none⟩) 1 cap ∧ OneAt K S w g o cap pa pc kd n x y a0 n0 c0 a1 n1 c1 a2 n2 c2 f ∧ f.1.size ≤ maxLen := by
  obtain ⟨a, cap, rfl, _, hcap, hrow⟩ := hr
  obtain ⟨g, o, rfl, hS, hg, _, hcell⟩ := hrow (by decide)
  obtain ⟨pv, b, rfl, h1, h2, h3, h4⟩ := h
  obtain ⟨pa, pc, rfl, _⟩ := rowS_form h2.1
  obtain ⟨kd, n, x, y, a0, n0, c0, a1, n1, c1, a2, n2, c2, rfl⟩ := h4.form
  exact ⟨g, o, cap, pa, pc, kd, n, x, y, a0, n0, c0, a1, n1, c1, a2, n2, c2, rfl, ⟨hcap, hg, hS, h2, h4, fun j hj => hcell j (by simpa using hj)⟩, h1⟩

theorem OneAt.rf {K : Nat} {S : Nat → Prop} {w : World} {g o cap : Nat} {pa : Option Addr} {pc : Nat} {kd n : Int} {x y : ByteArray} {a0 : Option Addr} {n0 c0 : Nat} {a1 : Option Addr} {n1 c1 : Nat} {a2 : Option Addr} {n2 c2 : Nat} {f : Pu.Fn K} (h : OneAt K S w g o cap pa pc kd n x y a0 n0 c0 a1 n1 c1 a2 n2 c2 f) (hf : f.1.size ≤ maxLen) (hS : ∀ g, S g → g < w.heap.size) :
    RF K w.heap.size w [.string f.1, .slice pa f.2.1.length pc, .int .i64 kd, .int .i64 n, .string x, .string y, .slice a0 n0 c0, .slice a1 n1 c1, .slice a2 n2 c2] f :=
  ⟨_, _, rfl, hf, ⟨h.names.1.row hS, h.names.2⟩, rfl, RTS.rt hS h.term⟩
theorem OneAt.fns {K : Nat} {S : Nat → Prop} {w : World} {g o cap : Nat} {pa : Option Addr} {pc : Nat} {kd n : Int} {x y : ByteArray} {a0 : Option Addr} {n0 c0 : Nat} {a1 : Option Addr} {n1 c1 : Nat} {a2 : Option Addr} {n2 c2 : Nat} {f : Pu.Fn K} (h : OneAt K S w g o cap pa pc kd n x y a0 n0 c0 a1 n1 c1 a2 n2 c2 f) (hf : f.1.size ≤ maxLen) (hS : ∀ g, S g → g < w.heap.size) (h1 : 1 ≤ cap) :
    Fns K w.heap.size w (.slice (some ⟨g, o, none⟩) 1 cap) [f] :=
  ⟨_, ⟨_, cap, rfl, h1, h.cap, fun _ => ⟨g, o, rfl, h.lt, h.lt, fun i hi => h.cells i (by simpa using hi)⟩⟩, _, [], by simp, rfl, h.rf hf hS, rfl⟩

/-- What 'alive' asks of the world. -/
def AliveC6 : Prop := ∀ w : World, Env w → 3 ≤ w.heap.size → Calls Tryz.prog 11 #[] w fun e w' => e = .returned (.bool true) ∧ Fr No w w'

set_option maxRecDepth 100000 in
set_option maxHeartbeats 4000000 in
theorem alive6_any : AliveC6 := by
  intro w henv h3
  have CP := hide (parse_fn con_one w henv h3)
  rw [show conS = ⟨#[40, 102, 110, 32, 102, 32, 40, 120, 32, 121, 41, 32, 40, 35, 49, 32, 120, 32, 120, 41, 41]⟩ from rfl] at CP
  have HENV := hide henv
  clear henv
  go_enter Tryz.func11, Tryz.ntmps11
  go_wp2_with fail
  refine CP.out.mono ?_
  rintro e w1 ⟨v, cs, rfl, hf1, hr, hc, hrf⟩
  have hcap0 := hr.form
  obtain ⟨g, o, cap, pa, pc, kd, n, x, y, a0, n0, c0, a1, n1, c1, a2, n2, c2, rfl, h1, hn1⟩ := row_one hr hc hrf
  have hcap1 : 1 ≤ cap := by
    obtain ⟨_, _, hv, hle, _⟩ := hcap0
    injection hv with _ _ hv2
    omega
  have HN : ∀ g, New w w1 g → g < w1.heap.size := fun g h => h.2
  have CFN : Hid (∀ W, Fr No w1 W → Calls Tryz.prog 14 #[.agg #[.string ⟨#[102]⟩, .slice pa 2 pc, .int .i64 kd, .int .i64 n, .string x, .string y, .slice a0 n0 c0, .slice a1 n1 c1, .slice a2 n2 c2]] W fun e w' => ∃ pa' pc' kd' n' x' y' a0' n0' c0' a1' n1' c1' a2' n2' c2', e = .returned (.agg #[.string ⟨#[102]⟩, .slice pa' 2 pc', .int .i64 kd', .int .i64 n', .string x', .string y', .slice a0' n0' c0', .slice a1' n1' c1', .slice a2' n2' c2']) ∧ Fr No W w' ∧ RT 4 w'.heap.size w' [.int .i64 kd', .int .i64 n', .string x', .string y', .slice a0' n0' c0', .slice a1' n1' c1', .slice a2' n2' c2'] conO.2) := fun W hW =>
    (ownFn_any' 2 conF _ con_step w1.heap.size W _ ((h1.rf hn1 HN).kept (hW.old (Nat.le_refl _) (fun _ _ e => e)) (Nat.le_refl _) hW.size) hW.size con_wt).mono fun e w' ⟨pa', pc', kd', n', x', y', a0', n0', c0', a1', n1', c1', a2', n2', c2', he, hf, _, hr⟩ => by
      have hr' : RS (New W w') w' [.int .i64 kd', .int .i64 n', .string x', .string y', .slice a0' n0' c0', .slice a1' n1' c1', .slice a2' n2' c2'] conO := by
        have := hr
        rw [show gone 2 conF.2.2 conF.2.1 = [sy] from con_gone] at this
        exact this
      exact ⟨pa', pc', kd', n', x', y', a0', n0', c0', a1', n1', c1', a2', n2', c2', he, hf, RTS.rt (fun g h => h.2) hr'⟩
  have CAL : Hid (∀ W, Fr No w1 W → Calls Tryz.prog 33 #[.slice (some ⟨g, o, none⟩) 1 cap] W fun e w' => ∃ a c, e = .returned (.slice a 1 c) ∧ Fr No W w') := fun W hW =>
    ownAll_one 2 conF _ con_step w1.heap.size _ W ((h1.fns hn1 HN hcap1).old (hW.old (Nat.le_refl _) (fun _ _ e => e)) hW.size) hW.size con_wt
  have CTM : Hid (∀ W, Fr No w1 W → W.heap.size ≤ W.heap.size → ∀ ov, Names W.heap.size W ov [sx, sy] → Calls Tryz.prog 34 #[.agg #[.int .i64 kd, .int .i64 n, .string x, .string y, .slice a0 n0 c0, .slice a1 n1 c1, .slice a2 n2 c2], ov] W fun e w' => ∃ u1 u2 u3 u4 u5 u6, e = .returned (.agg #[.int .i64 9, u1, u2, u3, u4, u5, u6]) ∧ Fr No W w') := fun W hW _ ov hov =>
    (ownTerm_any 2 conT _ con_step w1.heap.size W _ ov [sx, sy] ((RTS.rt HN h1.term).old (hW.old (Nat.le_refl _) (fun _ _ e => e)) hW.size) hW.size hov (by decide +kernel) (by decide)).mono fun e w' ⟨cs', he, hf, hr⟩ => by
      rw [con_gone] at hr
      have hr' : RS (New W w') w' cs' (wrap 9 sy (wrap 8 sx ⟨2, conT⟩)) := hr
      obtain ⟨_, _, _, _, _, _, _, _, _, _, _, _, _, _, _, _, _, _, _, _, rfl, _⟩ := RS.wrap_inv hr'
      exact ⟨_, _, _, _, _, _, he, hf⟩
  have q : ∀ j, j < 9 → w1.cell? ⟨g, o + j, none⟩ = [Value.string ⟨#[102]⟩, .slice pa 2 pc, .int .i64 kd, .int .i64 n, .string x, .string y, .slice a0 n0 c0, .slice a1 n1 c1, .slice a2 n2 c2][j]? := h1.cells
  have hgl := h1.lt
  have hcp := h1.cap
  unfold maxLen at hcp
  have Q := hide q
  have F1 := hide hf1
  have q0 : w1.cell? ⟨g, o, none⟩ = some (.string ⟨#[102]⟩) := q 0 (by omega)
  have q1 := q 1 (by omega)
  have q2 := q 2 (by omega)
  have q3 := q 3 (by omega)
  have q4 := q 4 (by omega)
  have q5 := q 5 (by omega)
  have q6 := q 6 (by omega)
  have q7 := q 7 (by omega)
  have q8 := q 8 (by omega)
  clear CP hf1 hr hc hrf h1 hn1 hcap0 HN q
  go_wp2_with fail
  refine (CFN.out _ (Fr.refl No w1)).mono ?_
  rintro e w2 ⟨pa', pc', kd', n', x', y', a0', n0', c0', a1', n1', c1', a2', n2', c2', rfl, hf2, hrt⟩
  have F2 := hide hf2
  have HRT := hide hrt
  clear hf2 hrt CFN q0 q1 q2 q3 q4 q5 q6 q7 q8
  go_wp2_with fail
  obtain ⟨W3, hW3⟩ : ∃ W3, W3 = w2.alloc (.cells #[.string ⟨#[102]⟩, .slice pa' 2 pc', .int .i64 kd', .int .i64 n', .string x', .string y', .slice a0' n0' c0', .slice a1' n1' c1', .slice a2' n2' c2'] 34) := ⟨_, rfl⟩
  rw [← hW3]
  have f23 : Fr No w2 W3 := by rw [hW3]; exact (Fr.refl No w2).alloc _
  have o3 : W3.heap[w2.heap.size]? = some (.cells #[.string ⟨#[102]⟩, .slice pa' 2 pc', .int .i64 kd', .int .i64 n', .string x', .string y', .slice a0' n0' c0', .slice a1' n1' c1', .slice a2' n2' c2'] 34 (0, 0)) := by rw [hW3]; exact heap_alloc_new w2 _
  have hs3 : W3.heap.size = w2.heap.size + 1 := by rw [hW3]; simp
  clear hW3
  have hfw3 : Fr No w W3 := (F1.out.trans F2.out).trans f23
  have hE3 : Env W3 := HENV.out.fr hfw3 h3 (fun _ _ e => e)
  have hsz3 : 3 ≤ W3.heap.size := Nat.le_trans h3 hfw3.size
  have hRT3 : RT 4 w2.heap.size W3 [.int .i64 kd', .int .i64 n', .string x', .string y', .slice a0' n0' c0', .slice a1' n1' c1', .slice a2' n2' c2'] conO.2 := HRT.out.old (f23.old (Nat.le_refl _) (fun _ _ e => e)) f23.size
  have CS : Hid (Calls Tryz.prog 32 #[.agg #[.int .i64 kd', .int .i64 n', .string x', .string y', .slice a0' n0' c0', .slice a1' n1' c1', .slice a2' n2' c2']] W3 fun e w' => e = .returned (.string ⟨#[40, 100, 114, 111, 112, 32, 121, 32, 40, 100, 117, 112, 32, 120, 32, 40, 35, 49, 32, 120, 32, 120, 41, 41, 41]⟩) ∧ Fr No W3 w') := sh_drop w2.heap.size W3 _ hRT3 (by omega) hE3 hsz3
  have CE : Hid (∀ W, Fr No W3 W → Calls Tryz.prog 17 #[.agg #[.int .i64 kd', .int .i64 n', .string x', .string y', .slice a0' n0' c0', .slice a1' n1' c1', .slice a2' n2' c2']] W fun e w' => ∃ d0 d1 d2 d3 d4 d5 d6, e = .returned (.agg #[d0, d1, d2, d3, d4, d5, d6]) ∧ Fr No W w' ∧ RT 2 w'.heap.size w' [d0, d1, d2, d3, d4, d5, d6] conT) := fun W hW =>
    (ownErase_any 1 conN (.inr rfl) rfl (fun i h => by
      have hi : i = 0 ∨ i = 1 := by have : i < 2 := h; omega
      rcases hi with rfl | rfl <;> exact leaf_same sx) (by decide) [(9, sy), (8, sx)] (fun p hp => by
      simp only [List.mem_cons, List.not_mem_nil, or_false] at hp
      rcases hp with rfl | rfl
      · exact .inr rfl
      · exact .inl rfl) w2.heap.size W _ (hRT3.old (hW.old (by omega) (fun _ _ e => e)) hW.size) (by have := hW.size; omega) conO_wt).mono fun e w' ⟨cs', he, hf, hr⟩ => by
      obtain ⟨_, _, _, _, _, _, _, _, _, _, _, _, _, rfl⟩ := hr.form
      exact ⟨_, _, _, _, _, _, _, he, hf, RTS.rt (fun g h => h.2) hr⟩
  have HF3 := hide hfw3
  have O3 := hide o3
  have F3 := hide f23
  clear hRT3 hfw3 o3 f23 hE3
  refine CS.out.mono ?_
  rintro e w4 ⟨rfl, hf4⟩
  have k4 := cell_of_heap (fr_heap O3.out hf4 (fun e => e))
  have l4 := lt_of_heap (fr_heap O3.out hf4 (fun e => e))
  have F4 := hide hf4
  clear hf4 CS
  go_wp2_with fail
  refine (CE.out _ F4.out).mono ?_
  rintro e w5 ⟨d0, d1, d2, d3, d4, d5, d6, rfl, hf5, hrt5⟩
  have F35 := hide (F4.out.trans hf5)
  have CS2 : Hid (Calls Tryz.prog 32 #[.agg #[d0, d1, d2, d3, d4, d5, d6]] w5 fun e w' => e = .returned (.string ⟨#[40, 35, 49, 32, 120, 32, 120, 41]⟩) ∧ Fr No w5 w') := sh_con w5.heap.size w5 _ hrt5 (Nat.le_refl _) (HENV.out.fr (HF3.out.trans F35.out) h3 (fun _ _ e => e)) (by have := F35.out.size; omega)
  clear hf5 hrt5 CE k4 l4
  go_wp2_with fail
  refine CS2.out.mono ?_
  rintro e w6 ⟨rfl, hf6⟩
  have F16 := hide (((F2.out.trans F3.out).trans F35.out).trans hf6)
  clear hf6 CS2
  go_wp2_with fail
  refine (CAL.out _ F16.out).mono ?_
  rintro e w7 ⟨a7, c7, rfl, hf7⟩
  have F17 := hide (F16.out.trans hf7)
  have q : ∀ j, j < 9 → w7.cell? ⟨g, o + j, none⟩ = [Value.string ⟨#[102]⟩, .slice pa 2 pc, .int .i64 kd, .int .i64 n, .string x, .string y, .slice a0 n0 c0, .slice a1 n1 c1, .slice a2 n2 c2][j]? := fun j hj => by
    rw [show w7.cell? ⟨g, o + j, none⟩ = w1.cell? ⟨g, o + j, none⟩ from by simp only [World.cell?, F17.out.block g hgl (fun e => e)]]; exact Q.out j hj
  have q2 := q 2 (by omega)
  have q3 := q 3 (by omega)
  have q4 := q 4 (by omega)
  have q5 := q 5 (by omega)
  have q6 := q 6 (by omega)
  have q7 := q 7 (by omega)
  have q8 := q 8 (by omega)
  have hgl7 : g < w7.heap.size := Nat.lt_of_lt_of_le hgl F17.out.size
  clear hf7 CAL q
  have hfl : ∀ (u1 u2 u3 u4 u5 u6 : Value) (W : World), (Instr.field 32 (.agg #[.int .i64 9, u1, u2, u3, u4, u5, u6]) 0).run Tryz.prog W = .ok (.int .i64 9) W := fun _ _ _ _ _ _ _ => by kernel_rfl
  go_wp2_with fail
  have hnm : Names (w7.alloc (.cells #[.string sx, .string sy] 9)).heap.size (w7.alloc (.cells #[.string sx, .string sy] 9)) (.slice (some ⟨w7.heap.size, 0, none⟩) 2 2) [sx, sy] :=
    ⟨⟨_, 2, rfl, Nat.le_refl _, by unfold maxLen; decide, fun _ => ⟨w7.heap.size, 0, rfl, by rw [World.size_alloc]; exact Nat.lt_succ_self _, by rw [World.size_alloc]; exact Nat.lt_succ_self _, fun i hi => by
      rw [Nat.zero_add, cell_of_heap (heap_alloc_new w7 _) i]
      simp⟩⟩, fun y hy => by
      simp only [List.mem_cons, List.not_mem_nil, or_false] at hy
      rcases hy with rfl | rfl <;> (unfold maxLen; decide)⟩
  refine (CTM.out _ (F17.out.alloc _) (Nat.le_refl _) _ hnm).mono ?_
  rintro e w8 ⟨u1, u2, u3, u4, u5, u6, rfl, hf8⟩
  have F18 := hide ((F1.out.trans (F17.out.alloc _)).trans hf8)
  clear hf8 hnm CTM
  go_wp2_with fail
  go_ret
  exact ⟨rfl, F18.out⟩
end Go.Proofs.YtomahbdidlglfacGreatDoor

/- Arguments as they are handed in: terms, functions. No walk in it. -/
namespace Go.Proofs.YtomahbdidlglfacGreatDoor
open Go.RowKit Go.Maps Go.WideMaps Go.ChangeShapes Go.WideShapes Go.Deep
set_option maxRecDepth 100000
theorem cells9 : Tryz.prog.cellsOf 9 = 1 := by kernel_rfl
theorem cells3 : Tryz.prog.cellsOf 3 = 1 := by kernel_rfl
theorem cells23 : Tryz.prog.cellsOf 28 = 1 := by kernel_rfl
theorem cells24 : Tryz.prog.cellsOf 29 = 1 := by kernel_rfl
theorem cells25 : Tryz.prog.cellsOf 30 = 1 := by kernel_rfl
theorem cells27 : Tryz.prog.cellsOf 32 = 7 := by kernel_rfl
theorem cells48 : Tryz.prog.cellsOf 58 = 9 := by kernel_rfl
theorem cells44 : Tryz.prog.cellsOf 34 = 9 := by kernel_rfl
theorem wt_get' {α : Type} (f : α → Nat) (l : List α) (i : Nat) (h : i < l.length) : f l[i] ≤ (l.map f).sum := by
  have h1 := sumW_succ f l i h
  have h2 := sumW_le f l (i + 1)
  omega
section
variable {H : Type} {enc : TypeId × Value → H} {w : World} {spare : Nat → Bool} {held : Bool}
theorem bulk_pos (d : DataW H) : 1 ≤ Rows.uptoBulk d := by
  cases d with
  | lit l => cases l <;> simp [Rows.uptoBulk]
  | nil => simp [Rows.uptoBulk]
  | ptr d => simp [Rows.uptoBulk]
  | slice elems spare => simp [Rows.uptoBulk]
  | agg parts => simp [Rows.uptoBulk]
  | iface t d => simp [Rows.uptoBulk]
  | map entries => simp [Rows.uptoBulk]
  | held h => simp [Rows.uptoBulk]
/-- A sum over places. -/
theorem bulk_range (n : Nat) (D : Nat → DataW H) : Rows.uptoBulkAll ((List.range n).map D) = ((List.range n).map fun i => Rows.uptoBulk (D i)).sum := by
  have : ∀ l : List Nat, Rows.uptoBulkAll (l.map D) = (l.map fun i => Rows.uptoBulk (D i)).sum := by
    intro l
    induction l with
    | nil => rfl
    | cons a l ih => simp only [List.map_cons, Rows.uptoBulkAll, List.sum_cons, ih]
  exact this _
theorem bulk_part (n i : Nat) (h : i < n) (D : Nat → DataW H) : Rows.uptoBulk (D i) ≤ Rows.uptoBulkAll ((List.range n).map D) := by
  rw [bulk_range]
  have := wt_get' (fun i => Rows.uptoBulk (D i)) (List.range n) i (by simpa using h)
  simpa using this
/-- A row opened, element by element. -/
theorem open_row {α : Type} (sz : Nat) (hsz : 0 < sz) (t e : TypeId) (ht : Tryz.prog.underlying t = some (.slice e)) (hc : Tryz.prog.cellsOf e = sz) (fuel : Nat) (cs : List Value) (x : DataW H × List MemPlace) (h : DataW.trod enc Tryz.prog w 0 spare held fuel t cs = some x)
    (P : List Value → α → Prop) (W : α → Nat)
    (hel : ∀ n cs' y, DataW.trod enc Tryz.prog w 0 spare held n e cs' = some y → Rows.uptoBulk y.1 < Rows.uptoBulk x.1 → ∃ a, P cs' a ∧ W a ≤ Rows.uptoBulk y.1) :
    ∃ v l xs, cs = [v] ∧ Row w.heap.size w v l.length xs ∧ Each sz P xs l ∧ (l.map W).sum + 1 ≤ Rows.uptoBulk x.1 := by
  rcases open_slice ht h with ⟨rfl, rfl⟩ | ⟨a, len, cap, m, n, D, Pl, rfl, hb, hl, hm, hmm, rfl, hx⟩
  · exact ⟨_, [], [], rfl, Row.nil _ _, rfl, by simp [Rows.uptoBulk]⟩
  rw [hc] at hx
  have hlm : len ≤ m := by rw [hmm]; split <;> omega
  have hbk : Rows.uptoBulk (DataW.slice ((List.range len).map D) ((List.range (m - len)).map fun j => D (len + j))) = Rows.uptoBulkAll ((List.range len).map D) + Rows.uptoBulkAll ((List.range (m - len)).map fun j => D (len + j)) + 1 := by simp [Rows.uptoBulk]
  have each : ∀ i, i < len → ∃ c a', w.cells? 0 (a.add (i * sz)) sz = some c ∧ P c a' ∧ W a' ≤ Rows.uptoBulk (D i) := fun i hi => by
    obtain ⟨cs', h1, h2⟩ := hx i (by omega)
    have hlt : Rows.uptoBulk (D i) < Rows.uptoBulk (DataW.slice ((List.range len).map D) ((List.range (m - len)).map fun j => D (len + j))) := by
      rw [hbk]
      have := bulk_part len i hi D
      omega
    obtain ⟨a', h3, h4⟩ := hel n cs' _ h2 hlt
    exact ⟨cs', a', h1, h3, h4⟩
  -- the elements one behind the other
  have build : ∀ j, j ≤ len → ∃ l xs, l.length = j ∧ Each sz P xs l ∧ (∀ i, i < j * sz → w.cell? (a.add i) = xs[i]?) ∧ (l.map W).sum ≤ ((List.range j).map fun i => Rows.uptoBulk (D i)).sum := by
    intro j
    induction j with
    | zero => intro _; exact ⟨[], [], rfl, rfl, fun i hi => by omega, by simp⟩
    | succ j ih =>
      intro hj
      obtain ⟨l, xs, h1, h2, h3, h4⟩ := ih (by omega)
      obtain ⟨c, a', h5, h6, h7⟩ := each j (by omega)
      obtain ⟨_, hcl, hcc⟩ := World.cells?_some h5
      have hxl : xs.length = j * sz := by rw [h2.length, h1]
      refine ⟨l ++ [a'], xs ++ c, by simp [h1], Each.snoc hcl h6 h2, fun i hi => ?_, ?_⟩
      · by_cases hij : i < j * sz
        · rw [h3 i hij, List.getElem?_append_left (by omega)]
        · rw [List.getElem?_append_right (by omega), hxl]
          have hi2 : i - j * sz < sz := by rw [Nat.add_mul] at hi; omega
          have := hcc (i - j * sz) (by omega)
          rw [add_add, show j * sz + (i - j * sz) = i by omega] at this
          exact this
      · rw [List.range_succ, List.map_append, List.sum_append, List.map_append, List.sum_append]
        simp
        omega
  obtain ⟨l, xs, h1, h2, h3, h4⟩ := build len (Nat.le_refl _)
  refine ⟨_, l, xs, rfl, ⟨some a, cap, by rw [h1], by omega, hm, fun hn => ?_⟩, h2, ?_⟩
  · have hlen : xs.length = len * sz := by rw [h2.length, h1]
    have hpos : 0 < len * sz := Nat.mul_pos (by omega) hsz
    have h0 := h3 0 hpos
    rw [List.getElem?_eq_getElem (by omega)] at h0
    obtain ⟨b, o, spot⟩ := a
    have hspot : spot = none := by simpa [Addr.add] using World.cell?_spot h0
    subst hspot
    refine ⟨b, o, rfl, World.block_lt_of_cell? w _ h0, World.block_lt_of_cell? w _ h0, fun i hi => ?_⟩
    have := h3 i (by omega)
    rw [Addr.add_lit] at this
    exact this
  · rw [hbk, bulk_range]
    omega
theorem bulk_agg (l : List (DataW H)) : Rows.uptoBulk (.agg l) = Rows.uptoBulkAll l + 1 := by simp [Rows.uptoBulk]
theorem each_strings {xs : List Value} : ∀ {l : List ByteArray}, Each 1 (fun cs (a : ByteArray) => cs = [.string a] ∧ a.size ≤ maxLen) xs l → xs = l.map .string ∧ Short l := by
  intro l
  induction l generalizing xs with
  | nil => intro h; exact ⟨h, fun x hx => by simp at hx⟩
  | cons a l ih =>
    rintro ⟨ck, rest, h1, _, ⟨h3, h4⟩, h5⟩
    obtain ⟨h6, h7⟩ := ih h5
    refine ⟨by rw [h1, h3, h6]; rfl, fun x hx => ?_⟩
    rcases List.mem_cons.1 hx with rfl | hx
    · exact h4
    · exact h7 x hx
theorem sum_ones {α : Type} (l : List α) : (l.map fun _ => 1).sum = l.length := by
  induction l with
  | nil => rfl
  | cons a l ih => simp only [List.map_cons, List.sum_cons, ih, List.length_cons]; omega
/-- A list of names, opened. -/
theorem open_names (fuel : Nat) (cs : List Value) (x : DataW H × List MemPlace) (h : DataW.trod enc Tryz.prog w 0 spare held fuel 28 cs = some x) :
    ∃ v l, cs = [v] ∧ Names w.heap.size w v l ∧ l.length + 1 ≤ Rows.uptoBulk x.1 := by
  obtain ⟨v, l, xs, h1, h2, h3, h4⟩ := open_row (α := ByteArray) 1 (by omega) 28 9 Tryz.underlying28 cells9 fuel cs x h (fun cs a => cs = [.string a] ∧ a.size ≤ maxLen) (fun _ => 1) (fun n cs' y hy _ => by
    obtain ⟨s, h1, _, h3⟩ := DataW.trod_string Tryz.underlying9 hy
    exact ⟨s, ⟨h1, h3⟩, bulk_pos _⟩)
  obtain ⟨h5, h6⟩ := each_strings h3
  subst h5
  rw [sum_ones] at h4
  exact ⟨v, l, h1, ⟨h2, h6⟩, h4⟩
/-- A term, opened. -/
theorem open_term : ∀ (m fuel : Nat) (cs : List Value) (x : DataW H × List MemPlace), DataW.trod enc Tryz.prog w 0 spare held fuel 32 cs = some x → Rows.uptoBulk x.1 ≤ m → ∃ t : Pu.TT m, RT m w.heap.size w cs t ∧ Pu.wt m t ≤ Rows.uptoBulk x.1
  | 0, _, _, x, _, hb => by have := bulk_pos x.1; omega
  | m + 1, fuel, cs, x, h, hb => by
    have ih := open_term m
    obtain ⟨xs, n, _, rfl, hcl, hxl, hf⟩ := DataW.trod_struct Tryz.underlying32 h
    rw [cells27] at hcl
    match cs, hcl, xs, hxl with
    | [c0, c1, c2, c3, c4, c5, c6], _, [y0, y1, y2, y3, y4, y5, y6], _ =>
      have f0 : DataW.trod enc Tryz.prog w 0 spare held n 3 [c0] = some y0 := by simpa [cells3] using hf 0 _ rfl
      have f1 : DataW.trod enc Tryz.prog w 0 spare held n 3 [c1] = some y1 := by simpa [cells3] using hf 1 _ rfl
      have f2 : DataW.trod enc Tryz.prog w 0 spare held n 9 [c2] = some y2 := by simpa [cells9] using hf 2 _ rfl
      have f3 : DataW.trod enc Tryz.prog w 0 spare held n 9 [c3] = some y3 := by simpa [cells9] using hf 3 _ rfl
      have f4 : DataW.trod enc Tryz.prog w 0 spare held n 28 [c4] = some y4 := by simpa [cells23] using hf 4 _ rfl
      have f5 : DataW.trod enc Tryz.prog w 0 spare held n 29 [c5] = some y5 := by simpa [cells24] using hf 5 _ rfl
      have f6 : DataW.trod enc Tryz.prog w 0 spare held n 30 [c6] = some y6 := by simpa [cells25] using hf 6 _ rfl
      have hbk : Rows.uptoBulk (DataW.agg ([y0, y1, y2, y3, y4, y5, y6].map (·.1))) = Rows.uptoBulk y0.1 + (Rows.uptoBulk y1.1 + (Rows.uptoBulk y2.1 + (Rows.uptoBulk y3.1 + (Rows.uptoBulk y4.1 + (Rows.uptoBulk y5.1 + (Rows.uptoBulk y6.1 + 0)))))) + 1 := by
        rw [bulk_agg]; simp only [List.map_cons, List.map_nil, Rows.uptoBulkAll]
      rw [hbk] at hb ⊢
      obtain ⟨kd, e0, _, _⟩ := DataW.trod_int Tryz.underlying3 f0
      obtain ⟨nn, e1, _, hnn⟩ := DataW.trod_int Tryz.underlying3 f1
      obtain ⟨nm, e2, _, hnm⟩ := DataW.trod_string Tryz.underlying9 f2
      obtain ⟨tk, e3, _, _⟩ := DataW.trod_string Tryz.underlying9 f3
      obtain ⟨vv, vars, e4, hvars, hvb⟩ := open_names n _ y4 f4
      have b0 := bulk_pos y0.1
      have b1 := bulk_pos y1.1
      have b2 := bulk_pos y2.1
      have b3 := bulk_pos y3.1
      obtain ⟨av, args, acs, e5, hra, hea, hab⟩ := open_row (α := Pu.TT m) 7 (by omega) 29 32 Tryz.underlying29 cells27 n _ y5 f5 (RT m w.heap.size w) (Pu.wt m) (fun n' cs' y hy hlt => ih n' cs' y hy (by omega))
      obtain ⟨cv, cases, ccs, e6, hrc, hec, hcb⟩ := open_row (α := Int × List ByteArray × Pu.TT m) 9 (by omega) 30 58 Tryz.underlying30 cells48 n _ y6 f6 (RC (RT m w.heap.size w) w.heap.size w) (fun c => 1 + c.2.1.length + Pu.wt m c.2.2) (fun n' cs' y hy hlt => by
        obtain ⟨xs', n2, _, rfl, hcl', hxl', hf'⟩ := DataW.trod_struct Tryz.underlying58 hy
        rw [cells48] at hcl'
        match cs', hcl', xs', hxl' with
        | [d0, d1, d2, d3, d4, d5, d6, d7, d8], _, [z0, z1, z2], _ =>
          have k0 : DataW.trod enc Tryz.prog w 0 spare held n2 3 [d0] = some z0 := by simpa [cells3] using hf' 0 _ rfl
          have k1 : DataW.trod enc Tryz.prog w 0 spare held n2 28 [d1] = some z1 := by simpa [cells23] using hf' 1 _ rfl
          have k2 : DataW.trod enc Tryz.prog w 0 spare held n2 32 [d2, d3, d4, d5, d6, d7, d8] = some z2 := by simpa [cells27] using hf' 2 _ rfl
          have hbk' : Rows.uptoBulk (DataW.agg ([z0, z1, z2].map (·.1))) = Rows.uptoBulk z0.1 + (Rows.uptoBulk z1.1 + (Rows.uptoBulk z2.1 + 0)) + 1 := by
            rw [bulk_agg]; simp only [List.map_cons, List.map_nil, Rows.uptoBulkAll]
          rw [hbk'] at hlt ⊢
          have p0 := bulk_pos z0.1
          obtain ⟨tg, e0, _, _⟩ := DataW.trod_int Tryz.underlying3 k0
          obtain ⟨vv', vars', e1, hvars', hvb'⟩ := open_names n2 _ z1 k1
          obtain ⟨t', hrt', hwt'⟩ := ih n2 _ z2 k2 (by omega)
          injection e0 with e0 _
          injection e1 with e1 _
          subst e0 e1
          exact ⟨(tg, vars', t'), ⟨_, _, rfl, hvars', rfl, hrt'⟩, by show 1 + vars'.length + Pu.wt m t' ≤ _; omega⟩)
      injection e0 with e0 _
      injection e1 with e1 _
      injection e2 with e2 _
      injection e3 with e3 _
      injection e4 with e4 _
      injection e5 with e5 _
      injection e6 with e6 _
      subst e0 e1 e2 e3 e4 e5 e6
      refine ⟨(⟨kd, nn, nm, tk, vars, args, cases⟩ : Pu.Node (Pu.TT m)), ⟨_, _, _, acs, ccs, rfl, hnm, hnn, hvars, hra, hea, hrc, hec⟩, ?_⟩
      show 1 + vars.length + (args.map (Pu.wt m)).sum + (cases.map fun c => 1 + c.2.1.length + Pu.wt m c.2.2).sum ≤ _
      omega
/-- A list of functions, opened. -/
theorem open_fns (m fuel : Nat) (cs : List Value) (x : DataW H × List MemPlace) (h : DataW.trod enc Tryz.prog w 0 spare held fuel 22 cs = some x) (hb : Rows.uptoBulk x.1 ≤ m) :
    ∃ v, ∃ l : List (Pu.Fn m), cs = [v] ∧ Fns m w.heap.size w v l ∧ (l.map wf).sum ≤ Rows.uptoBulk x.1 := by
  obtain ⟨v, l, xs, h1, h2, h3, h4⟩ := open_row (α := Pu.Fn m) 9 (by omega) 22 34 Tryz.underlying22 cells44 fuel cs x h (RF m w.heap.size w) wf (fun n' cs' y hy hlt => by
    obtain ⟨xs', n2, _, rfl, hcl', hxl', hf'⟩ := DataW.trod_struct Tryz.underlying34 hy
    rw [cells44] at hcl'
    match cs', hcl', xs', hxl' with
    | [d0, d1, d2, d3, d4, d5, d6, d7, d8], _, [z0, z1, z2], _ =>
      have k0 : DataW.trod enc Tryz.prog w 0 spare held n2 9 [d0] = some z0 := by simpa [cells9] using hf' 0 _ rfl
      have k1 : DataW.trod enc Tryz.prog w 0 spare held n2 28 [d1] = some z1 := by simpa [cells23] using hf' 1 _ rfl
      have k2 : DataW.trod enc Tryz.prog w 0 spare held n2 32 [d2, d3, d4, d5, d6, d7, d8] = some z2 := by simpa [cells27] using hf' 2 _ rfl
      have hbk' : Rows.uptoBulk (DataW.agg ([z0, z1, z2].map (·.1))) = Rows.uptoBulk z0.1 + (Rows.uptoBulk z1.1 + (Rows.uptoBulk z2.1 + 0)) + 1 := by
        rw [bulk_agg]; simp only [List.map_cons, List.map_nil, Rows.uptoBulkAll]
      rw [hbk'] at hlt ⊢
      have p0 := bulk_pos z0.1
      obtain ⟨nm, e0, _, hnm⟩ := DataW.trod_string Tryz.underlying9 k0
      obtain ⟨vv', vars', e1, hvars', hvb'⟩ := open_names n2 _ z1 k1
      obtain ⟨t', hrt', hwt'⟩ := open_term m n2 _ z2 k2 (by omega)
      injection e0 with e0 _
      injection e1 with e1 _
      subst e0 e1
      exact ⟨(nm, vars', t'), ⟨_, _, rfl, hnm, hvars', rfl, hrt'⟩, by show 1 + vars'.length + Pu.wt m t' ≤ _; omega⟩)
  exact ⟨v, l, h1, ⟨xs, h2, h3⟩, by omega⟩
/-- Arguments read again behind a call that has made new blocks alone. -/
theorem sameAt_fr {w' : World} (hf : Fr No w w') (p : MemPlace) (hp : p.block < w.heap.size) : w.sameAt w' p := by
  cases p with
  | cell b off => show w'.cell? ⟨b, off, none⟩ = w.cell? ⟨b, off, none⟩; simp only [World.cell?, hf.block b hp (fun e => e)]
  | map b => exact hf.block b hp (fun e => e)
end
end Go.Proofs.YtomahbdidlglfacGreatDoor

/- The rows' common part: arguments read again behind the call. -/
namespace Go.Proofs.YtomahbdidlglfacGreatDoor
open Go.ChangeShapes Go.WideShapes Go.ChangeAt Go.RowKit
theorem kids : Kids Tryz.prog (· < Tryz.prog.types.size) := kids_rows (by kernel_rfl) (by kernel_rfl)
theorem full : ∀ t e, t < Tryz.prog.types.size → Tryz.prog.underlying t = some (.slice e) → 0 < Tryz.prog.cellsOf e := slices_full_of Tryz.prog (by kernel_rfl)
section
variable {H : Type} {enc : TypeId × Value → H}
theorem trodAll_carry {w w' : World} {base : Nat} {sp : Nat → Bool} {held : Bool} : ∀ {ts : List TypeId} {vs : List Value} {ds : List (DataW H)} {ps : List MemPlace}, DataW.TrodAll enc Tryz.prog w base sp held ts vs ds ps → (∀ p ∈ ps, w.sameAt w' p) → DataW.TrodAll enc Tryz.prog w' base sp held ts vs ds ps
  | [], [], [], _, h, _ => h
  | _ :: _, _ :: _, _ :: _, _, ⟨p, q, ⟨n, h1⟩, h2, e⟩, hs => ⟨p, q, ⟨n, DataW.trod_carry n _ _ _ h1 (fun x hx => hs x (by rw [e]; exact List.mem_append_left _ hx))⟩, trodAll_carry h2 (fun x hx => hs x (by rw [e]; exact List.mem_append_right _ hx)), e⟩
/-- What a law's row wants behind a call that answers true and makes new blocks alone. -/
theorem post_true {fn : Func} {s : ChangeSpec} {W W' : World} {args : Array Value} {ds : List (DataW H)} {p : List MemPlace} (hvars : s.vars = []) (hres : fn.resultTypes = #[4]) (hts : ∀ t ∈ fn.params.toList, t < Tryz.prog.types.size)
    (hfn : s.fn H (ds ++ []) = { results := [.lit (.bool true)], args := ds })
    (hW : DataW.Whole enc Tryz.prog fn.params.toList s.vars false W args.toList ds [] p) (hA : DataW.TrodAll enc Tryz.prog W 0 (fun _ => true) true fn.params.toList args.toList ds p) (hf : Fr No W W') :
    s.post enc Tryz.prog fn false true false false W args (.bool true) W' := by
  refine ⟨ds, [], p, [], p, [], hW, ?_, ?_, ?_, hf.below.frame _, fun h => by cases h⟩
  · rw [hfn, hres]
    exact trodAll_mk1 (shut_bool Tryz.underlying4 _)
  · rw [hfn]
    refine trodAll_carry (DataW.TrodAll.respare kids full hts hA (fun q hq => by simpa using hW.lt q hq)) (fun q hq => sameAt_fr hf q (hW.lt q hq))
  · rw [hfn, hvars]
    rfl
end
end Go.Proofs.YtomahbdidlglfacGreatDoor

/- What the rows list, as the walks want it; the start that fits. -/
namespace Go.Proofs.YtomahbdidlglfacGreatDoor
open Go.ChangeShapes Go.WideShapes Go.ChangeAt Go.WideMaps Go.WideElems Go.RowKit

abbrev laid5 : List (String × DataW Unit) := [("math/bits.deBruijn32tab", Rows.laid_math_bits_deBruijn32tab), ("math/bits.deBruijn64tab", Rows.laid_math_bits_deBruijn64tab), ("internal/strconv.uint64pow10", Rows.laid_internal_strconv_uint64pow10), ("strconv.ErrRange", Rows.laid_strconv_ErrRange), ("strconv.ErrSyntax", Rows.laid_strconv_ErrSyntax)]

theorem Tryz.own : ownKnob Tryz.prog.godebug = none := by kernel_rfl
theorem gP : (Tryz.prog.globals[0]?).map (·.type) = some 175 := by kernel_rfl
theorem gS : (Tryz.prog.globals[1]?).map (·.type) = some 149 := by kernel_rfl
theorem gR : (Tryz.prog.globals[2]?).map (·.type) = some 149 := by kernel_rfl

theorem door_met (os : Os) (args : Array Value) : laidMetH Tryz.prog laid5 ((World.doorLaid Tryz.prog 400 os).forCall (fun _ _ => 0) ⟨#[], args, []⟩).memory :=
  laidMetH_of_parts3 (fuel := 8) (laidMet_of_run' 8 (by kernel_rfl) (by kernel_rfl)) (by kernel_rfl) (by kernel_rfl)

theorem star : "*" ++ "errors.errorString" = "*errors.errorString" := by decide
theorem row117 (u : TypeId) (h : Tryz.prog.typeName? 3 u = some "*errors.errorString") : u = 188 :=
  typeName_ptr_named (nm := "errors.errorString") (by rw [star]; kernel_rfl) (by kernel_rfl) (by decide) u (by rw [star]; exact h)
theorem cells119 : Tryz.prog.cellsOf 190 = 1 := by kernel_rfl
theorem cells9' : Tryz.prog.cellsOf 9 = 1 := by kernel_rfl
theorem cells89 : Tryz.prog.cellsOf 160 = 1 := by kernel_rfl
theorem cells104 : Tryz.prog.cellsOf 175 = 20 := by kernel_rfl
theorem tab_eq : (Rows.laid_internal_strconv_uint64pow10 : DataW Unit) = Lib.tabData .u64 Lib.pow10Tab := by rfl

/-- What the listed variables give the walks. -/
theorem env_of_laid {W : World} (h : laidMetH Tryz.prog laid5 W) : Env W := by
  rw [MakeChecks.laidMetH_plain _ _ _ (by kernel_rfl)] at h
  have h2 := h.tail.tail
  refine ⟨?_, ?_, ?_⟩
  · rw [tab_eq] at h2
    exact Lib.tabIs_of_head named2 gP Tryz.underlying175 Tryz.underlying160 cells89 cells104 h2
  · obtain ⟨a, s, hv, _⟩ := laid_sentinel h2.tail.tail named0 gS Tryz.underlying149 row117 Tryz.underlying188 Tryz.underlying190 rfl rfl Tryz.underlying9 cells119 cells9'
    exact ⟨_, _, hv⟩
  · obtain ⟨a, s, hv, _⟩ := laid_sentinel h2.tail named1 gR Tryz.underlying149 row117 Tryz.underlying188 Tryz.underlying190 rfl rfl Tryz.underlying9 cells119 cells9'
    exact ⟨_, _, hv⟩
/-- There are more than three variables. -/
theorem size_of_env {W : World} (h : Env W) : 3 ≤ W.heap.size := by
  obtain ⟨_, _, ⟨tp, p, hv⟩⟩ := h
  simp only [World.var?, named1, Option.bind_some] at hv
  split at hv
  · rename_i hh
    have := (Array.getElem?_eq_some_iff.1 hh).1
    omega
  · cases hv

end Go.Proofs.YtomahbdidlglfacGreatDoor
