/- own: what is meant ('which'): func values that answer, 'among', 'not', 'of', walked. -/
import Derived.Test.YtomahbdidlglfacGreatDoorO1O2O3C9O4O5W6Rs
import Derived.RangeFuncNested
import Derived.RangeFuncBox
import Derived.RangeFuncLeaves
import Derived.Shelf.Abstract
import Derived.WalkKit
import Derived.OwnWalkIn
import Derived.TacticsInMore
import Derived.LoopNIn
import Derived.LoopIn
namespace Go.Proofs.YtomahbdidlglfacGreatDoor
open Go.RowKit Go.Maps Go.WideMaps

/-- A func value that answers p of each name, while the blocks of S stay. -/
def Is (S : Nat → Prop) (w : World) (v : Value) (p : ByteArray → Bool) : Prop :=
  ∃ f cap, v = .func (.func f) #[] cap ∧ (∀ args w, (callFunc f args).run Tryz.prog w = .ok (.enter f args) w) ∧
    ∀ W, Stays S S w W → ∀ x : ByteArray, x.size ≤ maxLen → Calls Tryz.prog f (#[.string x] ++ cap) W fun e w' => e = .returned (.bool (p x)) ∧ Fr No W w'

theorem Is.kept {S S' : Nat → Prop} {w w' : World} {v : Value} {p : ByteArray → Bool} (h : Is S w v p) (hs : Stays S S' w w') : Is S' w' v p := by
  obtain ⟨f, cap, h1, h2, h3⟩ := h
  refine ⟨f, cap, h1, h2, fun W hW x hx => h3 W ⟨Nat.le_trans hs.1 hW.1, fun g hg hl => ⟨hg, ?_⟩⟩ x hx⟩
  obtain ⟨a, b⟩ := hs.2 g hg hl
  exact (hW.2 g a (Nat.lt_of_lt_of_le hl hs.1)).2.trans b

theorem Is.ext {S : Nat → Prop} {w : World} {v : Value} {p q : ByteArray → Bool} (h : Is S w v p) (e : ∀ x, p x = q x) : Is S w v q := by
  rw [show q = p from funext fun x => (e x).symm]; exact h

theorem stays_of_fr {S : Nat → Prop} {w w' : World} (hf : Fr No w w') : Stays S S w w' := stays_fr hf (fun _ _ _ e => e) (fun _ h => h)

set_option maxHeartbeats 1000000 in
theorem among1_any (mb b K : Nat) (c : Pu.Cnt) (x : ByteArray) (w : World) (hm : w.heap[mb]? = some (.cells #[.map (some b)] 51 (0, 0))) (hc : CntAt w b K c) (hx : x.size ≤ maxLen) :
    Calls Tryz.prog 122 #[.string x, .pointer (some ⟨mb, 0, none⟩)] w fun e w' => e = .returned (.bool (decide (0 < c x))) ∧ Fr No w w' := by
  have h1 := look_cnt 51 Tryz.underlying51 hc hx
  have b1 : w.cell? ⟨mb, 0, none⟩ = some (.map (some b)) := by rw [cell_of_heap hm]; rfl
  have HD : decide ((0 : Int) < (c x : Int)) = decide (0 < c x) := by
    by_cases h : 0 < c x
    · rw [decide_eq_true h, decide_eq_true (by omega)]
    · rw [decide_eq_false h, decide_eq_false (by omega)]
  obtain ⟨n, hn⟩ : ∃ n, n = c x := ⟨_, rfl⟩
  rw [← hn] at h1 HD ⊢
  have H := hide HD
  clear hm hc HD hn
  go_enter Tryz.func122, Tryz.ntmps122
  go_wp2_with fail
  go_ret
  exact ⟨rfl, Fr.refl _ _⟩

set_option maxHeartbeats 2000000 in
theorem among_any (B : Nat) (v : Value) (l : List ByteArray) (w : World) (hl : Names B w v l) (hB : B ≤ w.heap.size) (hn : l.length ≤ 1099511627776) :
    Calls Tryz.prog 104 #[v] w fun e w' => ∃ u, e = .returned u ∧ Fr No w w' ∧ Is (New w w') w' u (Pu.has l) := by
  obtain ⟨a0, cp0, rfl, hcp1, hcp2⟩ := hl.1.form
  have hmf : ∀ (fn : Fn) (first cap : Array Value) (w : World), (Instr.makeFunc fn first cap).run Tryz.prog w = .ok (.func fn first cap) w := fun _ _ _ _ => rfl
  have hmm := @run_makeMap Tryz.prog
  have HL := hide hl
  have HB := hide hB
  have HN := hide hn
  obtain ⟨W0, hW0⟩ : ∃ W0, W0 = (w.alloc (.map #[] 0)).alloc (.cells #[.map (some w.heap.size)] 51) := ⟨_, rfl⟩
  have f0 : Fr No w W0 := by rw [hW0]; exact ((Fr.refl No w).alloc _).alloc _
  have c0 : CntAt W0 w.heap.size 0 (fun _ => 0) := by
    rw [hW0]
    have h : CntAt (w.alloc (.map #[] 0)) w.heap.size 0 (fun _ => 0) := ⟨_, MapC.made w, fun x => by simp⟩
    exact h.fr ((Fr.refl No _).alloc _) (fun e => e)
  have b0 : W0.heap[w.heap.size + 1]? = some (.cells #[.map (some w.heap.size)] 51 (0, 0)) := by
    have h := heap_alloc_new (w.alloc (.map #[] 0)) (.cells #[.map (some w.heap.size)] 51)
    rw [World.size_alloc, ← hW0] at h
    exact h
  have HW0 := hide hW0
  have F0 := hide f0
  have C0 := hide c0
  have B0 := hide b0
  clear hl hB hn hW0 f0 c0 b0
  go_enter Tryz.func104, Tryz.ntmps104
  go_wp2_with fail
  rw [← HW0.out]
  go_loopw [9] (fun i wr => ∃ k : Nat, k ≤ l.length ∧ i = .int .i64 k ∧ Fr (· = w.heap.size) W0 wr ∧ CntAt wr w.heap.size k (Pu.with' (fun _ => 0) (l.take k))) (fun i _ => l.length - (intOf i).toNat)
  case atStart => exact ⟨0, Nat.zero_le _, rfl, Fr.refl _ _, by rw [show Pu.with' (fun _ => 0) (l.take 0) = (fun _ => 0) from with_nil _]; exact C0.out⟩
  case round =>
    obtain ⟨k, hk, rfl, hf, hcn⟩ := hrel
    have b1 := fr_heap B0.out hf (fun e => by have e : w.heap.size + 1 = w.heap.size := e; omega)
    have q1 : wr.cell? ⟨w.heap.size + 1, 0, none⟩ = some (.map (some w.heap.size)) := by rw [cell_of_heap b1]; rfl
    have l1 := lt_of_heap b1
    have B1 := hide b1
    clear b1
    by_cases hlt : k < l.length
    · have hl1 : Names B wr (.slice a0 l.length cp0) l := HL.out.kept ((F0.out.old HB.out (fun _ _ e => e)).trans (hf.old (by have := F0.out.size; have := HB.out; omega) (fun i hi e => by have e : i = w.heap.size := e; have := HB.out; omega))) (Nat.le_refl _) (Nat.le_trans F0.out.size hf.size)
      obtain ⟨g, o, cp, hv, _, hg, hgw, hcell', hsz⟩ := hl1.at hlt
      injection hv with hv1 _ hv2
      subst hv1 hv2
      obtain ⟨m, ⟨kk, D, hkk, hown, hD⟩, hm⟩ := hcn
      have hkey := keyS hsz
      have hupd := hide (with_snoc (fun _ => 0) l k hlt)
      obtain ⟨cv, hlk, hat, hwc⟩ := hown.lookup_int law Tryz.underlying51 Tryz.underlying3 (zeroE _) hkey
      have hcv : cv = (Pu.with' (fun _ => 0) (l.take k) l[k] : Int) := by
        have := (hD _ hsz).1; rw [hat] at this; simp at this; rw [this]; exact hm _
      have hle : Pu.with' (fun _ => 0) (l.take k) l[k] ≤ 1099511627776 := by
        show 0 + (l.take k).countP (fun y => decide (y = l[k])) ≤ _
        have := List.countP_le_length (p := fun y => decide (y = l[k])) (l := l.take k)
        have h2 := HN.out
        rw [List.length_take] at this
        omega
      have HM := hide hm
      have HDD := hide hD
      have HF := hide hf
      have HCV := hide hcv
      have hn2 := HN.out
      have hcv1 : 0 ≤ cv := by omega
      have hcv2 : cv ≤ 1099511627776 := by omega
      clear hm hD hf hcv hat hl1
      generalize l[k] = x at *
      have i1 : (k : Int) < (l.length : Int) := by omega
      have i0 : (0 : Int) ≤ (k : Int) := by omega
      unfold maxLen at hcp2
      go_wp2_with (first
        | (at_mapUpdate; refine wpList_mapUpdate_own _ rfl _ _ _ 51 rfl 9 3 law Tryz.underlying51 _ w.heap.size kk _ rfl hown (by unfold maxLen; omega) _ _ _ rfl rfl hkey _ [] (plainElem_int Tryz.underlying3 (WalkArith.wf_i64 (by omega))) ?_; intro w1 hown1 hgrow1)
        | fail)
      go_wp2_with fail
      go_roundw
      case rel =>
        exact ⟨k + 1, by omega, by go_num, HF.out.grown hgrow1 (fun j hj => by cases hj; exact .inl rfl), by
          have := cnt_up hkk hown.isMap HDD.out HM.out hown1 (c' := Pu.with' (fun _ => 0) (l.take (k + 1))) (fun y hy => by rw [hupd.out]; simp [Ne.symm hy]) (by rw [hupd.out, HCV.out]; simp)
          exact this.mono (by omega)⟩
      case measure => simp [intOf]; omega
    · have hkl : k = l.length := by omega
      subst hkl
      rw [List.take_length] at hcn
      have HF := hide hf
      have HC := hide hcn
      clear hf hcn
      go_wp2_with fail
      go_ret
      have hfr : Fr No w wr := F0.out.trans' HF.out (fun i hi e => by have e : i = w.heap.size := e; omega)
      refine ⟨_, rfl, hfr, 122, #[.pointer (some ⟨w.heap.size + 1, 0, none⟩)], rfl, fun args w => Tryz.call122 args w, fun W hW x hx => ?_⟩
      have e1 := (hW.2 (w.heap.size + 1) ⟨by omega, l1⟩ l1).2.trans B1.out
      have l0 := HC.out.lt
      have e2 := HC.out.kept (hW.2 w.heap.size ⟨Nat.le_refl _, l0⟩ l0).2
      have r := among1_any (w.heap.size + 1) w.heap.size l.length (Pu.with' (fun _ => 0) l) x W e1 e2 hx
      refine r.mono ?_
      rintro e w' ⟨rfl, h⟩
      refine ⟨?_, h⟩
      congr 2
      unfold Pu.with' Pu.has
      by_cases h : 0 < 0 + l.countP (fun y => decide (y = x))
      · rw [decide_eq_true h]
        have h' : 0 < l.countP (fun y => decide (y = x)) := by omega
        rw [List.countP_pos_iff] at h'
        obtain ⟨y, hy, e⟩ := h'
        exact (List.any_eq_true.2 ⟨y, hy, e⟩).symm
      · rw [decide_eq_false h]
        cases hh : l.any (fun y => decide (y = x)) with
        | false => rfl
        | true =>
          obtain ⟨y, hy, e⟩ := List.any_eq_true.1 hh
          have : 0 < l.countP (fun y => decide (y = x)) := List.countP_pos_iff.2 ⟨y, hy, e⟩
          omega
end Go.Proofs.YtomahbdidlglfacGreatDoor

/- own: 'not', 'of', 'neededIn', walked. -/
namespace Go.Proofs.YtomahbdidlglfacGreatDoor
open Go.RowKit Go.Maps Go.WideMaps

set_option maxHeartbeats 1000000 in
theorem not1_any (S : Nat → Prop) (wb : Nat) (v : Value) (p : ByteArray → Bool) (x : ByteArray) (w : World) (hb : w.heap[wb]? = some (.cells #[v] 107 (0, 0))) (hi : Is S w v p) (hx : x.size ≤ maxLen) :
    Calls Tryz.prog 107 #[.string x, .pointer (some ⟨wb, 0, none⟩)] w fun e w' => e = .returned (.bool (!p x)) ∧ Fr No w w' := by
  obtain ⟨f, cap, rfl, eg, hc⟩ := hi
  have CI : Hid (∀ W, Fr No w W → Calls Tryz.prog f (#[.string x] ++ cap) W fun e w' => e = .returned (.bool (p x)) ∧ Fr No W w') := fun W hW => hc W (stays_of_fr hW) x hx
  have b1 : w.cell? ⟨wb, 0, none⟩ = some (.func (.func f) #[] cap) := by rw [cell_of_heap hb]; rfl
  obtain ⟨px, hpx⟩ : ∃ px, px = p x := ⟨_, rfl⟩
  rw [← hpx] at CI ⊢
  clear hc hb hpx
  go_enter Tryz.func107, Tryz.ntmps107
  go_wp2_with fail
  refine (CI.out _ (by first | exact Fr.refl _ _ | exact (Fr.refl _ _).drew)).mono ?_
  rintro e w1 ⟨rfl, hf⟩
  have F1 := hide hf
  clear hf
  go_wp2_with fail
  go_ret
  exact ⟨rfl, F1.out⟩

set_option maxHeartbeats 1000000 in
theorem not_any (v : Value) (p : ByteArray → Bool) (S : Nat → Prop) (w : World) (hi : Is S w v p) (hS : ∀ g, S g → g < w.heap.size) :
    Calls Tryz.prog 73 #[v] w fun e w' => ∃ u, e = .returned u ∧ Fr No w w' ∧ Is (fun g => S g ∨ New w w' g) w' u (fun x => !p x) := by
  obtain ⟨f, cap, rfl, eg, hc⟩ := id hi
  have hsf : ∀ (a : Addr) (fn : Fn) (x y : Array Value) (w : World), (store a (.func fn x y)).run Tryz.prog w = stored Tryz.prog w a (.func fn x y) .plain := fun a fn x y w => run_store Tryz.prog w a _ .plain rfl
  have hmf : ∀ (fn : Fn) (first cap : Array Value) (w : World), (Instr.makeFunc fn first cap).run Tryz.prog w = .ok (.func fn first cap) w := fun _ _ _ _ => rfl
  obtain ⟨W, hW⟩ : ∃ W, W = w.alloc (.cells #[.func (.func f) #[] cap] 107) := ⟨_, rfl⟩
  have fW : Fr No w W := by rw [hW]; exact (Fr.refl No w).alloc _
  have g0 : W.heap[w.heap.size]? = some (.cells #[.func (.func f) #[] cap] 107 (0, 0)) := by rw [hW]; exact heap_alloc_new w _
  have HW := hide hW
  have FW := hide fW
  have G0 := hide g0
  have HI := hide hi
  have HS := hide hS
  clear hi hc hS hW fW g0
  go_enter Tryz.func73, Tryz.ntmps73
  go_wp2_with fail
  go_ret
  rw [← HW.out]
  have lg := lt_of_heap G0.out
  refine ⟨_, rfl, FW.out, 107, #[.pointer (some ⟨w.heap.size, 0, none⟩)], rfl, fun args w => Tryz.call107 args w, fun V hV x hx => ?_⟩
  have e1 := (hV.2 w.heap.size (.inr ⟨Nat.le_refl _, lg⟩) lg).2.trans G0.out
  have hi2 : Is S V (.func (.func f) #[] cap) p := HI.out.kept ⟨Nat.le_trans FW.out.size hV.1, fun g hg hl => ⟨hg, (hV.2 g (.inl hg) (Nat.lt_of_lt_of_le hl FW.out.size)).2.trans (FW.out.block g hl (fun e => e))⟩⟩
  exact not1_any S w.heap.size _ p x V e1 hi2 hx

/-- A row of one's own, as a row in blocks of a set. -/
theorem own_rowX {S : Nat → Prop} {w : World} {base n : Nat} {v : Value} {xs : List Value} {e : TypeId} {sz : Nat} (h : w.ownsRow base e sz v n xs) (hS : ∀ g, base ≤ g → g < w.heap.size → S g) : RowS S w v n xs := by
  rcases h.2 with ⟨rfl, h0⟩ | ⟨g, cap, cur, rfl, h2, h3, h4, h5, h6⟩
  · exact ⟨none, 0, by rw [h0], by omega, Nat.zero_le _, fun h => absurd h (by omega)⟩
  · refine ⟨_, cap, rfl, h4, h5, fun _ => ⟨g, 0, rfl, hS g h2 (lt_of_heap h3), lt_of_heap h3, fun i _ => frozen_of_heap h3 _, fun i hi => ?_⟩⟩
    rw [Nat.zero_add]
    exact h.cellAt i (by rw [← h.1]; exact hi)
theorem own_names {w : World} {base n : Nat} {v : Value} {l : List ByteArray} {e : TypeId} {sz : Nat} (h : w.ownsRow base e sz v n (l.map .string)) (hn : n = l.length) (hs : Short l) : Names w.heap.size w v l := by
  subst hn
  exact ⟨(own_rowX (S := fun g => g < w.heap.size) h (fun _ _ h => h)).row (fun _ h => h), hs⟩
theorem own_namesS {S : Nat → Prop} {w : World} {base n : Nat} {v : Value} {l : List ByteArray} {e : TypeId} {sz : Nat} (h : w.ownsRow base e sz v n (l.map .string)) (hn : n = l.length) (hs : Short l) (hS : ∀ g, base ≤ g → g < w.heap.size → S g) : NamesS S w v l := by
  subst hn
  exact ⟨own_rowX h hS, hs⟩

/-- What is read of names by a filter. -/
theorem filter_take {p : ByteArray → Bool} {l : List ByteArray} {k : Nat} (h : k < l.length) : (l.take (k + 1)).filter p = (l.take k).filter p ++ if p l[k] = true then [l[k]] else [] := by
  rw [List.take_succ_eq_append_getElem h, List.filter_append]
  congr 1
  by_cases e : p l[k] = true <;> simp [e]

theorem ownsRow_one (w : World) (x : ByteArray) : (w.alloc (.cells #[.string x] 9)).cell? ⟨w.heap.size, 0, none⟩ = some (.string x) := by
  rw [cell_of_heap (heap_alloc_new w _)]; rfl

theorem names_new (w : World) (x : ByteArray) (hx : x.size ≤ maxLen) : Names (w.heap.size + 1) (w.alloc (.cells #[.string x] 9)) (.slice (some ⟨w.heap.size, 0, none⟩) 1 1) [x] :=
  ⟨⟨_, 1, rfl, Nat.le_refl _, by unfold maxLen; decide, fun _ => ⟨w.heap.size, 0, rfl, Nat.lt_succ_self _, by rw [World.size_alloc]; omega, fun i hi => by
    have : i = 0 := by simpa using hi
    subst this
    exact ownsRow_one w x⟩⟩, fun y hy => by rw [List.mem_singleton.1 hy]; exact hx⟩

set_option maxHeartbeats 2000000 in
theorem of_any (S : Nat → Prop) (B : Nat) (u v : Value) (p : ByteArray → Bool) (l : List ByteArray) (w : World) (hi : Is S w u p) (hl : Names B w v l) (hB : B ≤ w.heap.size) (hn : l.length ≤ 1099511627776) :
    Calls Tryz.prog 74 #[u, v] w fun e w' => ∃ r, e = .returned r ∧ Fr No w w' ∧ w'.ownsRow w.heap.size 9 1 r (l.filter p).length ((l.filter p).map .string) := by
  obtain ⟨a0, cp0, rfl, hcp1, hcp2⟩ := hl.1.form
  obtain ⟨f, cap, rfl, eg, hc⟩ := id hi
  obtain ⟨i0, hif, hz0, hz1, hz2⟩ := info_parts Tryz.info9
  have HL := hide hl
  have HB := hide hB
  have HN := hide hn
  have HI := hide hi
  have CI : Hid (∀ W, Fr No w W → ∀ x : ByteArray, x.size ≤ maxLen → Calls Tryz.prog f (#[.string x] ++ cap) W fun e w' => e = .returned (.bool (p x)) ∧ Fr No W w') := fun W hW x hx => hc W (stays_of_fr hW) x hx
  clear hl hB hn hi hc
  go_enter Tryz.func74, Tryz.ntmps74
  go_wp2_with fail
  go_loopw [5, 10] (fun r i wr => ∃ k : Nat, k ≤ l.length ∧ i = .int .i64 k ∧ Fr No w wr ∧ wr.ownsRow w.heap.size 9 1 r ((l.take k).filter p).length (((l.take k).filter p).map .string)) (fun _ i _ => l.length - (intOf i).toNat)
  case atStart => exact ⟨0, Nat.zero_le _, rfl, Fr.refl _ _, World.ownsRow_nil _ _ _ _⟩
  case round =>
    obtain ⟨k, hk, rfl, hf, hrow⟩ := hrel
    obtain ⟨ra, rc, rfl⟩ := row_form hrow
    by_cases hlt : k < l.length
    · have hl1 : Names B wr (.slice a0 l.length cp0) l := HL.out.kept (hf.old HB.out (fun _ _ e => e)) (Nat.le_refl _) hf.size
      obtain ⟨g, o, cp, hv, _, hg, hgw, hcell', hsz⟩ := hl1.at hlt
      injection hv with hv1 _ hv2
      subst hv1 hv2
      have hft := filter_take (p := p) hlt
      have hfl : ((l.take k).filter p).length ≤ k := by
        have h1 := List.length_filter_le p (l.take k)
        rw [List.length_take] at h1
        omega
      obtain ⟨x, hx⟩ : ∃ x, x = l[k] := ⟨_, rfl⟩
      rw [← hx] at hcell' hsz hft
      obtain ⟨acc, hacc⟩ : ∃ acc, acc = (l.take k).filter p := ⟨_, rfl⟩
      rw [← hacc] at hrow hft hfl ⊢
      have HX := hide hsz
      have HFT := hide hft
      have HF := hide hf
      have HR := hide hrow
      have hnl := HN.out
      have hal : acc.length ≤ 1099511627776 := by omega
      clear hsz hft hf hl1 hx hacc hrow
      have i1 : (k : Int) < (l.length : Int) := by omega
      have i0' : (0 : Int) ≤ (k : Int) := by omega
      unfold maxLen at hcp2
      go_wp2_with fail
      refine (CI.out _ HF.out x HX.out).mono ?_
      rintro e w1 ⟨rfl, hf1⟩
      have F1 := hide (HF.out.trans hf1)
      have hrow1 := row_fr HR.out hf1 (fun _ _ e => e)
      have s1 := (HF.out.trans hf1).size
      clear hf1
      by_cases hp : p x = true
      · rw [hp]
        have hft2 := HFT.out
        rw [if_pos hp] at hft2
        have HF2 := hide hft2
        clear hft2 hp hcell'
        go_wp2_with (first
          | (at_builtin; refine wpList_append_own_at _ rfl _ _ 28 rfl w.heap.size 9 i0 (.string ⟨#[]⟩) 1 16 Tryz.underlying28 hif hz0 hz1 hz2 rfl (by decide) _ _ _ rfl (hrow1.alloc _) ⟨w1.heap.size, 0, none⟩ 1 1 [.string x] rfl rfl (cell_one_new _ _ _) (by simp [Value.oneCell']) (by unfold maxLen; omega) (by omega) (by simp; omega) ?_; intro v' w2 hown' hgrow2 hnil hloc; obtain ⟨a', c', rfl⟩ := row_form hown')
          | fail)
        go_wp2_with fail
        go_roundw
        case rel =>
          refine ⟨k + 1, by omega, by go_num, ?_, ?_⟩
          · exact (F1.out.alloc _).grown hgrow2 (fun j hj => .inr ((hrow1.lt j hj).1))
          · rw [HF2.out, List.length_append, List.map_append]
            simpa using hown'
        case measure => simp [intOf]; omega
      · have hp' : p x = false := by simpa using hp
        rw [hp']
        have hft2 := HFT.out
        rw [if_neg hp, List.append_nil] at hft2
        have HF2 := hide hft2
        have HR1 := hide hrow1
        clear hft2 hp hp' hcell' hrow1
        go_wp2_with fail
        go_roundw
        case rel =>
          refine ⟨k + 1, by omega, by go_num, F1.out, ?_⟩
          rw [HF2.out]
          exact HR1.out
        case measure => simp [intOf]; omega
    · have hkl : k = l.length := by omega
      subst hkl
      rw [List.take_length] at hrow ⊢
      have HR := hide hrow
      have HF := hide hf
      clear hf hrow
      go_wp2_with fail
      go_ret
      exact ⟨_, rfl, HF.out, HR.out⟩

set_option maxHeartbeats 1000000 in
theorem needed_any (k B : Nat) (w : World) (cs : List Value) (t : Pu.TT k) (ht : RT k B w cs t) (hB : B ≤ w.heap.size) (hw : Pu.wt k t ≤ 1073741824) :
    Calls Tryz.prog 71 #[.agg cs.toArray] w fun e w' => ∃ u, e = .returned u ∧ Fr No w w' ∧ Is (New w w') w' u (Pu.has (Pu.free k t)) := by
  obtain ⟨kd, n, x, y, a0, n0, c0, a1, n1, c1, a2, n2, c2, rfl⟩ := ht.form
  have fl := needs_length k (fun _ => 0) t []
  have CF : Hid (∀ o, Calls Tryz.prog 105 #[.agg #[.int .i64 kd, .int .i64 n, .string x, .string y, .slice a0 n0 c0, .slice a1 n1 c1, .slice a2 n2 c2]] (w.alloc o) fun e w' => ∃ v, e = .returned v ∧ Fr No (w.alloc o) w' ∧ w'.ownsRow (w.alloc o).heap.size 9 1 v (Pu.free k t).length ((Pu.free k t).map .string) ∧ Short (Pu.free k t)) := fun o =>
    free_any k B (w.alloc o) _ t (ht.old (((Fr.refl No w).alloc o).old hB (fun _ _ e => e)) ((Fr.refl No w).alloc o).size) (Nat.le_trans hB ((Fr.refl No w).alloc o).size) hw
  have HT := hide ht
  have FL : Hid ((Pu.free k t).length ≤ 1073741824) := Nat.le_trans fl (by simpa using hw)
  show Calls Tryz.prog 71 #[.agg #[.int .i64 kd, .int .i64 n, .string x, .string y, .slice a0 n0 c0, .slice a1 n1 c1, .slice a2 n2 c2]] w _
  clear ht fl
  go_enter Tryz.func71, Tryz.ntmps71
  go_wp2_with fail
  refine (CF.out _).mono ?_
  rintro e w1 ⟨v, rfl, hf1, hr1, hs1⟩
  obtain ⟨ra, rc, rfl⟩ := row_form hr1
  have F1 := hide (((Fr.refl No w).alloc _).trans hf1)
  have hnm : Names w1.heap.size w1 (.slice ra (Pu.free k t).length rc) (Pu.free k t) := own_names hr1 rfl hs1
  have CA := hide (among_any w1.heap.size _ (Pu.free k t) w1 hnm (Nat.le_refl _) (by have := FL.out; omega))
  clear hf1 hr1 hs1 hnm CF
  go_wp2_with fail
  refine CA.out.mono ?_
  rintro e w2 ⟨u, rfl, hf2, hi2⟩
  obtain ⟨f, cap, rfl, eg⟩ : ∃ f cap, u = .func (.func f) #[] cap ∧ True := by obtain ⟨f, cap, h, _⟩ := hi2; exact ⟨f, cap, h, trivial⟩
  have H2 := hide (And.intro hf2 hi2)
  clear hf2 hi2
  go_wp2_with fail
  go_ret
  exact ⟨_, rfl, F1.out.trans H2.out.1, H2.out.2.kept ⟨Nat.le_refl _, fun g hg _ => ⟨⟨Nat.le_trans F1.out.size hg.1, hg.2⟩, rfl⟩⟩⟩
end Go.Proofs.YtomahbdidlglfacGreatDoor

/- own: 'slices.Backward' at names: what it hands to a loop's body. -/
namespace Go.Proofs.YtomahbdidlglfacGreatDoor
open Go.RowKit Go.Shelf

attribute [local go_sem] Oper.semAt_some

/-- A name that a list can hold. -/
abbrev Nm := { x : ByteArray // x.size ≤ maxLen }
/-- What comes of a list, from its end on, when k rounds are over. -/
def bk (l : List Nm) (k : Nat) : List (Nat × Nm) := (List.range k).map fun j => (l.length - 1 - j, l.getD (l.length - 1 - j) ⟨⟨#[]⟩, by decide⟩)
theorem bk_succ (l : List Nm) (k : Nat) : bk l (k + 1) = bk l k ++ [(l.length - 1 - k, l.getD (l.length - 1 - k) ⟨⟨#[]⟩, by decide⟩)] := by simp [bk, List.range_succ]
theorem bk_length (l : List Nm) (k : Nat) : (bk l k).length = k := by simp [bk]
theorem bk_all (l : List Nm) : (bk l l.length).map (fun x => x.2) = l.reverse := by
  apply List.ext_getElem
  · simp [bk]
  · intro i h1 h2
    have hi : i < l.length := by simpa [bk] using h1
    have hj : l.length - 1 - i < l.length := by omega
    simp [bk, hj]

/-- What a round keeps: what lay below n₀, and the box of the list. -/
def KB (n₀ Bs : Nat) (W W' : World) : Prop := Below n₀ W W' ∧ ∀ v, W.cell? ⟨Bs, 0, none⟩ = some v → W'.cell? ⟨Bs, 0, none⟩ = some v
theorem KB.refl (n₀ Bs : Nat) (W : World) : KB n₀ Bs W W := ⟨Below.refl _ _, fun _ h => h⟩
theorem KB.trans {n₀ Bs : Nat} {A B C : World} (h : KB n₀ Bs A B) (k : KB n₀ Bs B C) : KB n₀ Bs A C := ⟨h.1.trans k.1, fun v hv => k.2 v (h.2 v hv)⟩
theorem KB.b {n₀ Bs : Nat} {w : World} (hn : n₀ ≤ w.heap.size) (W : World) (l : Nat) (o o' : Obj) (hl : w.heap.size ≤ l) (h : W.heap[l]? = some o) (hc : o.isCells = false) (hk : o.isWalk = false) : KB n₀ Bs W (W.putObj l o') :=
  ⟨belowK_b hn W l o o' hl h hc hk, fun v hv => cell_kept hv (grownBy_putObj' W l o') (fun r e => by cases e; exact ⟨o, h, hc⟩)⟩

set_option maxRecDepth 100000 in
set_option maxHeartbeats 2000000 in
theorem back1_in (F : Fence) (n : Nat) (h7 : F.fn 125) (hro : F.round = none) (hn : 1 ≤ n) (q Bs n₀ b off cap : Nat) (l : List Nm) (hreach : l.length ≤ 1099511627776) (hb : b < n₀) (J Jx : List (Nat × Nm) → World → Prop)
    (hY : ∀ pre x W, J pre W → pre.length < l.length → YieldAt F (n - 1) Tryz.prog q #[.int .i64 (x.1 : Int), .string x.2.1] W fun e W' =>
      (e = .returned (.bool true) ∧ J (pre ++ [x]) W' ∧ KB n₀ Bs W W') ∨ (e = .returned (.bool false) ∧ Jx (pre ++ [x]) W'))
    (W : World) (hBs : W.cell? ⟨Bs, 0, none⟩ = some (.slice (some ⟨b, off, none⟩) l.length cap)) (hc : ∀ j, j < l.length → W.cell? ⟨b, off + j, none⟩ = some (.string (l.getD j ⟨⟨#[]⟩, by decide⟩).1)) (h0 : J [] W) :
    CallsIn F n Tryz.prog 125 #[.func (.yield q) #[] #[], .pointer (some ⟨Bs, 0, none⟩)] W fun e W' => (∃ v, e = .returned v) ∧
      ((∃ ys, ys = bk l l.length ∧ J ys W') ∨ (∃ pre, (∃ k, k ≤ l.length ∧ pre = bk l k) ∧ Jx pre W')) := by
  refine callsIn_of_wp Tryz.func125 rfl h7 ?_ hro
  simp only [Tryz.ntmps125, List.size_toArray, List.length_cons, List.length_nil, Nat.reduceAdd, Nat.reduceSub, Array.replicate_succ, Array.replicate_zero, List.push_toArray, List.append_toArray, List.nil_append, List.cons_append]
  gi_wp2
  gi_loopw [3] (fun i wr => ∃ k : Nat, k ≤ l.length ∧ i = .int .i64 ((l.length : Int) - 1 - k) ∧ J (bk l k) wr ∧ KB n₀ Bs W wr)
    (fun i _ => (intOf i + 1).toNat)
  case atStart => exact ⟨0, Nat.zero_le _, by simp, h0, KB.refl _ _ _⟩
  case round =>
    obtain ⟨k, hk, rfl, hJs, hnx⟩ := hrel
    have hBs' := hnx.2 _ hBs
    by_cases hlt : k < l.length
    · have hcx : wr.cell? ⟨b, off + (l.length - 1 - k), none⟩ = some (.string (l.getD (l.length - 1 - k) ⟨⟨#[]⟩, by decide⟩).1) := (hnx.1.cell (p := ⟨b, off + (l.length - 1 - k), none⟩) hb).trans (hc _ (by omega))
      obtain ⟨fn, tmps, assign, body, hy, hR⟩ := hY _ (l.length - 1 - k, l.getD (l.length - 1 - k) ⟨⟨#[]⟩, by decide⟩) wr hJs (by rw [bk_length]; exact hlt)
      dsimp only at hy hR
      obtain ⟨m, hm⟩ : ∃ m : Nat, m = l.length - 1 - k := ⟨_, rfl⟩
      rw [← hm] at hcx hy hR
      obtain ⟨x, hx⟩ : ∃ x : Nm, x = l.getD m ⟨⟨#[]⟩, by decide⟩ := ⟨_, rfl⟩
      rw [← hx] at hcx hy hR
      have HXX := hide hx
      have hmi : (l.length : Int) - 1 - k = (m : Int) := by omega
      rw [hmi]
      have hml : m < l.length := by omega
      have HM := hide hm
      have HMI := hide hmi
      have HX := hide hnx
      clear hm hmi hnx hlt hx
      have m1 : (m : Int) < (l.length : Int) := by omega
      have m0 : (0 : Int) ≤ (m : Int) := by omega
      gi_wp2
      refine hR.mono ?_
      rintro e W3 (⟨rfl, hJ3, hk3⟩ | ⟨rfl, hJx3⟩)
      · gi_wp2
        go_roundw
        case rel =>
          have h1 := HM.out
          have h2 := HMI.out
          exact ⟨k + 1, by omega, by
            have e : (l.length : Int) - 1 - ((k + 1 : Nat) : Int) = (m : Int) - 1 := by omega
            rw [e], by rw [bk_succ, ← h1, ← HXX.out]; exact hJ3, HX.out.trans hk3⟩
        case measure => simp [intOf] <;> omega
      · gi_wp2
        refine bodyPost_ret (results_none rfl _ _ _) rfl ?_
        exact ⟨⟨_, rfl⟩, .inr ⟨_, ⟨k + 1, by have h1 := HM.out; have h2 := HMI.out; omega, by rw [bk_succ, ← HM.out, ← HXX.out]⟩, hJx3⟩⟩
    · obtain rfl : k = l.length := by omega
      have hmi : (l.length : Int) - 1 - (l.length : Int) = -1 := by omega
      rw [hmi]
      gi_wp2
      go_end0
      exact ⟨⟨_, rfl⟩, .inl ⟨_, rfl, hJs⟩⟩

set_option maxRecDepth 100000 in
set_option maxHeartbeats 1000000 in
theorem back1_nil_in (F : Fence) (n : Nat) (h7 : F.fn 125) (hro : F.round = none) (q Bs : Nat) (sa : Option Addr) (cap : Nat) (J : List (Nat × Nm) → World → Prop) (W : World) (hBs : W.cell? ⟨Bs, 0, none⟩ = some (.slice sa 0 cap)) (h0 : J [] W) :
    CallsIn F n Tryz.prog 125 #[.func (.yield q) #[] #[], .pointer (some ⟨Bs, 0, none⟩)] W fun e W' => (∃ v, e = .returned v) ∧ J [] W' := by
  refine callsIn_of_wp Tryz.func125 rfl h7 ?_ hro
  simp only [Tryz.ntmps125, List.size_toArray, List.length_cons, List.length_nil, Nat.reduceAdd, Nat.reduceSub, Array.replicate_succ, Array.replicate_zero, List.push_toArray, List.append_toArray, List.nil_append, List.cons_append]
  gi_wp2
  gi_loopw [3] (fun i wr => i = .int .i64 (-1) ∧ J [] wr) (fun _ _ => 0)
  case atStart => exact ⟨rfl, h0⟩
  case round =>
    obtain ⟨rfl, hJs⟩ := hrel
    gi_wp2
    go_end0
    exact ⟨⟨_, rfl⟩, hJs⟩

set_option maxHeartbeats 1000000 in
theorem back_in (F : Fence) (n : Nat) (h5 : F.fn 106) (hro : F.round = none) (a : Option Addr) (len cap : Nat) (w : World) :
    CallsIn F n Tryz.prog 106 #[.slice a len cap] w fun e w' => e = .returned (.func (.func 125) #[] #[.pointer (some ⟨w.heap.size, 0, none⟩)]) ∧ w' = w.alloc (.cells #[.slice a len cap] 28) := by
  refine callsIn_of_wp Tryz.func106 rfl h5 ?_ hro
  simp only [Tryz.ntmps106, List.size_toArray, List.length_cons, List.length_nil, Nat.reduceAdd, Nat.reduceSub, Array.replicate_succ, Array.replicate_zero, List.push_toArray, List.append_toArray, List.nil_append, List.cons_append]
  gi_wp2
  go_ret
  exact ⟨rfl, rfl⟩

/-- A list of names, in blocks below n₀. -/
def NmAt (n₀ : Nat) (W : World) (v : Value) (l : List Nm) : Prop :=
  ∃ a cap, v = .slice a l.length cap ∧ (0 < l.length → ∃ b off, a = some ⟨b, off, none⟩ ∧ b < n₀ ∧ ∀ j, j < l.length → W.cell? ⟨b, off + j, none⟩ = some (.string (l.getD j ⟨⟨#[]⟩, by decide⟩).1))
theorem NmAt.below {n₀ : Nat} {A B : World} (h : Below n₀ A B) {v : Value} {l : List Nm} (k : NmAt n₀ A v l) : NmAt n₀ B v l := by
  obtain ⟨a, cap, e, h2⟩ := k
  refine ⟨a, cap, e, fun h0 => ?_⟩
  obtain ⟨b, off, e2, hb, hc⟩ := h2 h0
  exact ⟨b, off, e2, hb, fun j hj => (h.cell (p := ⟨b, off + j, none⟩) hb).trans (hc j hj)⟩

theorem back_stops (F : Fence) (n : Nat) (h7 : F.fn 125) (hro : F.round = none) (hn : 1 ≤ n) (Bs n₀ : Nat) (sv : Value) (l : List Nm) (hreach : l.length ≤ 1099511627776) (w : World) (hBs : Bs < w.heap.size) (hn₀ : n₀ ≤ w.heap.size)
    (hc : w.cell? ⟨Bs, 0, none⟩ = some sv) (hI : NmAt n₀ w sv l) :
    SeqStopsK F n Tryz.prog 125 #[.pointer (some ⟨Bs, 0, none⟩)] (fun x : Nat × Nm => #[Value.int .i64 (x.1 : Int), Value.string x.2.1]) (KB n₀ Bs) (fun ys => ys = bk l l.length)
      (fun pre => ∃ k, k ≤ l.length ∧ pre = bk l k) l.length w := fun q J Jx W hW _ _ hY h0 => by
  have hc' := (hW.cell (p := ⟨Bs, 0, none⟩) hBs).trans hc
  obtain ⟨a, cap, rfl, h2⟩ := hI.below (hW.mono hn₀)
  rcases Nat.eq_zero_or_pos l.length with hl | hl
  · have e : l = [] := List.length_eq_zero_iff.1 hl
    subst e
    exact (back1_nil_in F n h7 hro q Bs a cap J W hc' h0).mono fun e W' ⟨he, hj⟩ => ⟨he, .inl ⟨_, rfl, hj⟩⟩
  · obtain ⟨b, off, rfl, hb, hcs⟩ := h2 hl
    exact back1_in F n h7 hro hn q Bs n₀ b off cap l hreach hb J Jx hY W hc' hcs h0
end Go.Proofs.YtomahbdidlglfacGreatDoor
