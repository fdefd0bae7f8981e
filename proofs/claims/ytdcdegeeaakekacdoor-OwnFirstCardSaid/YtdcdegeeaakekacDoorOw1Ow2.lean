/- own: what is meant ('which'): func values that answer, 'among', 'not', 'of', walked. -/
import Derived.Test.YtdcdegeeaakekacDoorS1RsKh
namespace Go.Proofs.YtdcdegeeaakekacDoor
open Go.RowKit Go.Maps Go.WideMaps

/-- A func value that answers p of each name, while the blocks of S stay. -/
def Is (S : Nat → Prop) (w : World) (v : Value) (p : ByteArray → Bool) : Prop :=
  ∃ f cap, v = .func (.func f) #[] cap ∧ (∀ args w, (callFunc f args).run Tryd.prog w = .ok (.enter f args) w) ∧
    ∀ W, Stays S S w W → ∀ x : ByteArray, x.size ≤ maxLen → Calls Tryd.prog f (#[.string x] ++ cap) W fun e w' => e = .returned (.bool (p x)) ∧ Fr No W w'

theorem Is.kept {S S' : Nat → Prop} {w w' : World} {v : Value} {p : ByteArray → Bool} (h : Is S w v p) (hs : Stays S S' w w') : Is S' w' v p := by
  obtain ⟨f, cap, h1, h2, h3⟩ := h
  refine ⟨f, cap, h1, h2, fun W hW x hx => h3 W ⟨Nat.le_trans hs.1 hW.1, fun g hg hl => ⟨hg, ?_⟩⟩ x hx⟩
  obtain ⟨a, b⟩ := hs.2 g hg hl
  exact (hW.2 g a (Nat.lt_of_lt_of_le hl hs.1)).2.trans b

theorem Is.ext {S : Nat → Prop} {w : World} {v : Value} {p q : ByteArray → Bool} (h : Is S w v p) (e : ∀ x, p x = q x) : Is S w v q := by
  rw [show q = p from funext fun x => (e x).symm]; exact h

theorem stays_of_fr {S : Nat → Prop} {w w' : World} (hf : Fr No w w') : Stays S S w w' := stays_fr hf (fun _ _ _ e => e) (fun _ h => h)

set_option maxHeartbeats 1000000 in
theorem among1_any (mb b K : Nat) (c : Pu.Cnt) (x : ByteArray) (w : World) (hm : w.heap[mb]? = some (.cells #[.map (some b)] 54 (0, 0))) (hc : CntAt w b K c) (hx : x.size ≤ maxLen) :
    Calls Tryd.prog 109 #[.string x, .pointer (some ⟨mb, 0, none⟩)] w fun e w' => e = .returned (.bool (decide (0 < c x))) ∧ Fr No w w' := by
  have h1 := look_cnt 54 Tryd.underlying54 hc hx
  have b1 : w.cell? ⟨mb, 0, none⟩ = some (.map (some b)) := by rw [cell_of_heap hm]; rfl
  have HD : decide ((0 : Int) < (c x : Int)) = decide (0 < c x) := by
    by_cases h : 0 < c x
    · rw [decide_eq_true h, decide_eq_true (by omega)]
    · rw [decide_eq_false h, decide_eq_false (by omega)]
  obtain ⟨n, hn⟩ : ∃ n, n = c x := ⟨_, rfl⟩
  rw [← hn] at h1 HD ⊢
  have H := hide HD
  clear hm hc HD hn
  go_enter Tryd.func109, Tryd.ntmps109
  go_wp2_with fail
  go_ret
  exact ⟨rfl, Fr.refl _ _⟩

theorem fr_map_alloc (w : World) (o : Obj) : Fr No w (w.alloc o) := (Fr.refl No w).alloc o

set_option maxHeartbeats 2000000 in
theorem among_any (B : Nat) (v : Value) (l : List ByteArray) (w : World) (hl : Names B w v l) (hB : B ≤ w.heap.size) (hn : l.length ≤ 1099511627776) :
    Calls Tryd.prog 86 #[v] w fun e w' => ∃ u, e = .returned u ∧ Fr No w w' ∧ Is (New w w') w' u (Pu.has l) := by
  obtain ⟨a0, cp0, rfl, hcp1, hcp2⟩ := hl.1.form
  have hmf : ∀ (fn : Fn) (first cap : Array Value) (w : World), (Instr.makeFunc fn first cap).run Tryd.prog w = .ok (.func fn first cap) w := fun _ _ _ _ => rfl
  have hmm := @run_makeMap Tryd.prog
  have HL := hide hl
  have HB := hide hB
  have HN := hide hn
  obtain ⟨W0, hW0⟩ : ∃ W0, W0 = (w.alloc (.map #[] 0)).alloc (.cells #[.map (some w.heap.size)] 54) := ⟨_, rfl⟩
  have f0 : Fr No w W0 := by rw [hW0]; exact ((Fr.refl No w).alloc _).alloc _
  have c0 : CntAt W0 w.heap.size 0 (fun _ => 0) := by
    rw [hW0]
    have h : CntAt (w.alloc (.map #[] 0)) w.heap.size 0 (fun _ => 0) := ⟨_, MapC.made w, fun x => by simp⟩
    exact h.fr ((Fr.refl No _).alloc _) (fun e => e)
  have b0 : W0.heap[w.heap.size + 1]? = some (.cells #[.map (some w.heap.size)] 54 (0, 0)) := by
    have h := heap_alloc_new (w.alloc (.map #[] 0)) (.cells #[.map (some w.heap.size)] 54)
    rw [World.size_alloc, ← hW0] at h
    exact h
  have HW0 := hide hW0
  have F0 := hide f0
  have C0 := hide c0
  have B0 := hide b0
  clear hl hB hn hW0 f0 c0 b0
  go_enter Tryd.func86, Tryd.ntmps86
  go_wp2_with fail
  rw [← HW0.out]
  go_loopw [9] (fun i wr => ∃ k : Nat, k ≤ l.length ∧ i = .int .i64 k ∧ Fr (· = w.heap.size) W0 wr ∧ CntAt wr w.heap.size k (Pu.with' (fun _ => 0) (l.take k))) (fun i _ => l.length - (intOf i).toNat)
  case atStart => exact ⟨0, Nat.zero_le _, rfl, Fr.refl _ _, by rw [show Pu.with' (fun _ => 0) (l.take 0) = (fun _ => 0) from with_nil _]; exact C0.out⟩
  case round =>
    obtain ⟨k, hk, rfl, hf, hcn⟩ := hrel
    have b1 := fr_heap B0.out hf (fun e => by have e : w.heap.size + 1 = w.heap.size := e; omega)
    have q1 : wr.cell? ⟨w.heap.size + 1, 0, none⟩ = some (.map (some w.heap.size)) := by rw [cell_of_heap b1]; rfl
    have l1 := lt_of_heap b1
    have B1 := hide b1
    clear b1
    by_cases hlt : k < l.length
    · have hl1 : Names B wr (.slice a0 l.length cp0) l := HL.out.kept ((F0.out.old HB.out (fun _ _ e => e)).trans (hf.old (by have := F0.out.size; have := HB.out; omega) (fun i hi e => by have e : i = w.heap.size := e; have := HB.out; omega))) (Nat.le_refl _) (Nat.le_trans F0.out.size hf.size)
      obtain ⟨g, o, cp, hv, _, hg, hgw, hcell', hsz⟩ := hl1.at hlt
      injection hv with hv1 _ hv2
      subst hv1 hv2
      obtain ⟨m, ⟨kk, D, hkk, hown, hD⟩, hm⟩ := hcn
      have hkey := keyS hsz
      have hupd := hide (with_snoc (fun _ => 0) l k hlt)
      obtain ⟨cv, hlk, hat, hwc⟩ := hown.lookup_int law Tryd.underlying54 Tryd.underlying3 (zeroE _) hkey
      have hcv : cv = (Pu.with' (fun _ => 0) (l.take k) l[k] : Int) := by
        have := (hD _ hsz).1; rw [hat] at this; simp at this; rw [this]; exact hm _
      have hle : Pu.with' (fun _ => 0) (l.take k) l[k] ≤ 1099511627776 := by
        show 0 + (l.take k).countP (fun y => decide (y = l[k])) ≤ _
        have := List.countP_le_length (p := fun y => decide (y = l[k])) (l := l.take k)
        have h2 := HN.out
        rw [List.length_take] at this
        omega
      have HM := hide hm
      have HDD := hide hD
      have HF := hide hf
      have HCV := hide hcv
      have hn2 := HN.out
      have hcv1 : 0 ≤ cv := by omega
      have hcv2 : cv ≤ 1099511627776 := by omega
      clear hm hD hf hcv hat hl1
      generalize l[k] = x at *
      have i1 : (k : Int) < (l.length : Int) := by omega
      have i0 : (0 : Int) ≤ (k : Int) := by omega
      unfold maxLen at hcp2
      go_wp2_with (first
        | (at_mapUpdate; refine wpList_mapUpdate_own _ rfl _ _ _ 54 rfl 9 3 law Tryd.underlying54 _ w.heap.size kk _ rfl hown (by unfold maxLen; omega) _ _ _ rfl rfl hkey _ [] (plainElem_int Tryd.underlying3 (WalkArith.wf_i64 (by omega))) ?_; intro w1 hown1 hgrow1)
        | fail)
      go_wp2_with fail
      go_roundw
      case rel =>
        exact ⟨k + 1, by omega, by go_num, HF.out.grown hgrow1 (fun j hj => by cases hj; exact .inl rfl), by
          have := cnt_up hkk hown.isMap HDD.out HM.out hown1 (c' := Pu.with' (fun _ => 0) (l.take (k + 1))) (fun y hy => by rw [hupd.out]; simp [Ne.symm hy]) (by rw [hupd.out, HCV.out]; simp)
          exact this.mono (by omega)⟩
      case measure => simp [intOf]; omega
    · have hkl : k = l.length := by omega
      subst hkl
      rw [List.take_length] at hcn
      have HF := hide hf
      have HC := hide hcn
      clear hf hcn
      go_wp2_with fail
      go_ret
      have hfr : Fr No w wr := F0.out.trans' HF.out (fun i hi e => by have e : i = w.heap.size := e; omega)
      refine ⟨_, rfl, hfr, 109, #[.pointer (some ⟨w.heap.size + 1, 0, none⟩)], rfl, fun args w => Tryd.call109 args w, fun W hW x hx => ?_⟩
      have e1 := (hW.2 (w.heap.size + 1) ⟨by omega, l1⟩ l1).2.trans B1.out
      have l0 := HC.out.lt
      have e2 := HC.out.kept (hW.2 w.heap.size ⟨Nat.le_refl _, l0⟩ l0).2
      have r := among1_any (w.heap.size + 1) w.heap.size l.length (Pu.with' (fun _ => 0) l) x W e1 e2 hx
      refine r.mono ?_
      rintro e w' ⟨rfl, h⟩
      refine ⟨?_, h⟩
      congr 2
      unfold Pu.with' Pu.has
      by_cases h : 0 < 0 + l.countP (fun y => decide (y = x))
      · rw [decide_eq_true h]
        have h' : 0 < l.countP (fun y => decide (y = x)) := by omega
        rw [List.countP_pos_iff] at h'
        obtain ⟨y, hy, e⟩ := h'
        exact (List.any_eq_true.2 ⟨y, hy, e⟩).symm
      · rw [decide_eq_false h]
        cases hh : l.any (fun y => decide (y = x)) with
        | false => rfl
        | true =>
          obtain ⟨y, hy, e⟩ := List.any_eq_true.1 hh
          have : 0 < l.countP (fun y => decide (y = x)) := List.countP_pos_iff.2 ⟨y, hy, e⟩
          omega
end Go.Proofs.YtdcdegeeaakekacDoor

/- own: 'not', 'of', 'neededIn', walked. -/
namespace Go.Proofs.YtdcdegeeaakekacDoor
open Go.RowKit Go.Maps Go.WideMaps

set_option maxHeartbeats 1000000 in
theorem not1_any (S : Nat → Prop) (wb : Nat) (v : Value) (p : ByteArray → Bool) (x : ByteArray) (w : World) (hb : w.heap[wb]? = some (.cells #[v] 93 (0, 0))) (hi : Is S w v p) (hx : x.size ≤ maxLen) :
    Calls Tryd.prog 89 #[.string x, .pointer (some ⟨wb, 0, none⟩)] w fun e w' => e = .returned (.bool (!p x)) ∧ Fr No w w' := by
  obtain ⟨f, cap, rfl, eg, hc⟩ := hi
  have CI : Hid (∀ W, Fr No w W → Calls Tryd.prog f (#[.string x] ++ cap) W fun e w' => e = .returned (.bool (p x)) ∧ Fr No W w') := fun W hW => hc W (stays_of_fr hW) x hx
  have b1 : w.cell? ⟨wb, 0, none⟩ = some (.func (.func f) #[] cap) := by rw [cell_of_heap hb]; rfl
  obtain ⟨px, hpx⟩ : ∃ px, px = p x := ⟨_, rfl⟩
  rw [← hpx] at CI ⊢
  clear hc hb hpx
  go_enter Tryd.func89, Tryd.ntmps89
  go_wp2_with fail
  refine (CI.out _ (by first | exact Fr.refl _ _ | exact (Fr.refl _ _).drew)).mono ?_
  rintro e w1 ⟨rfl, hf⟩
  have F1 := hide hf
  clear hf
  go_wp2_with fail
  go_ret
  exact ⟨rfl, F1.out⟩

set_option maxHeartbeats 1000000 in
theorem not_any (v : Value) (p : ByteArray → Bool) (S : Nat → Prop) (w : World) (hi : Is S w v p) (hS : ∀ g, S g → g < w.heap.size) :
    Calls Tryd.prog 67 #[v] w fun e w' => ∃ u, e = .returned u ∧ Fr No w w' ∧ Is (fun g => S g ∨ New w w' g) w' u (fun x => !p x) := by
  obtain ⟨f, cap, rfl, eg, hc⟩ := id hi
  have hsf : ∀ (a : Addr) (fn : Fn) (x y : Array Value) (w : World), (store a (.func fn x y)).run Tryd.prog w = stored Tryd.prog w a (.func fn x y) .plain := fun a fn x y w => run_store Tryd.prog w a _ .plain rfl
  have hmf : ∀ (fn : Fn) (first cap : Array Value) (w : World), (Instr.makeFunc fn first cap).run Tryd.prog w = .ok (.func fn first cap) w := fun _ _ _ _ => rfl
  obtain ⟨W, hW⟩ : ∃ W, W = w.alloc (.cells #[.func (.func f) #[] cap] 93) := ⟨_, rfl⟩
  have fW : Fr No w W := by rw [hW]; exact (Fr.refl No w).alloc _
  have g0 : W.heap[w.heap.size]? = some (.cells #[.func (.func f) #[] cap] 93 (0, 0)) := by rw [hW]; exact heap_alloc_new w _
  have HW := hide hW
  have FW := hide fW
  have G0 := hide g0
  have HI := hide hi
  have HS := hide hS
  clear hi hc hS hW fW g0
  go_enter Tryd.func67, Tryd.ntmps67
  go_wp2_with fail
  go_ret
  rw [← HW.out]
  have lg := lt_of_heap G0.out
  refine ⟨_, rfl, FW.out, 89, #[.pointer (some ⟨w.heap.size, 0, none⟩)], rfl, fun args w => Tryd.call89 args w, fun V hV x hx => ?_⟩
  have e1 := (hV.2 w.heap.size (.inr ⟨Nat.le_refl _, lg⟩) lg).2.trans G0.out
  have hi2 : Is S V (.func (.func f) #[] cap) p := HI.out.kept ⟨Nat.le_trans FW.out.size hV.1, fun g hg hl => ⟨hg, (hV.2 g (.inl hg) (Nat.lt_of_lt_of_le hl FW.out.size)).2.trans (FW.out.block g hl (fun e => e))⟩⟩
  exact not1_any S w.heap.size _ p x V e1 hi2 hx

/-- A row of one's own, as a row in blocks of a set. -/
theorem own_rowX {S : Nat → Prop} {w : World} {base n : Nat} {v : Value} {xs : List Value} {e : TypeId} {sz : Nat} (h : w.ownsRow base e sz v n xs) (hS : ∀ g, base ≤ g → g < w.heap.size → S g) : RowS S w v n xs := by
  rcases h.2 with ⟨rfl, h0⟩ | ⟨g, cap, cur, rfl, h2, h3, h4, h5, h6⟩
  · exact ⟨none, 0, by rw [h0], by omega, Nat.zero_le _, fun h => absurd h (by omega)⟩
  · refine ⟨_, cap, rfl, h4, h5, fun _ => ⟨g, 0, rfl, hS g h2 (lt_of_heap h3), lt_of_heap h3, fun i _ => frozen_of_heap h3 _, fun i hi => ?_⟩⟩
    rw [Nat.zero_add]
    exact h.cellAt i (by rw [← h.1]; exact hi)
theorem own_names {w : World} {base n : Nat} {v : Value} {l : List ByteArray} {e : TypeId} {sz : Nat} (h : w.ownsRow base e sz v n (l.map .string)) (hn : n = l.length) (hs : Short l) : Names w.heap.size w v l := by
  subst hn
  exact ⟨(own_rowX (S := fun g => g < w.heap.size) h (fun _ _ h => h)).row (fun _ h => h), hs⟩
theorem own_namesS {S : Nat → Prop} {w : World} {base n : Nat} {v : Value} {l : List ByteArray} {e : TypeId} {sz : Nat} (h : w.ownsRow base e sz v n (l.map .string)) (hn : n = l.length) (hs : Short l) (hS : ∀ g, base ≤ g → g < w.heap.size → S g) : NamesS S w v l := by
  subst hn
  exact ⟨own_rowX h hS, hs⟩

/-- What is read of names by a filter. -/
theorem filter_take {p : ByteArray → Bool} {l : List ByteArray} {k : Nat} (h : k < l.length) : (l.take (k + 1)).filter p = (l.take k).filter p ++ if p l[k] = true then [l[k]] else [] := by
  rw [List.take_succ_eq_append_getElem h, List.filter_append]
  congr 1
  by_cases e : p l[k] = true <;> simp [e]

theorem ownsRow_one (w : World) (x : ByteArray) : (w.alloc (.cells #[.string x] 9)).cell? ⟨w.heap.size, 0, none⟩ = some (.string x) := by
  rw [cell_of_heap (heap_alloc_new w _)]; rfl

theorem names_new (w : World) (x : ByteArray) (hx : x.size ≤ maxLen) : Names (w.heap.size + 1) (w.alloc (.cells #[.string x] 9)) (.slice (some ⟨w.heap.size, 0, none⟩) 1 1) [x] :=
  ⟨⟨_, 1, rfl, Nat.le_refl _, by unfold maxLen; decide, fun _ => ⟨w.heap.size, 0, rfl, Nat.lt_succ_self _, by rw [World.size_alloc]; omega, fun i hi => by
    have : i = 0 := by simpa using hi
    subst this
    exact ownsRow_one w x⟩⟩, fun y hy => by rw [List.mem_singleton.1 hy]; exact hx⟩

set_option maxHeartbeats 2000000 in
theorem of_any (S : Nat → Prop) (B : Nat) (u v : Value) (p : ByteArray → Bool) (l : List ByteArray) (w : World) (hi : Is S w u p) (hl : Names B w v l) (hB : B ≤ w.heap.size) (hn : l.length ≤ 1099511627776) :
    Calls Tryd.prog 68 #[u, v] w fun e w' => ∃ r, e = .returned r ∧ Fr No w w' ∧ w'.ownsRow w.heap.size 9 1 r (l.filter p).length ((l.filter p).map .string) := by
  obtain ⟨a0, cp0, rfl, hcp1, hcp2⟩ := hl.1.form
  obtain ⟨f, cap, rfl, eg, hc⟩ := id hi
  obtain ⟨i0, hif, hz0, hz1, hz2⟩ := info_parts Tryd.info9
  have HL := hide hl
  have HB := hide hB
  have HN := hide hn
  have HI := hide hi
  have CI : Hid (∀ W, Fr No w W → ∀ x : ByteArray, x.size ≤ maxLen → Calls Tryd.prog f (#[.string x] ++ cap) W fun e w' => e = .returned (.bool (p x)) ∧ Fr No W w') := fun W hW x hx => hc W (stays_of_fr hW) x hx
  clear hl hB hn hi hc
  go_enter Tryd.func68, Tryd.ntmps68
  go_wp2_with fail
  go_loopw [5, 10] (fun r i wr => ∃ k : Nat, k ≤ l.length ∧ i = .int .i64 k ∧ Fr No w wr ∧ wr.ownsRow w.heap.size 9 1 r ((l.take k).filter p).length (((l.take k).filter p).map .string)) (fun _ i _ => l.length - (intOf i).toNat)
  case atStart => exact ⟨0, Nat.zero_le _, rfl, Fr.refl _ _, World.ownsRow_nil _ _ _ _⟩
  case round =>
    obtain ⟨k, hk, rfl, hf, hrow⟩ := hrel
    obtain ⟨ra, rc, rfl⟩ := row_form hrow
    by_cases hlt : k < l.length
    · have hl1 : Names B wr (.slice a0 l.length cp0) l := HL.out.kept (hf.old HB.out (fun _ _ e => e)) (Nat.le_refl _) hf.size
      obtain ⟨g, o, cp, hv, _, hg, hgw, hcell', hsz⟩ := hl1.at hlt
      injection hv with hv1 _ hv2
      subst hv1 hv2
      have hft := filter_take (p := p) hlt
      have hfl : ((l.take k).filter p).length ≤ k := by
        have h1 := List.length_filter_le p (l.take k)
        rw [List.length_take] at h1
        omega
      obtain ⟨x, hx⟩ : ∃ x, x = l[k] := ⟨_, rfl⟩
      rw [← hx] at hcell' hsz hft
      obtain ⟨acc, hacc⟩ : ∃ acc, acc = (l.take k).filter p := ⟨_, rfl⟩
      rw [← hacc] at hrow hft hfl ⊢
      have HX := hide hsz
      have HFT := hide hft
      have HF := hide hf
      have HR := hide hrow
      have hnl := HN.out
      have hal : acc.length ≤ 1099511627776 := by omega
      clear hsz hft hf hl1 hx hacc hrow
      have i1 : (k : Int) < (l.length : Int) := by omega
      have i0' : (0 : Int) ≤ (k : Int) := by omega
      unfold maxLen at hcp2
      go_wp2_with fail
      refine (CI.out _ HF.out x HX.out).mono ?_
      rintro e w1 ⟨rfl, hf1⟩
      have F1 := hide (HF.out.trans hf1)
      have hrow1 := row_fr HR.out hf1 (fun _ _ e => e)
      have s1 := (HF.out.trans hf1).size
      clear hf1
      by_cases hp : p x = true
      · rw [hp]
        have hft2 := HFT.out
        rw [if_pos hp] at hft2
        have HF2 := hide hft2
        clear hft2 hp hcell'
        go_wp2_with (first
          | (at_builtin; refine wpList_append_own_at _ rfl _ _ 27 rfl w.heap.size 9 i0 (.string ⟨#[]⟩) 1 16 Tryd.underlying27 hif hz0 hz1 hz2 rfl (by decide) _ _ _ rfl (hrow1.alloc _) ⟨w1.heap.size, 0, none⟩ 1 1 [.string x] rfl rfl (cell_one_new _ _ _) (by simp [Value.oneCell']) (by unfold maxLen; omega) (by omega) (by simp; omega) ?_; intro v' w2 hown' hgrow2 hnil hloc; obtain ⟨a', c', rfl⟩ := row_form hown')
          | fail)
        go_wp2_with fail
        go_roundw
        case rel =>
          refine ⟨k + 1, by omega, by go_num, ?_, ?_⟩
          · exact (F1.out.alloc _).grown hgrow2 (fun j hj => .inr ((hrow1.lt j hj).1))
          · rw [HF2.out, List.length_append, List.map_append]
            simpa using hown'
        case measure => simp [intOf]; omega
      · have hp' : p x = false := by simpa using hp
        rw [hp']
        have hft2 := HFT.out
        rw [if_neg hp, List.append_nil] at hft2
        have HF2 := hide hft2
        have HR1 := hide hrow1
        clear hft2 hp hp' hcell' hrow1
        go_wp2_with fail
        go_roundw
        case rel =>
          refine ⟨k + 1, by omega, by go_num, F1.out, ?_⟩
          rw [HF2.out]
          exact HR1.out
        case measure => simp [intOf]; omega
    · have hkl : k = l.length := by omega
      subst hkl
      rw [List.take_length] at hrow ⊢
      have HR := hide hrow
      have HF := hide hf
      clear hf hrow
      go_wp2_with fail
      go_ret
      exact ⟨_, rfl, HF.out, HR.out⟩

set_option maxHeartbeats 1000000 in
theorem needed_any (k B : Nat) (w : World) (cs : List Value) (t : Pu.TT k) (ht : RT k B w cs t) (hB : B ≤ w.heap.size) (hw : Pu.wt k t ≤ 1073741824) :
    Calls Tryd.prog 65 #[.agg cs.toArray] w fun e w' => ∃ u, e = .returned u ∧ Fr No w w' ∧ Is (New w w') w' u (Pu.has (Pu.free k t)) := by
  obtain ⟨kd, n, x, y, a0, n0, c0, a1, n1, c1, a2, n2, c2, rfl⟩ := ht.form
  have fl := needs_length k (fun _ => 0) t []
  have CF : Hid (∀ o, Calls Tryd.prog 87 #[.agg #[.int .i64 kd, .int .i64 n, .string x, .string y, .slice a0 n0 c0, .slice a1 n1 c1, .slice a2 n2 c2]] (w.alloc o) fun e w' => ∃ v, e = .returned v ∧ Fr No (w.alloc o) w' ∧ w'.ownsRow (w.alloc o).heap.size 9 1 v (Pu.free k t).length ((Pu.free k t).map .string) ∧ Short (Pu.free k t)) := fun o =>
    free_any k B (w.alloc o) _ t (ht.old (((Fr.refl No w).alloc o).old hB (fun _ _ e => e)) ((Fr.refl No w).alloc o).size) (Nat.le_trans hB ((Fr.refl No w).alloc o).size) hw
  have HT := hide ht
  have FL : Hid ((Pu.free k t).length ≤ 1073741824) := Nat.le_trans fl (by simpa using hw)
  show Calls Tryd.prog 65 #[.agg #[.int .i64 kd, .int .i64 n, .string x, .string y, .slice a0 n0 c0, .slice a1 n1 c1, .slice a2 n2 c2]] w _
  clear ht fl
  go_enter Tryd.func65, Tryd.ntmps65
  go_wp2_with fail
  refine (CF.out _).mono ?_
  rintro e w1 ⟨v, rfl, hf1, hr1, hs1⟩
  obtain ⟨ra, rc, rfl⟩ := row_form hr1
  have F1 := hide (((Fr.refl No w).alloc _).trans hf1)
  have hnm : Names w1.heap.size w1 (.slice ra (Pu.free k t).length rc) (Pu.free k t) := own_names hr1 rfl hs1
  have CA := hide (among_any w1.heap.size _ (Pu.free k t) w1 hnm (Nat.le_refl _) (by have := FL.out; omega))
  clear hf1 hr1 hs1 hnm CF
  go_wp2_with fail
  refine CA.out.mono ?_
  rintro e w2 ⟨u, rfl, hf2, hi2⟩
  obtain ⟨f, cap, rfl, eg⟩ : ∃ f cap, u = .func (.func f) #[] cap ∧ True := by obtain ⟨f, cap, h, _⟩ := hi2; exact ⟨f, cap, h, trivial⟩
  have H2 := hide (And.intro hf2 hi2)
  clear hf2 hi2
  go_wp2_with fail
  go_ret
  exact ⟨_, rfl, F1.out.trans H2.out.1, H2.out.2.kept ⟨Nat.le_refl _, fun g hg _ => ⟨⟨Nat.le_trans F1.out.size hg.1, hg.2⟩, rfl⟩⟩⟩
end Go.Proofs.YtdcdegeeaakekacDoor
