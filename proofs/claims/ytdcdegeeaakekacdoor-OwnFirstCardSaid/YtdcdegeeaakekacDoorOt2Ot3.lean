/- own: 'namesIn', 'repeated', walked. -/
import Derived.Test.YtdcdegeeaakekacDoorOt1
namespace Go.Proofs.YtdcdegeeaakekacDoor
open Go.RowKit Go.Maps Go.WideMaps

/-- The kind, the name of a term. -/
def kindOf : (k : Nat) → Pu.TT k → Int
  | 0, t => nomatch t
  | _ + 1, t => (show Pu.Node _ from t).kind
def nameOf : (k : Nat) → Pu.TT k → ByteArray
  | 0, t => nomatch t
  | _ + 1, t => (show Pu.Node _ from t).name
/-- The names among terms. -/
def namesOf (k : Nat) (l : List (Pu.TT k)) : List ByteArray := (l.filter fun t => kindOf k t == 1).map (nameOf k)
theorem namesOf_succ (k : Nat) (l : List (Pu.TT k)) (i : Nat) (h : i < l.length) : namesOf k (l.take (i + 1)) = namesOf k (l.take i) ++ if kindOf k l[i] == 1 then [nameOf k l[i]] else [] := by
  unfold namesOf
  rw [List.take_succ_eq_append_getElem h, List.filter_append, List.map_append]
  congr 1
  by_cases e : (kindOf k l[i] == 1) = true <;> simp [e]
theorem namesOf_le (k : Nat) (l : List (Pu.TT k)) : (namesOf k l).length ≤ l.length := by
  unfold namesOf; rw [List.length_map]; exact List.length_filter_le _ _
theorem RT.kn {k B : Nat} {w : World} {kd n : Int} {x y : ByteArray} {c4 c5 c6 : Value} {t : Pu.TT k} (h : RT k B w [.int .i64 kd, .int .i64 n, .string x, .string y, c4, c5, c6] t) : kd = kindOf k t ∧ x = nameOf k t ∧ x.size ≤ maxLen := by
  cases k with
  | zero => exact h.elim
  | succ k =>
    obtain ⟨_, _, _, _, _, h1, h2, _⟩ := h
    injection h1 with e1 h1
    injection h1 with e2 h1
    injection h1 with e3 h1
    injection e1 with _ e1
    injection e3 with e3
    exact ⟨e1, e3, by rw [e3]; exact h2⟩

set_option maxRecDepth 100000 in
set_option maxHeartbeats 4000000 in
theorem namesIn_any (k B : Nat) (v : Value) (acs : List Value) (l : List (Pu.TT k)) (w : World) (hr : Row B w v l.length acs) (he : Each 7 (RT k B w) acs l) (hB : B ≤ w.heap.size) (hn : l.length ≤ 1073741824) :
    Calls Tryd.prog 91 #[v] w fun e w' => ∃ a c, e = .returned (.slice a (namesOf k l).length c) ∧ Fr No w w' ∧ Names w'.heap.size w' (.slice a (namesOf k l).length c) (namesOf k l) := by
  obtain ⟨a0, cp0, rfl, hcp1, hcp2⟩ := hr.form
  obtain ⟨i0, hif, hz0, hz1, hz2⟩ := info_parts Tryd.info9
  have HR := hide hr
  have HE := hide he
  have HB := hide hB
  have HN := hide hn
  clear hr he hB hn
  go_enter Tryd.func91, Tryd.ntmps91
  go_wp2_with fail
  go_loopw [3, 8] (fun r i wr => ∃ j : Nat, j ≤ l.length ∧ i = .int .i64 j ∧ Fr No w wr ∧ wr.ownsRow w.heap.size 9 1 r (namesOf k (l.take j)).length ((namesOf k (l.take j)).map .string) ∧ Short (namesOf k (l.take j))) (fun _ i _ => l.length - (intOf i).toNat)
  case atStart => exact ⟨0, Nat.zero_le _, rfl, Fr.refl _ _, World.ownsRow_nil _ _ _ _, fun y hy => by simp [namesOf] at hy⟩
  case round =>
    obtain ⟨j, hj, rfl, hf, hrow, hsh⟩ := hrel
    obtain ⟨ra, rc, rfl⟩ := row_form hrow
    by_cases hlt : j < l.length
    · have ho : Old B w wr := hf.old HB.out (fun _ _ e => e)
      obtain ⟨g, o, cap1, kd', n', x', y', b0, n0, e0, b1, n1, e1, b2, n2, e2, hav, hcap, hg, hgw, hrt, hcell⟩ := args_at HR.out HE.out j hlt
      injection hav with hav1 _ hav2
      subst hav1 hav2
      obtain ⟨hk1, hk2, hk3⟩ := RT.kn hrt
      have hcw : ∀ q, q < 7 → wr.cell? ⟨g, o + j * 7 + q, none⟩ = [Value.int .i64 kd', .int .i64 n', .string x', .string y', .slice b0 n0 e0, .slice b1 n1 e1, .slice b2 n2 e2][q]? := fun q hq => by
        rw [ho.cell (a := ⟨g, o + j * 7 + q, none⟩) hg]; exact hcell q hq
      have q0 : wr.cell? ⟨g, o + j * 7, none⟩ = some (.int .i64 kd') := hcw 0 (by omega)
      have q1 := hcw 1 (by omega)
      have q2 := hcw 2 (by omega)
      have q3 := hcw 3 (by omega)
      have q4 := hcw 4 (by omega)
      have q5 := hcw 5 (by omega)
      have q6 := hcw 6 (by omega)
      have hgl : g < wr.heap.size := Nat.lt_of_lt_of_le hgw hf.size
      have hsn := namesOf_succ k l j hlt
      rw [← hk1, ← hk2] at hsn
      have hnl := namesOf_le k (l.take j)
      rw [List.length_take] at hnl
      obtain ⟨acc, hacc⟩ : ∃ acc, acc = namesOf k (l.take j) := ⟨_, rfl⟩
      rw [← hacc] at hrow hsh hsn hnl ⊢
      have HF := hide hf
      have HSH := hide hsh
      have HK3 := hide hk3
      have hn2 := HN.out
      have hal : acc.length ≤ 1073741824 := by omega
      have fa : ∀ o', Fr No wr (wr.alloc o') := fun o' => (Fr.refl No wr).alloc o'
      have hrow0 : ∀ o', (wr.alloc o').ownsRow w.heap.size 9 1 (.slice ra acc.length rc) acc.length (acc.map .string) := fun o' => hrow.alloc o'
      have HR1 := hide hrow
      have s1 := hf.size
      clear hcw hcell hrt hf ho hk1 hk2 hk3 hacc hsh hrow hnl
      have i1 : (j : Int) < (l.length : Int) := by omega
      have i0' : (0 : Int) ≤ (j : Int) := by omega
      unfold maxLen at hcp2
      by_cases hkd : kd' = 1
      · subst hkd
        rw [if_pos (by decide)] at hsn
        have HSN := hide hsn
        clear hsn
        go_wp2_with (first
          | (at_builtin; refine wpList_append_own_at _ rfl _ _ 27 rfl w.heap.size 9 i0 (.string ⟨#[]⟩) 1 16 Tryd.underlying27 hif hz0 hz1 hz2 rfl (by decide) _ _ _ rfl ((hrow0 _).alloc _) ⟨wr.heap.size + 1, 0, none⟩ 1 1 [.string x'] rfl rfl (by have h := cell_one_new (wr.alloc (.cells #[.int .i64 1, .int .i64 n', .string x', .string y', .slice b0 n0 e0, .slice b1 n1 e1, .slice b2 n2 e2] 31)) (.string x') 9; rw [World.size_alloc] at h; exact h) (by simp [Value.oneCell']) (by unfold maxLen; omega) (by omega) (by simp; omega) ?_; intro v' w2 hown' hgrow2 hnil hloc; obtain ⟨a', c', rfl⟩ := row_form hown')
          | fail)
        go_wp2_with fail
        go_roundw
        case rel =>
          refine ⟨j + 1, by omega, by go_num, ?_, ?_, ?_⟩
          · exact ((HF.out.alloc _).alloc _).grown hgrow2 (fun q hq => .inr ((HR1.out.lt q hq).1))
          · rw [HSN.out, List.length_append, List.map_append]
            simpa using hown'
          · rw [HSN.out]
            intro y hy
            rcases List.mem_append.1 hy with h | h
            · exact HSH.out y h
            · rw [List.mem_singleton.1 h]; exact HK3.out
        case measure => simp [intOf]; omega
      · have hkd' : (kd' == 1) = false := by simpa using hkd
        rw [hkd', if_neg (by decide), List.append_nil] at hsn
        have HSN := hide hsn
        clear hsn hkd
        go_wp2_with fail
        go_roundw
        case rel =>
          refine ⟨j + 1, by omega, by go_num, HF.out.alloc _, ?_, ?_⟩
          · rw [HSN.out]; exact hrow0 _
          · rw [HSN.out]; exact HSH.out
        case measure => simp [intOf]; omega
    · have hil : j = l.length := by omega
      subst hil
      rw [List.take_length] at hrow hsh ⊢
      have HF := hide hf
      have HRW := hide hrow
      have HSH := hide hsh
      clear hf hrow hsh
      go_wp2_with fail
      go_ret
      exact ⟨_, _, rfl, HF.out, own_names HRW.out rfl HSH.out⟩
end Go.Proofs.YtdcdegeeaakekacDoor

/- own: 'repeated', walked: the names that were there ahead. -/
namespace Go.Proofs.YtdcdegeeaakekacDoor
open Go.RowKit Go.Maps Go.WideMaps

/-- The names among the first k that were there ahead. -/
def repTo (l : List ByteArray) (k : Nat) : List ByteArray := ((List.range k).filter fun j => Pu.has (l.take j) (l.getD j ⟨#[]⟩)).map fun j => l.getD j ⟨#[]⟩
theorem repTo_succ (l : List ByteArray) (k : Nat) (h : k < l.length) : repTo l (k + 1) = repTo l k ++ if Pu.has (l.take k) l[k] = true then [l[k]] else [] := by
  unfold repTo
  have e : l.getD k ⟨#[]⟩ = l[k] := by rw [List.getD_eq_getElem?_getD, List.getElem?_eq_getElem h]; rfl
  rw [List.range_succ, List.filter_append, List.map_append]
  congr 1
  by_cases e2 : Pu.has (l.take k) l[k] = true <;> simp [e, e2, -List.getD_eq_getElem?_getD]
theorem repTo_le (l : List ByteArray) (k : Nat) : (repTo l k).length ≤ k := by
  unfold repTo
  rw [List.length_map]
  exact Nat.le_trans (List.length_filter_le _ _) (by simp)
def rep (l : List ByteArray) : List ByteArray := repTo l l.length

theorem has_count (l : List ByteArray) (x : ByteArray) : decide (0 < l.countP (fun y => decide (y = x))) = Pu.has l x := by
  unfold Pu.has
  by_cases h : 0 < l.countP (fun y => decide (y = x))
  · rw [decide_eq_true h]
    rw [List.countP_pos_iff] at h
    obtain ⟨y, hy, e⟩ := h
    exact (List.any_eq_true.2 ⟨y, hy, e⟩).symm
  · rw [decide_eq_false h]
    cases hh : l.any (fun y => decide (y = x)) with
    | false => rfl
    | true =>
      obtain ⟨y, hy, e⟩ := List.any_eq_true.1 hh
      exact absurd (List.countP_pos_iff.2 ⟨y, hy, e⟩) h

set_option maxHeartbeats 1000000 in
theorem rep1_any (mb b K : Nat) (c : Pu.Cnt) (x : ByteArray) (w : World) (hm : w.heap[mb]? = some (.cells #[.map (some b)] 54 (0, 0))) (hc : CntAt w b K c) (hx : x.size ≤ maxLen) (hK : K < 1099511627776) (hcb : c x ≤ 1099511627776) :
    Calls Tryd.prog 113 #[.string x, .pointer (some ⟨mb, 0, none⟩)] w fun e w' => e = .returned (.bool (decide (0 < c x))) ∧ Fr (· = b) w w' ∧ CntAt w' b (K + 1) (fun y => if y = x then c x + 1 else c y) := by
  have h1 := look_cnt 54 Tryd.underlying54 hc hx
  have b1 : w.cell? ⟨mb, 0, none⟩ = some (.map (some b)) := by rw [cell_of_heap hm]; rfl
  have nb : mb ≠ b := hc.ne_cells hm
  obtain ⟨m, ⟨kk, D, hkk, hown, hD⟩, hmm⟩ := id hc
  have hkey := keyS hx
  obtain ⟨n, hn⟩ : ∃ n, n = c x := ⟨_, rfl⟩
  rw [← hn] at h1 hcb ⊢
  have HN := hide hn
  have HM := hide hm
  have HDD := hide hD
  have HMM := hide hmm
  have HNX : Hid (∀ w1, w.grownBy w1 (some b) → w1.ownsMap Tryd.prog 9 (plainElem Tryd.prog 3) b (kk + 1) (D.put (.string x.data.toList) (.lit (.int .i64 ((n : Int) + 1)))) → (w1.cell? ⟨mb, 0, none⟩ = some (.map (some b)) ∧ (Instr.lookup 54 (.map (some b)) (.string x) false).run Tryd.prog w1 = .ok (.int .i64 ((n + 1 : Nat) : Int)) w1 ∧ Fr (· = b) w w1 ∧ CntAt w1 b (K + 1) (fun y => if y = x then n + 1 else c y))) := by
    intro w1 hg ho
    have hf : Fr (· = b) w w1 := (Fr.refl _ w).grown hg (fun k hk => by cases hk; exact .inl rfl)
    have hc1 : CntAt w1 b (K + 1) (fun y => if y = x then n + 1 else c y) := cnt_up hkk hown.isMap HDD.out HMM.out ho (fun y hy => by simp [hy]) (by simp)
    refine ⟨by rw [cell_of_heap (fr_heap HM.out hf nb)]; rfl, ?_, hf, hc1⟩
    have := look_cnt 54 Tryd.underlying54 hc1 hx
    simpa using this
  clear hm hc hn hD hmm
  go_enter Tryd.func113, Tryd.ntmps113
  go_wp2_with (first
    | (at_mapUpdate; refine wpList_mapUpdate_own _ rfl _ _ _ 54 rfl 9 3 law Tryd.underlying54 _ b kk _ rfl hown (by unfold maxLen; omega) _ _ _ rfl rfl hkey _ [] (plainElem_int Tryd.underlying3 (WalkArith.wf_i64 (by omega))) ?_; intro w1 hown1 hgrow1; obtain ⟨c1, l1, F1, C1⟩ := HNX.out w1 hgrow1 hown1; have HF1 := hide F1; have HC1 := hide C1; clear F1 C1)
    | fail)
  go_wp2_with fail
  go_ret
  refine ⟨?_, HF1.out, HC1.out⟩
  have e1 : decide ((1 : Int) < ((n + 1 : Nat) : Int)) = decide (0 < n) := by
    by_cases h : 0 < n
    · rw [decide_eq_true h, decide_eq_true (by omega)]
    · rw [decide_eq_false h, decide_eq_false (by omega)]
  first
    | exact congrArg (fun q => Ending.returned (.bool q)) e1
    | (simp; omega)
end Go.Proofs.YtdcdegeeaakekacDoor
