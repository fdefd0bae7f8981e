/- 'with': names are bound while something is done. -/
import Derived.Test.YtmjpfiecgkoaeaaRel
namespace Go.Proofs.Ytmjpfiecgkoaeaa
open Go.RowKit Go.Maps Go.WideMaps

theorem Row.at {B : Nat} {w : World} {v : Value} {n : Nat} {xs : List Value} (h : Row B w v n xs) (hn : 0 < n) :
    ∃ g o cap, v = .slice (some ⟨g, o, none⟩) n cap ∧ n ≤ cap ∧ cap ≤ maxLen ∧ g < B ∧ g < w.heap.size ∧ ∀ i, i < xs.length → w.cell? ⟨g, o + i, none⟩ = xs[i]? := by
  obtain ⟨a, cap, h1, h2, h3, h4⟩ := h
  obtain ⟨g, o, rfl, h5, h6, h7⟩ := h4 hn
  exact ⟨g, o, cap, h1, h2, h3, h5, h6, h7⟩
theorem Names.at {B : Nat} {w : World} {v : Value} {l : List ByteArray} (h : Names B w v l) {i : Nat} (hi : i < l.length) :
    ∃ g o cap, v = .slice (some ⟨g, o, none⟩) l.length cap ∧ cap ≤ maxLen ∧ g < B ∧ g < w.heap.size ∧ w.cell? ⟨g, o + i, none⟩ = some (.string l[i]) ∧ l[i].size ≤ maxLen := by
  obtain ⟨g, o, cap, h1, h2, h3, h4, h5, h6⟩ := h.1.at (by omega)
  exact ⟨g, o, cap, h1, h3, h4, h5, by rw [h6 i (by simpa using hi), List.getElem?_map, List.getElem?_eq_getElem hi]; rfl, h.2 _ (List.getElem_mem hi)⟩

theorem with_snoc (c : Pu.Cnt) (l : List ByteArray) (k : Nat) (h : k < l.length) (x : ByteArray) : Pu.with' c (l.take (k + 1)) x = Pu.with' c (l.take k) x + if l[k] = x then 1 else 0 := by
  unfold Pu.with'
  rw [List.take_succ_eq_append_getElem h, List.countP_append]
  by_cases e : l[k] = x <;> simp [e, Nat.add_assoc]

theorem with_nil (c : Pu.Cnt) : Pu.with' c [] = c := by funext x; simp [Pu.with']

/-- a step up in a map of counts -/
theorem cnt_up {w' : World} {b K : Nat} {c c' : Pu.Cnt} {x : ByteArray} {k : Nat} {D : DataW Unit} {m : ByteArray → Option Int} {v : Int} (hk : k ≤ K) (hD : IsMap D)
    (h2 : ∀ x : ByteArray, x.size ≤ maxLen → D.atKey (.string x.data.toList) (.lit (.int .i64 0)) = .lit (.int .i64 ((m x).getD 0)) ∧ Maps.has D (.string x.data.toList) = (m x).isSome)
    (hm : ∀ y, (m y).getD 0 = (c y : Int)) (h1 : w'.ownsMap Try.prog 9 (plainElem Try.prog 3) b (k + 1) (D.put (.string x.data.toList) (.lit (.int .i64 v)))) (hc : ∀ y, y ≠ x → c' y = c y) (hv : v = (c' x : Int)) : CntAt w' b (K + 1) c' := by
  refine ⟨upd m x v, MapC.put hk h1 hD h2, fun y => ?_⟩
  by_cases e : y = x
  · subst e; simp [upd, hv]
  · simp only [upd, if_neg e, hm, hc y e]

set_option maxHeartbeats 1000000 in
theorem with_any (f : FuncId) (cap : Array Value) (B A K K2 : Nat) (v : Value) (l : List ByteArray) (c : Pu.Cnt) (w : World) (Q : World → Prop) (eg : ∀ args w, (callFunc f args).run Try.prog w = .ok (.enter f args) w)
    (hl : Names B w v l) (hA : ∀ w w', Names B w v l → Fr (· = A) w w' → Names B w' v l) (hc : CntAt w A K c) (hcb : ∀ x, c x + l.length ≤ 1099511627776) (hK : K + l.length ≤ 1099511627776) (hK2 : K2 + l.length ≤ 1099511627776)
    (hdo : ∀ w1, Fr (· = A) w w1 → CntAt w1 A (K + l.length) (Pu.with' c l) → Calls Try.prog f cap w1 fun e w2 => e = .returned (.tuple #[]) ∧ CntAt w2 A K2 (Pu.with' c l) ∧ Names B w2 v l ∧ Q w2)
    (hQ : ∀ w2 w3, Q w2 → Fr (· = A) w2 w3 → Q w3) :
    Calls Try.prog 46 #[.map (some A), v, .func (.func f) #[] cap] w fun e w' => e = .returned (.tuple #[]) ∧ CntAt w' A (K2 + l.length) c ∧ Q w' := by
  obtain ⟨a0, cp0, hv0, hcp1, hcp2⟩ := hl.1.form
  subst hv0
  have HL := hide hl
  have HC := hide hc
  have HD := hide hdo
  have HQ := hide hQ
  have HB := hide hcb
  have HA := hide hA
  clear hl hc hdo hQ hcb hA
  go_enter Try.func46, Try.ntmps46
  go_wp2_with fail
  go_loopw [12] (fun i wr => ∃ k : Nat, k ≤ l.length ∧ i = .int .i64 k ∧ Fr (· = A) w wr ∧ CntAt wr A (K + k) (Pu.with' c (l.take k))) (fun i _ => l.length - (intOf i).toNat)
  case atStart => exact ⟨0, Nat.zero_le _, rfl, Fr.refl _ _, by rw [show Pu.with' c (l.take 0) = c from with_nil c]; exact HC.out⟩
  case round =>
    obtain ⟨k, hk, rfl, hf, hcn⟩ := hrel
    by_cases hlt : k < l.length
    · obtain ⟨g, o, cp, hv, _, hg, hgw, hcell', hsz⟩ := (HA.out w wr HL.out hf).at hlt
      injection hv with hv1 _ hv2
      subst hv1 hv2
      obtain ⟨m, ⟨kk, D, hkk, hown, hD⟩, hm⟩ := hcn
      have hkey := keyS hsz
      have hupd := hide (with_snoc c l k hlt)
      obtain ⟨cv, hlk, hat, hwc⟩ := hown.lookup_int law Try.underlying61 Try.underlying3 (zeroE _) hkey
      have hcv : cv = (Pu.with' c (l.take k) l[k] : Int) := by
        have := (hD _ hsz).1; rw [hat] at this; simp at this; rw [this]; exact hm _
      have hle : Pu.with' c (l.take k) l[k] ≤ 1099511627776 := by
        unfold Pu.with'
        have := List.countP_le_length (p := fun y => decide (y = l[k])) (l := l.take k)
        have h2 := HB.out l[k]
        rw [List.length_take] at this
        omega
      have HM := hide hm
      have HDD := hide hD
      have HF := hide hf
      have HCV := hide hcv
      have hcv1 : 0 ≤ cv := by omega
      have hcv2 : cv ≤ 1099511627776 := by omega
      clear hm hD hf hcv hat
      generalize l[k] = x at *
      have i1 : (k : Int) < (l.length : Int) := by omega
      have i0 : (0 : Int) ≤ (k : Int) := by omega
      unfold maxLen at hcp2
      go_wp2_with (first
        | (at_mapUpdate; refine wpList_mapUpdate_own _ rfl _ _ _ 61 rfl 9 3 law Try.underlying61 _ A kk _ rfl hown (by unfold maxLen; omega) _ _ _ rfl rfl hkey _ [] (plainElem_int Try.underlying3 (WalkArith.wf_i64 (by omega))) ?_; intro w1 hown1 hgrow1)
        | fail)
      go_wp2_with fail
      go_roundw
      case rel =>
        exact ⟨k + 1, by omega, by go_num, HF.out.grown hgrow1 (fun j hj => by cases hj; exact .inl rfl), cnt_up hkk hown.isMap HDD.out HM.out hown1 (fun y hy => by rw [hupd.out]; simp [Ne.symm hy]) (by rw [hupd.out, HCV.out]; simp)⟩
      case measure => simp [intOf]; omega
    · have hkl : k = l.length := by omega
      subst hkl
      have hcn' : CntAt wr A (K + l.length) (Pu.with' c l) := by rw [List.take_length] at hcn; exact hcn
      have HF := hide hf
      have HCN := hide hcn'
      clear hf hcn hcn'
      go_wp2_with fail
      refine (HD.out _ HF.out HCN.out).mono ?_
      rintro e w2 ⟨rfl, hcn2, ho2, hq2⟩
      have HC2 := hide hcn2
      have HQ2 := hide hq2
      have HO2 := hide ho2
      clear hcn2 hq2 ho2 HF HCN
      go_wp2_with fail
      clear eg
      go_loopw [25] (fun i wr => ∃ k : Nat, k ≤ l.length ∧ i = .int .i64 k ∧ Fr (· = A) w2 wr ∧ ∃ c', CntAt wr A (K2 + k) c' ∧ ∀ x, c' x + (l.take k).countP (fun y => decide (y = x)) = Pu.with' c l x) (fun i _ => l.length - (intOf i).toNat)
      case atStart => exact ⟨0, Nat.zero_le _, rfl, Fr.refl _ _, _, HC2.out, fun x => by simp⟩
      case round =>
        obtain ⟨k, hk, rfl, hf, c', hcn, hcc⟩ := hrel
        by_cases hlt : k < l.length
        · obtain ⟨g, o, cp, hv, _, hg, hgw, hcell', hsz⟩ := (HA.out w2 wr HO2.out hf).at hlt
          injection hv with hv1 _ hv2
          subst hv1 hv2
          obtain ⟨m, ⟨kk, D, hkk, hown, hD⟩, hm⟩ := hcn
          have hkey := keyS hsz
          obtain ⟨cv, hlk, hat, hwc⟩ := hown.lookup_int law Try.underlying61 Try.underlying3 (zeroE _) hkey
          have hcv : cv = (c' l[k] : Int) := by
            have := (hD _ hsz).1; rw [hat] at this; simp at this; rw [this]; exact hm _
          have hsn : ∀ x, (l.take (k + 1)).countP (fun y => decide (y = x)) = (l.take k).countP (fun y => decide (y = x)) + if l[k] = x then 1 else 0 := by
            intro x
            rw [List.take_succ_eq_append_getElem hlt, List.countP_append]
            by_cases e : l[k] = x <;> simp [e]
          have hmt : ∀ x, (l.take (k + 1)).countP (fun y => decide (y = x)) ≤ l.countP (fun y => decide (y = x)) := fun x => (List.take_sublist _ _).countP_le
          have hle : 1 ≤ c' l[k] ∧ c' l[k] ≤ 1099511627776 := by
            have h1 := hcc l[k]
            have h2 := hsn l[k]
            have h3 := hmt l[k]
            have h4 := HB.out l[k]
            have h5 := List.countP_le_length (p := fun y => decide (y = l[k])) (l := l)
            simp at h2
            unfold Pu.with' at h1
            omega
          have HM := hide hm
          have HDD := hide hD
          have HF := hide hf
          have HCV := hide hcv
          have HSN := hide hsn
          have HCC := hide hcc
          have hcv1 : 1 ≤ cv := by omega
          have hcv2 : cv ≤ 1099511627776 := by omega
          clear hm hD hf hcv hat hsn hmt hcc
          generalize l[k] = x at *
          have i1 : (k : Int) < (l.length : Int) := by omega
          have i0 : (0 : Int) ≤ (k : Int) := by omega
          unfold maxLen at hcp2
          go_wp2_with (first
            | (at_mapUpdate; refine wpList_mapUpdate_own _ rfl _ _ _ 61 rfl 9 3 law Try.underlying61 _ A kk _ rfl hown (by unfold maxLen; omega) _ _ _ rfl rfl hkey _ [] (plainElem_int Try.underlying3 (WalkArith.wf_i64 (by omega))) ?_; intro w1 hown1 hgrow1)
            | fail)
          go_wp2_with fail
          go_roundw
          case rel =>
            refine ⟨k + 1, by omega, by go_num, HF.out.grown hgrow1 (fun j hj => by cases hj; exact .inl rfl), fun y => if y = x then c' x - 1 else c' y, cnt_up hkk hown.isMap HDD.out HM.out hown1 (fun y hy => by simp [hy]) (by rw [HCV.out]; simp; omega), fun y => ?_⟩
            rw [HSN.out, ← HCC.out y]
            by_cases e : y = x
            · subst e; simp; omega
            · simp [e, Ne.symm e]
          case measure => simp [intOf]; omega
        · have hkl : k = l.length := by omega
          subst hkl
          go_wp2_with fail
          go_end0
          have e : c' = c := by
            funext x
            have := hcc x
            rw [List.take_length] at this
            unfold Pu.with' at this
            omega
          subst e
          exact ⟨rfl, hcn, HQ.out _ _ HQ2.out hf⟩
end Go.Proofs.Ytmjpfiecgkoaeaa
