/- The check: are they names, unlike each other? -/
import Derived.Test.YtmjpfiecgkoaeaaC1
namespace Go.Proofs.Ytmjpfiecgkoaeaa
open Go.RowKit Go.Maps Go.WideMaps

/-- The checker's three cells. -/
abbrev CkA (P Pm A : Nat) : Array Value := #[.func (.func 49) #[] #[.pointer (some ⟨P, 0, none⟩)], .map (some Pm), .map (some A)]
abbrev Ck (P Pm A : Nat) : Value := .agg (CkA P Pm A)
/-- The variable of 'guarded'. -/
abbrev Gd (w : World) (P : Nat) : Prop := w.heap[P]? = some (.cells #[.func (.func 17) #[] #[]] 37 (0, 0))

theorem unlike_step (l : List ByteArray) (i : Nat) (h : i < l.length) : Pu.unlikeFrom (l.take i) (l.drop i) = (!(Pu.has (l.take i) l[i]) && isName l[i] && Pu.unlikeFrom (l.take (i + 1)) (l.drop (i + 1))) := by
  rw [List.drop_eq_getElem_cons h, List.take_succ_eq_append_getElem h]
  rfl

theorem Names.fr {B : Nat} {w w' : World} {v : Value} {l : List ByteArray} (h : Names B w v l) (hf : Fr No w w') : Names B w' v l := by
  refine ⟨?_, h.2⟩
  obtain ⟨a, cap, h1, h2, h3, h4⟩ := h.1
  refine ⟨a, cap, h1, h2, h3, fun hn => ?_⟩
  obtain ⟨g, o, h5, h6, h7, h8⟩ := h4 hn
  exact ⟨g, o, h5, h6, Nat.lt_of_lt_of_le h7 hf.size, fun i hi => by
    rw [show w'.cell? ⟨g, o + i, none⟩ = w.cell? ⟨g, o + i, none⟩ from by simp only [World.cell?, hf.block g h7 (fun e => e)]]
    exact h8 i hi⟩

set_option maxHeartbeats 2000000 in
theorem unlike_any (P Pm A Bn : Nat) (v : Value) (l : List ByteArray) (w : World) (hl : Names Bn w v l) (hP : Gd w P) :
    Calls Try.prog 51 #[Ck P Pm A, v] w fun e w' => e = .returned (.bool (Pu.unlike l)) ∧ Fr No w w' := by
  obtain ⟨a0, cp0, rfl, hcp1, hcp2⟩ := hl.1.form
  have hmm := @run_makeMap Try.prog
  have hPs : P < w.heap.size := lt_of_heap hP
  have HL := hide hl
  have HP := hide hP
  unfold maxLen at hcp2
  clear hl hP
  show Calls Try.prog 51 #[.agg #[.func (.func 49) #[] #[.pointer (some ⟨P, 0, none⟩)], .map (some Pm), .map (some A)], .slice a0 l.length cp0] w _
  go_enter Try.func51, Try.ntmps51
  go_wp2_with fail
  clear hmm
  go_loopw [11] (fun q wr => ∃ i : Nat, i ≤ l.length ∧ q = .int .i64 i ∧ Fr No w wr ∧ wr.heap[w.heap.size]? = some (.cells (CkA P Pm A) 67 (0, 0)) ∧ CntAt wr (w.heap.size + 1) i (fun x => if Pu.has (l.take i) x = true then 1 else 0) ∧
    Pu.unlike l = Pu.unlikeFrom (l.take i) (l.drop i)) (fun q _ => l.length - (intOf q).toNat)
  case atStart =>
    refine ⟨0, Nat.zero_le _, rfl, ((Fr.refl No w).alloc _).alloc _, ?_, ?_, rfl⟩
    · rw [Below.heap_alloc _ _ _ (by simp)]; exact heap_alloc_new _ _
    · have := MapC.made (w.alloc (.cells (CkA P Pm A) 67))
      rw [World.size_alloc] at this
      exact ⟨_, this, fun _ => rfl⟩
  case round =>
    obtain ⟨i, hi, rfl, hf, hbx, hcn, hu⟩ := hrel
    have hbs : w.heap.size < wr.heap.size := lt_of_heap hbx
    have hms : w.heap.size + 1 < wr.heap.size := hcn.lt
    by_cases hlt : i < l.length
    · obtain ⟨g, o, cp, hv, _, hg, hgw, hcell, hsz⟩ := (HL.out.fr hf).at hlt
      injection hv with hv1 _ hv2
      subst hv1 hv2
      have hst := unlike_step l i hlt
      obtain ⟨x, hx⟩ : ∃ x, x = l[i] := ⟨_, rfl⟩
      rw [← hx] at hcell hsz hst
      have htk : l.take (i + 1) = l.take i ++ [x] := by rw [List.take_succ_eq_append_getElem hlt, hx]
      have hlk := look_cnt 60 Try.underlying60 hcn hsz
      obtain ⟨m, ⟨kk, D, hkk, hown, hD⟩, hm⟩ := hcn
      have HD := hide hD
      have HM := hide hm
      have hkey := keyS hsz
      have f0 : wr.cell? ⟨w.heap.size, 0, none⟩ = some (.func (.func 49) #[] #[.pointer (some ⟨P, 0, none⟩)]) := by rw [cell_of_heap hbx]; rfl
      have HG := hide (guard_any P x wr hsz (fr_heap HP.out hf (fun e => e)))
      have HF := hide hf
      have HBX := hide hbx
      have HU := hide hu
      have HST := hide hst
      have HTK := hide htk
      have i1 : (i : Int) < (l.length : Int) := by omega
      have i0 : (0 : Int) ≤ (i : Int) := by omega
      clear hD hm hf hbx hu hst htk hx
      by_cases e1 : Pu.has (l.take i) x = true
      · rw [if_pos e1] at hlk
        go_wp2_with fail
        go_ret
        refine ⟨?_, HF.out⟩
        rw [HU.out, HST.out, e1]; rfl
      · rw [if_neg e1] at hlk
        go_wp2_with fail
        refine HG.out.mono ?_
        have e1' : Pu.has (l.take i) x = false := by simpa using e1
        obtain ⟨b, hb⟩ : ∃ b, isName x = b := ⟨_, rfl⟩
        rw [hb]
        cases b
        · rintro e w1 ⟨rfl, hf1⟩
          have HF1 := hide hf1
          clear hf1
          go_wp2_with fail
          go_ret
          refine ⟨?_, HF.out.trans HF1.out⟩
          rw [HU.out, HST.out, hb, e1']; rfl
        · rintro e w1 ⟨rfl, hf1⟩
          have hown1 : w1.ownsMap Try.prog 9 (plainElem Try.prog 3) (w.heap.size + 1) kk D := by
            obtain ⟨es, clock, h3, h4⟩ := hown
            exact ⟨es, clock, by rw [hf1.block _ hms (fun e => e)]; exact h3, h4⟩
          have HF1 := hide hf1
          clear hf1
          go_wp2_with (first
            | (at_mapUpdate; refine wpList_mapUpdate_own _ rfl _ _ _ 60 rfl 9 3 law Try.underlying60 _ (w.heap.size + 1) kk _ rfl hown1 (by unfold maxLen; omega) _ _ _ rfl rfl hkey _ [] (plainElem_int Try.underlying3 (WalkArith.wf_i64 (by omega))) ?_; intro w2 hown2 hgrow2)
            | fail)
          go_roundw
          case rel =>
            have f12 : Fr (fun k => k = w.heap.size + 1) w1 w2 := (Fr.refl _ w1).grown hgrow2 (fun j hj => by cases hj; exact .inl rfl)
            refine ⟨i + 1, by omega, by go_num, (HF.out.trans HF1.out).trans' f12 (fun j hj e => by have e : j = w.heap.size + 1 := e; omega), ?_, ?_, ?_⟩
            · exact fr_heap (fr_heap HBX.out HF1.out (fun e => e)) f12 (fun e => by have e : w.heap.size = w.heap.size + 1 := e; omega)
            · refine cnt_up hkk hown.isMap HD.out HM.out hown2 (fun y hy => ?_) ?_
              · rw [HTK.out]; simp [has_snoc, Ne.symm hy]
              · rw [HTK.out]; simp [has_snoc]
            · rw [HU.out, HST.out, hb, e1']; simp
          case measure => simp [intOf]; omega
    · have hil : i = l.length := by omega
      subst hil
      have HF := hide hf
      have HU := hide hu
      clear hf hu hcn hbx
      go_wp2_with fail
      go_ret
      refine ⟨?_, HF.out⟩
      rw [HU.out, List.drop_length]; rfl
end Go.Proofs.Ytmjpfiecgkoaeaa
