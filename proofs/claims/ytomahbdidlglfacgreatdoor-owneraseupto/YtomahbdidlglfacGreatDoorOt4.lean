/- own: 'of' with the closure of 'repeated'; 'repeated', walked. -/
import Derived.Test.YtomahbdidlglfacGreatDoorPn0PapOd1Ot2Ot3
namespace Go.Proofs.YtomahbdidlglfacGreatDoor
open Go.RowKit Go.Maps Go.WideMaps

set_option maxHeartbeats 2000000 in
theorem of_rep (B mb b : Nat) (v : Value) (l : List ByteArray) (w : World) (hm : w.heap[mb]? = some (.cells #[.map (some b)] 51 (0, 0))) (hc : CntAt w b 0 (fun _ => 0)) (hl : Names B w v l) (hB : B ≤ w.heap.size) (hn : l.length ≤ 1073741824) (hbB : B ≤ b) :
    Calls Tryz.prog 74 #[.func (.func 126) #[] #[.pointer (some ⟨mb, 0, none⟩)], v] w fun e w' => ∃ r, e = .returned r ∧ Fr (· = b) w w' ∧ w'.ownsRow w.heap.size 9 1 r (rep l).length ((rep l).map .string) := by
  obtain ⟨a0, cp0, rfl, hcp1, hcp2⟩ := hl.1.form
  have eg : ∀ args w, (callFunc 126 args).run Tryz.prog w = .ok (.enter 126 args) w := fun args w => Tryz.call126 args w
  obtain ⟨i0, hif, hz0, hz1, hz2⟩ := info_parts Tryz.info9
  have nb : mb ≠ b := hc.ne_cells hm
  have HL := hide hl
  have HB := hide hB
  have HN := hide hn
  have HM := hide hm
  have HC := hide hc
  have HBB := hide hbB
  have lb := hc.lt
  clear hl hB hn hm hc hbB
  go_enter Tryz.func74, Tryz.ntmps74
  go_wp2_with fail
  go_loopw [5, 10] (fun r i wr => ∃ k : Nat, k ≤ l.length ∧ i = .int .i64 k ∧ Fr (· = b) w wr ∧ wr.ownsRow w.heap.size 9 1 r (repTo l k).length ((repTo l k).map .string) ∧ CntAt wr b k (Pu.with' (fun _ => 0) (l.take k))) (fun _ i _ => l.length - (intOf i).toNat)
  case atStart => exact ⟨0, Nat.zero_le _, rfl, Fr.refl _ _, World.ownsRow_nil _ _ _ _, by rw [show Pu.with' (fun _ => 0) (l.take 0) = (fun _ => 0) from with_nil _]; exact HC.out⟩
  case round =>
    obtain ⟨k, hk, rfl, hf, hrow, hcn⟩ := hrel
    obtain ⟨ra, rc, rfl⟩ := row_form hrow
    by_cases hlt : k < l.length
    · have hl1 : Names B wr (.slice a0 l.length cp0) l := HL.out.kept (hf.old HB.out (fun i hi e => by have e : i = b := e; have := HBB.out; omega)) (Nat.le_refl _) hf.size
      obtain ⟨g, o, cp, hv, _, hg, hgw, hcell', hsz⟩ := hl1.at hlt
      injection hv with hv1 _ hv2
      subst hv1 hv2
      have hft := repTo_succ l k hlt
      have hfl := repTo_le l k
      have hws := with_snoc (fun _ => 0) l k hlt
      have hhc := has_count (l.take k) l[k]
      have hcw : Pu.with' (fun _ => 0) (l.take k) l[k] = (l.take k).countP (fun y => decide (y = l[k])) := Nat.zero_add _
      rw [← hcw] at hhc
      have hcl : Pu.with' (fun _ => 0) (l.take k) l[k] ≤ k := by
        rw [hcw]
        have h1 := List.countP_le_length (p := fun y => decide (y = l[k])) (l := l.take k)
        rw [List.length_take] at h1
        omega
      obtain ⟨x, hx⟩ : ∃ x, x = l[k] := ⟨_, rfl⟩
      rw [← hx] at hcell' hsz hft hws hhc hcl
      obtain ⟨acc, hacc⟩ : ∃ acc, acc = repTo l k := ⟨_, rfl⟩
      rw [← hacc] at hrow hft hfl ⊢
      rw [← hhc] at hft
      have hn2 := HN.out
      have CR : Hid (Calls Tryz.prog 126 #[.string x, .pointer (some ⟨mb, 0, none⟩)] wr fun e w' => e = .returned (.bool (decide (0 < Pu.with' (fun _ => 0) (l.take k) x))) ∧ Fr (· = b) wr w' ∧ CntAt w' b (k + 1) (Pu.with' (fun _ => 0) (l.take (k + 1)))) :=
        (rep1_any mb b k _ x wr (fr_heap HM.out hf nb) hcn hsz (by omega) (by omega)).mono fun e w' ⟨he, hf', hc'⟩ => ⟨he, hf', by
          have e : Pu.with' (fun _ => 0) (l.take (k + 1)) = (fun y => if y = x then Pu.with' (fun _ => 0) (l.take k) x + 1 else Pu.with' (fun _ => 0) (l.take k) y) := by
            funext y
            rw [hws y]
            by_cases h : y = x
            · subst h; simp
            · simp [h, Ne.symm h]
          rw [e]; exact hc'⟩
      obtain ⟨q, hq⟩ : ∃ q, q = Pu.with' (fun _ => 0) (l.take k) x := ⟨_, rfl⟩
      rw [← hq] at CR hft
      have HFT := hide hft
      have HF := hide hf
      have HR := hide hrow
      have hal : acc.length ≤ 1073741824 := by omega
      clear hsz hft hf hl1 hx hacc hrow hcn hws hhc hcw hcl hq
      have i1 : (k : Int) < (l.length : Int) := by omega
      have i0' : (0 : Int) ≤ (k : Int) := by omega
      unfold maxLen at hcp2
      go_wp2_with fail
      refine CR.out.mono ?_
      rintro e w1 ⟨rfl, hf1, hc1⟩
      have F1 := hide (HF.out.trans hf1)
      have HC1 := hide hc1
      have hrow1 := row_fr HR.out hf1 (fun j hj e => by have e : j = b := e; have := (HR.out.lt j hj).1; omega)
      have s1 := (HF.out.trans hf1).size
      have hne : ∀ j, (Value.slice ra acc.length rc).ownBlock = some j → j ≠ b := fun j hj e => by have := (HR.out.lt j hj).1; omega
      have HNE := hide hne
      clear hf1 hc1 CR hne
      by_cases hp : 0 < q
      · rw [decide_eq_true hp]
        have hft2 := HFT.out
        rw [if_pos (decide_eq_true hp)] at hft2
        have HF2 := hide hft2
        clear hft2 hp hcell' HFT
        go_wp2_with (first
          | (at_builtin; refine wpList_append_own_at _ rfl _ _ 28 rfl w.heap.size 9 i0 (.string ⟨#[]⟩) 1 16 Tryz.underlying28 hif hz0 hz1 hz2 rfl (by decide) _ _ _ rfl (hrow1.alloc _) ⟨w1.heap.size, 0, none⟩ 1 1 [.string x] rfl rfl (cell_one_new _ _ _) (by simp [Value.oneCell']) (by unfold maxLen; omega) (by omega) (by simp; omega) ?_; intro v' w2 hown' hgrow2 hnil hloc; obtain ⟨a', c', rfl⟩ := row_form hown')
          | fail)
        go_wp2_with fail
        go_roundw
        case rel =>
          refine ⟨k + 1, by omega, by go_num, ?_, ?_, ?_⟩
          · exact (F1.out.alloc _).grown hgrow2 (fun j hj => .inr ((hrow1.lt j hj).1))
          · rw [HF2.out, List.length_append, List.map_append]
            simpa using hown'
          · exact HC1.out.kept ((hgrow2.block b (by rw [World.size_alloc]; exact Nat.lt_succ_of_lt HC1.out.lt) (fun e => HNE.out b e.symm rfl)).trans (((Fr.refl No w1).alloc _).block b HC1.out.lt (fun e => e)))
        case measure => simp [intOf]; omega
      · rw [decide_eq_false hp]
        have hft2 := HFT.out
        rw [if_neg (by simpa using hp), List.append_nil] at hft2
        have HF2 := hide hft2
        have HR1 := hide hrow1
        clear hft2 hp hcell' hrow1 HFT
        go_wp2_with fail
        go_roundw
        case rel =>
          refine ⟨k + 1, by omega, by go_num, F1.out, ?_, HC1.out⟩
          rw [HF2.out]
          exact HR1.out
        case measure => simp [intOf]; omega
    · have hkl : k = l.length := by omega
      subst hkl
      have HR := hide hrow
      have HF := hide hf
      clear hf hrow hcn
      go_wp2_with fail
      go_ret
      exact ⟨_, rfl, HF.out, HR.out⟩

theorem rep_sub (l : List ByteArray) : ∀ y ∈ rep l, y ∈ l := by
  intro y hy
  unfold rep repTo at hy
  obtain ⟨j, hj, rfl⟩ := List.mem_map.1 hy
  have h := List.mem_range.1 (List.mem_filter.1 hj).1
  rw [List.getD_eq_getElem?_getD, List.getElem?_eq_getElem h]
  exact List.getElem_mem h

set_option maxHeartbeats 2000000 in
theorem repeated_any (B : Nat) (v : Value) (l : List ByteArray) (w : World) (hl : Names B w v l) (hB : B ≤ w.heap.size) (hn : l.length ≤ 1073741824) :
    Calls Tryz.prog 108 #[v] w fun e w' => ∃ a c, e = .returned (.slice a (rep l).length c) ∧ Fr No w w' ∧ Names w'.heap.size w' (.slice a (rep l).length c) (rep l) := by
  obtain ⟨a0, cp0, rfl, hcp1, hcp2⟩ := hl.1.form
  have hmf : ∀ (fn : Fn) (first cap : Array Value) (w : World), (Instr.makeFunc fn first cap).run Tryz.prog w = .ok (.func fn first cap) w := fun _ _ _ _ => rfl
  have hmm := @run_makeMap Tryz.prog
  obtain ⟨W0, hW0⟩ : ∃ W0, W0 = (w.alloc (.map #[] 0)).alloc (.cells #[.map (some w.heap.size)] 51) := ⟨_, rfl⟩
  have f0 : Fr No w W0 := by rw [hW0]; exact ((Fr.refl No w).alloc _).alloc _
  have c0 : CntAt W0 w.heap.size 0 (fun _ => 0) := by
    rw [hW0]
    have h : CntAt (w.alloc (.map #[] 0)) w.heap.size 0 (fun _ => 0) := ⟨_, MapC.made w, fun x => by simp⟩
    exact h.fr ((Fr.refl No _).alloc _) (fun e => e)
  have b0 : W0.heap[w.heap.size + 1]? = some (.cells #[.map (some w.heap.size)] 51 (0, 0)) := by
    have h := heap_alloc_new (w.alloc (.map #[] 0)) (.cells #[.map (some w.heap.size)] 51)
    rw [World.size_alloc, ← hW0] at h
    exact h
  have CO : Hid (Calls Tryz.prog 74 #[.func (.func 126) #[] #[.pointer (some ⟨w.heap.size + 1, 0, none⟩)], .slice a0 l.length cp0] W0 fun e w' => ∃ a c, e = .returned (.slice a (rep l).length c) ∧ Fr No w w' ∧ Names w'.heap.size w' (.slice a (rep l).length c) (rep l)) :=
    (of_rep B (w.heap.size + 1) w.heap.size _ l W0 b0 c0 (hl.kept (f0.old hB (fun _ _ e => e)) (Nat.le_refl _) f0.size) (Nat.le_trans hB f0.size) hn hB).mono fun e w' ⟨r, he, hf, hr⟩ => by
      obtain ⟨a, c, rfl⟩ := row_form hr
      exact ⟨a, c, he, f0.trans' hf (fun i hi e => by have e : i = w.heap.size := e; omega), own_names hr rfl (fun y hy => hl.2 y (rep_sub l y hy))⟩
  have HW0 := hide hW0
  clear hl hB hn hW0 f0 c0 b0
  go_enter Tryz.func108, Tryz.ntmps108
  go_wp2_with fail
  rw [← HW0.out]
  refine CO.out.mono ?_
  rintro e w1 ⟨a, c, rfl, hf, hn⟩
  have H1 := hide (And.intro hf hn)
  clear hf hn
  go_wp2_with fail
  go_ret
  exact ⟨_, _, rfl, H1.out.1, H1.out.2⟩
end Go.Proofs.YtomahbdidlglfacGreatDoor
