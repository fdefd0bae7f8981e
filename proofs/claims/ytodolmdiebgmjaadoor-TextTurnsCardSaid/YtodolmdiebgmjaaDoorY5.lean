/- 'TextJoined', walked. -/
import Derived.Test.YtodolmdiebgmjaaDoorY4
namespace Go.Proofs.YtodolmdiebgmjaaDoor
open Go.RowKit

theorem RF.one {S : Nat → Prop} {w : World} {cs : List Value} {f : ByteArray × List ByteArray × Pu.TT 26} (h : RF S w cs f) : ∀ u, u ∈ cs → u.oneCell' = true := by
  obtain ⟨pv, b, rfl, h2, _, h4⟩ := h
  intro u hu
  simp only [List.mem_cons] at hu
  rcases hu with rfl | rfl | hu
  · rfl
  · exact oneCell_row h2
  · exact h4.one u hu
theorem Each.one {α : Type} {n : Nat} {P : List Value → α → Prop} (hp : ∀ c a, P c a → ∀ u, u ∈ c → u.oneCell' = true) : ∀ {l : List α} {xs : List Value}, Each n P xs l → ∀ u, u ∈ xs → u.oneCell' = true
  | [], _, h, u, hu => by rw [show _ = [] from h] at hu; simp at hu
  | _ :: _, _, ⟨ck, rest, h1, h2, h3, h4⟩, u, hu => by
    rw [h1, List.mem_append] at hu
    rcases hu with hu | hu
    · exact hp _ _ h3 u hu
    · exact Each.one hp h4 u hu

/-- One list behind another: what append does. -/
theorem app_run {base : Nat} {w : World} {v u : Value} {n m : Nat} {xs ys : List Value} {S : Nat → Prop} (ho : w.ownsRow base 35 9 v n xs) (hr : Row S w 35 9 u m ys) (h1 : ∀ y, y ∈ ys → y.oneCell' = true) (hn : n ≤ 2000) (hm : m ≤ 2000) (hb : base ≤ w.heap.size) :
    ∃ v' w', (Builtin.append_ #[22, 22] 22 #[v, u]).run Tryd.prog w = .ok v' w' ∧ w'.ownsRow base 35 9 v' (n + m) (xs ++ ys) ∧ w.grownBy w' v.ownBlock := by
  obtain ⟨i0, hi, hz0, hz1, hz2⟩ := info_parts Tryd.info35
  rcases hr.1.2 with ⟨rfl, hm0⟩ | ⟨g, cap, cur, rfl, _, _, _⟩
  · have hys : ys = [] := List.length_eq_zero_iff.1 (by rw [hr.1.1, hm0])
    subst hys hm0
    exact ⟨v, w, run_append_owned_none (P := Tryd.prog) w base 22 22 35 i0 9 Tryd.underlying22 hi v n xs ho, by simpa using ho, ⟨rfl, rfl, rfl, Nat.le_refl _, fun _ _ _ => rfl⟩⟩
  · obtain ⟨v', w', h2, h3, h4, _⟩ := run_append_own (P := Tryd.prog) w base 22 22 35 i0 _ 9 160 Tryd.underlying22 hi hz0 hz1 hz2 rfl (by decide) v n xs ho ⟨g, 0, none⟩ m cap ys hr.1.1 (World.ownsRow.cells hr.1 rfl) h1 (by unfold maxLen; omega) (by omega) hb
    exact ⟨v', w', h2, h3, h4⟩

/-- Behind an append onto a row of its own, older blocks stand. -/
theorem below_grown {base : Nat} {w w' : World} {v : Value} {n : Nat} {xs : List Value} (ho : w.ownsRow base 35 9 v n xs) (hg : w.grownBy w' v.ownBlock) (hb : base ≤ w.heap.size) : Below base w w' :=
  (Below.refl base w).grown hg hb (ownBlock_ge ho)

/-- An append whose run is known, wanted or guarded. -/
theorem wpList_append_run {P : Program} {w : World} {ops : Array Oper} {rest : List Oper} {o : Oper} {a : Act} {Q : Exit → Act → World → Prop} (s x : Operand) (t : TypeId) (hw : Region.wanted o (yielded ops a.tmps) = true)
    (ho : o.op = .call { callee := .builtin .append, args := #[s, x], argTypes := #[t, t] }) (v u v' : Value) (w' : World) (hs : a.eval s = v) (hx : a.eval x = u)
    (hrun : (Builtin.append_ #[t, t] o.type #[v, u]).run P w = .ok v' w') (h : wpList P ops Q rest (a.put o.dst v') w') : wpList P ops Q (o :: rest) a w :=
  wpList_step fun K hK => by
    rw [if_pos hw]
    unfold Oper.wp execOp
    simp only [ho, resolve, invoke, builtin, Sem.run_bind, Sem.run_pure, Result.andThen_ok, List.map_toArray, List.map_cons, List.map_nil, hs, hx, hrun]
    exact hK _ _ h

theorem join_size (s t : ByteArray) (h : s.size + t.size + 1 ≤ 1500) : (s ++ ⟨#[10]⟩ ++ t).size ≤ maxLen := by
  have e : (s ++ ⟨#[10]⟩ ++ t).size = s.size + 1 + t.size := by simp only [ByteArray.size_append]; rfl
  rw [e]; unfold maxLen; omega

set_option maxHeartbeats 1000000 in
set_option maxRecDepth 100000 in
theorem textJoined_any (s t : ByteArray) (w : World) (hs : s.size ≤ maxLen) (ht : t.size ≤ maxLen) (he : Env w) (h3 : 3 ≤ w.heap.size) :
    Calls Tryd.prog 5 #[.string s, .string t] w fun e w' => e = .returned (.bool true) ∧ Below w.heap.size w w' := by
  have HE := hide he
  have HS := hide hs
  have HT := hide ht
  clear he hs ht
  go_enter Tryd.func5, Tryd.ntmps5
  go_wp2_with fail
  refine (alive_any _ HE.out h3).mono ?_
  rintro e w1 ⟨rfl, hb1⟩
  have HB1 := hide hb1
  have hs1 := hb1.size
  have HE1 := hide (HE.out.below hb1 h3)
  clear hb1
  go_wp2_with fail
  refine (parse_call s _ HS.out HE1.out (by omega)).mono ?_
  rintro e w2 ⟨a2, c2, rfl, xa, hrow2, heach2, hb2⟩
  have HR2 := hide hrow2
  have HC2 := hide heach2
  have HB2 := hide hb2
  have hs2 := hb2.size
  have HE2 := hide (HE1.out.below hb2 (by omega))
  clear hrow2 heach2 hb2
  go_wp2_with fail
  refine (parse_call t _ HT.out HE2.out (by omega)).mono ?_
  rintro e w3 ⟨a3, c3, rfl, xb, hrow3, heach3, hb3⟩
  have HR3 := hide hrow3
  have HC3 := hide heach3
  have HB3 := hide hb3
  have hs3 := hb3.size
  have HE3 := hide (HE2.out.below hb3 (by omega))
  have hb13 : Below w.heap.size w w3 := (HB1.out.trans (HB2.out.mono hs1)).trans (hb3.mono (by omega))
  have HB13 := hide hb13
  clear hrow3 heach3 hb3 hb13
  by_cases hA : (Pu.parse s).2 = 0
  · by_cases hB : (Pu.parse t).2 = 0
    · have hsz := Pu.parse_size s hA
      have htz := Pu.parse_size t hB
      have qA : ((Pu.parse s).2 != 0) = false := by simp [hA]
      have qB : ((Pu.parse t).2 != 0) = false := by simp [hB]
      by_cases hl : s.size + t.size + 1 ≤ 1500
      · have hP := Pu.parse_line s t hA hB hl
        have HP := hide hP
        have HJ := hide (join_size s t hl)
        have HA := hide hA
        have HBB := hide hB
        clear hA hB hP
        go_wp2_with fail
        have hj := parse_call (s ++ ⟨#[10]⟩ ++ t) w3 HJ.out HE3.out (by omega)
        rw [HP.out] at hj
        refine hj.mono ?_
        clear hj
        rintro e w4 ⟨a4, c4, rfl, xc, hrow4, heach4, hb4⟩
        have hs4 := hb4.size
        have hb24 : Below w2.heap.size w2 w4 := HB3.out.trans (hb4.mono hs3)
        have ho0 : (w4.alloc (.cells #[] 35)).ownsRow w4.heap.size 35 9 (.slice (some ⟨w4.heap.size, 0, none⟩) 0 0) 0 [] := World.ownsRow_made w4 #[] 0 (Nat.le_refl _) (by unfold maxLen; omega) rfl
        have hbA : Below w4.heap.size w4 (w4.alloc (.cells #[] 35)) := (Below.refl _ _).alloc (Nat.le_refl _) _
        obtain ⟨v5, w5, hrun5, ho5, hg5⟩ := app_run ho0 (HR2.out.kept (S' := fun _ => True) (fun g _ hl => ⟨trivial, ((hb24.trans (hbA.mono hb24.size)).block g hl)⟩)) (Each.one (fun c a h => h.one) HC2.out) (by omega) (by have := Pu.parse_len s; omega) (by simp)
        have hb45 : Below w4.heap.size w4 w5 := hbA.trans (below_grown ho0 hg5 (by simp))
        obtain ⟨v6, w6, hrun6, ho6, hg6⟩ := app_run ho5 (HR3.out.kept (S' := fun _ => True) (fun g _ hl => ⟨trivial, ((hb4.trans (hb45.mono hb4.size)).block g hl)⟩)) (Each.one (fun c a h => h.one) HC3.out) (by have := Pu.parse_len s; omega) (by have := Pu.parse_len t; omega) hb45.size
        have hb46 : Below w4.heap.size w4 w6 := hb45.trans (below_grown ho5 hg6 hb45.size)
        have k2 : Each 9 (RF (fun _ => True) w6) xa (Pu.parse s).1 := HC2.out.mono fun c f hf => RF.kept (S' := fun _ => True) (fun g _ hl => ⟨trivial, (hb24.trans (hb46.mono hb24.size)).block g hl⟩) hf
        have k3 : Each 9 (RF (fun _ => True) w6) xb (Pu.parse t).1 := HC3.out.mono fun c f hf => RF.kept (S' := fun _ => True) (fun g _ hl => ⟨trivial, (hb4.trans (hb46.mono hb4.size)).block g hl⟩) hf
        have K6 := hide (Each.append k3 k2)
        have O6 := hide ho6
        have H46 := hide hb46
        have H4 := hide hb4
        have R4 := hide (hrow4.kept (S' := fun _ => True) (fun g _ hl => ⟨trivial, hb46.block g hl⟩))
        have C4 := hide (heach4.mono fun c f hf => RF.kept (S' := fun _ => True) (fun g _ hl => ⟨trivial, hb46.block g hl⟩) hf)
        have R5 := hide hrun5
        have R6 := hide hrun6
        clear ho0 hbA ho5 hg5 hb45 ho6 hg6 hb46 k2 k3 hb24 hb4 hrow4 heach4 hrun5 hrun6
        go_wp2_with (first
          | (at_builtin; refine wpList_append_run (.tmp 49) (.tmp 50) 22 rfl rfl _ _ v5 w5 rfl rfl R5.out ?_)
          | (at_builtin; refine wpList_append_run (.tmp 51) (.tmp 52) 22 rfl rfl _ _ v6 w6 rfl rfl R6.out ?_))
        have hrow6 : Row (fun _ => True) w6 35 9 v6 ((Pu.parse s).1 ++ (Pu.parse t).1).length (xa ++ xb) := by
          have := O6.out
          rw [List.nil_append, Nat.zero_add] at this
          rw [List.length_append]
          exact ⟨ownsRow_base this (Nat.zero_le _), fun _ _ => trivial⟩
        have R6' := hide hrow6
        clear hrow6
        have r4 := R4.out
        rw [List.length_append] at r4
        have hj := sameFns_eq (fun _ => True) (fun _ => True) _ v6 _ xc (xa ++ xb) w6 R4.out C4.out R6'.out K6.out
        rw [List.length_append] at hj
        refine hj.mono ?_
        clear hj r4
        rintro e w7 ⟨rfl, hb7⟩
        have HB7 := hide hb7
        clear hb7
        go_wp2_with fail
        go_ret
        have h47 : Below w4.heap.size w4 w7 := H46.out.trans (HB7.out.mono H46.out.size)
        exact ⟨rfl, (HB13.out.trans (H4.out.mono HB13.out.size)).trans (h47.mono (Nat.le_trans HB13.out.size H4.out.size))⟩
      · go_wp2_with fail
        go_ret
        exact ⟨rfl, HB13.out⟩
    · have qA : ((Pu.parse s).2 != 0) = false := by simp [hA]
      have qB : ((Pu.parse t).2 != 0) = true := by simp [hB]
      clear hA hB
      go_wp2_with fail
      go_ret
      exact ⟨rfl, HB13.out⟩
  · have qA : ((Pu.parse s).2 != 0) = true := by simp [hA]
    clear hA
    go_wp2_with fail
    go_ret
    exact ⟨rfl, HB13.out⟩

end Go.Proofs.YtodolmdiebgmjaaDoor
