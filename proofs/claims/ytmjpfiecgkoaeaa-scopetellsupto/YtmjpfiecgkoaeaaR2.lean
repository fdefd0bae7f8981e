/- The document's 'Free': names that are put, walked. -/
import Derived.Test.YtmjpfiecgkoaeaaR1
import Derived.Test.YtmjpfiecgkoaeaaPf
namespace Go.Proofs.Ytmjpfiecgkoaeaa
open Go.RowKit Go.Maps Go.WideMaps

/-- What is put together so far. -/
structure Out (b O : Nat) (w : World) (acc : List ByteArray) (v : Value) : Prop where
  box : w.heap[O]? = some (.cells #[v] 23 (0, 0))
  row : w.ownsRow b 9 1 v acc.length (acc.map .string)
  sh : Short acc
def MvT (O : Nat) (v : Value) : Nat → Prop := fun k => k = O ∨ v.ownBlock = some k
def Mv (O : Nat) (w w' : World) (v v' : Value) : Prop := Fr (MvT O v) w w' ∧ (v'.ownBlock = v.ownBlock ∨ ∃ g, v'.ownBlock = some g ∧ w.heap.size ≤ g)
theorem Mv.refl {O : Nat} {w : World} {v : Value} : Mv O w w v v := ⟨Fr.refl _ _, .inl rfl⟩
theorem Mv.trans {O : Nat} {w w' w'' : World} {v v' v'' : Value} (h : Mv O w w' v v') (k : Mv O w' w'' v' v'') : Mv O w w'' v v'' := by
  refine ⟨h.1.trans' k.1 ?_, ?_⟩
  · rintro i hi (e | e)
    · exact .inl e
    · rcases h.2 with h2 | ⟨g, h2, h3⟩
      · exact .inr (h2 ▸ e)
      · rw [h2] at e; injection e with e; omega
  · rcases k.2 with k2 | ⟨g, k2, k3⟩
    · rw [k2]; exact h.2
    · exact .inr ⟨g, k2, Nat.le_trans h.1.size k3⟩
theorem Mv.no {O : Nat} {w w' w'' : World} {v v' : Value} (h : Mv O w w' v v') (k : Fr No w' w'') : Mv O w w'' v v' := ⟨h.1.no k, h.2⟩
theorem Out.fr {b O : Nat} {w w' : World} {acc : List ByteArray} {v : Value} (h : Out b O w acc v) (hf : Fr No w w') : Out b O w' acc v := ⟨fr_heap h.box hf (fun e => e), row_fr h.row hf (fun _ _ e => e), h.sh⟩

theorem putOne_no1 {bt acc : List ByteArray} {x : ByteArray} (h : Pu.has bt x = true) : Pu.putOne bt acc x = acc := by unfold Pu.putOne; rw [if_neg]; rw [h]; rintro ⟨e, _⟩; cases e
theorem putOne_no2 {bt acc : List ByteArray} {x : ByteArray} (h : Pu.has acc x = true) : Pu.putOne bt acc x = acc := by unfold Pu.putOne; rw [if_neg]; rw [h]; rintro ⟨_, e⟩; cases e
theorem putOne_yes {bt acc : List ByteArray} {x : ByteArray} (h : Pu.has bt x = false) (h2 : Pu.has acc x = false) : Pu.putOne bt acc x = acc ++ [x] := by unfold Pu.putOne; rw [if_pos ⟨h, h2⟩]
theorem putOne_len (bt acc : List ByteArray) (x : ByteArray) : (Pu.putOne bt acc x).length ≤ acc.length + 1 := by unfold Pu.putOne; split <;> simp
theorem putAll_len (bt : List ByteArray) : ∀ (l acc : List ByteArray), (Pu.putAll bt acc l).length ≤ acc.length + l.length
  | [], _ => by simp [Pu.putAll]
  | x :: l, acc => by
    have h1 := putAll_len bt l (Pu.putOne bt acc x)
    have h2 := putOne_len bt acc x
    show (Pu.putAll bt (Pu.putOne bt acc x) l).length ≤ _
    simp only [List.length_cons]
    omega
theorem putAll_succ (bt acc l : List ByteArray) (i : Nat) (h : i < l.length) : Pu.putAll bt acc (l.take (i + 1)) = Pu.putOne bt (Pu.putAll bt acc (l.take i)) l[i] := by
  unfold Pu.putAll
  rw [List.take_succ_eq_append_getElem h, List.foldl_append]
  rfl

set_option maxHeartbeats 2000000 in
theorem put_any (b O B1 B2 : Nat) (w : World) (lv bv : Value) (l bt acc : List ByteArray) (v : Value) (hout : Out b O w acc v) (hb : b ≤ w.heap.size) (hl : ∀ w' v', Mv O w w' v v' → Names B1 w' lv l) (hbt : ∀ w' v', Mv O w w' v v' → Names B2 w' bv bt) (hn : acc.length + l.length < 1099511627776) :
    Calls Try.prog 37 #[lv, bv, .pointer (some ⟨O, 0, none⟩)] w fun e w' => e = .returned (.tuple #[]) ∧ ∃ v', Out b O w' (Pu.putAll bt acc l) v' ∧ Mv O w w' v v' := by
  obtain ⟨a0, c0, rfl, hc, hc'⟩ := (hl w v Mv.refl).1.form
  obtain ⟨a1, c1, rfl, hc1, hc1'⟩ := (hbt w v Mv.refl).1.form
  unfold maxLen at hc' hc1'
  have HL := hide hl
  have HBT := hide hbt
  have HO := hide hout
  clear hl hbt hout
  obtain ⟨i00, hii, hz0, hz1, hz2⟩ := info_parts Try.info9
  go_enter Try.func37, Try.ntmps37
  go_wp2_with fail
  go_loopw [9] (fun q wr => ∃ i : Nat, i ≤ l.length ∧ q = .int .i64 i ∧ ∃ vr, Out b O wr (Pu.putAll bt acc (l.take i)) vr ∧ Mv O w wr v vr) (fun q _ => l.length - (intOf q).toNat)
  case atStart => exact ⟨0, Nat.zero_le _, rfl, v, HO.out, Mv.refl⟩
  case round =>
    obtain ⟨i, hi, rfl, vr, ho, hm⟩ := hrel
    have hszw := hm.1.size
    by_cases hlt : i < l.length
    · obtain ⟨g, o, cp, hv, _, _, hg, hcell, hszz⟩ := (HL.out wr vr hm).at hlt
      injection hv with hv1 _ hv2
      subst hv1 hv2
      have hst := putAll_succ bt acc l i hlt
      have hlen := putAll_len bt (l.take i) acc
      rw [List.length_take] at hlen
      obtain ⟨z, hz⟩ : ∃ z, z = l[i] := ⟨_, rfl⟩
      rw [← hz] at hcell hst hszz
      obtain ⟨ac, hac⟩ : ∃ ac, ac = Pu.putAll bt acc (l.take i) := ⟨_, rfl⟩
      rw [← hac] at ho hst hlen
      have c1 := has_any B2 _ bt z wr (HBT.out wr vr hm)
      have c2 := has_any wr.heap.size vr ac z wr (names_of_row ho.row ho.sh)
      obtain ⟨b1, hb1⟩ : ∃ b1, b1 = Pu.has bt z := ⟨_, rfl⟩
      obtain ⟨b2, hb2⟩ : ∃ b2, b2 = Pu.has ac z := ⟨_, rfl⟩
      rw [← hb1] at c1
      rw [← hb2] at c2
      obtain ⟨ar, cr, hvr⟩ := row_form ho.row
      subst hvr
      have k0 : wr.cell? ⟨O, 0, none⟩ = some (.slice ar ac.length cr) := by rw [cell_of_heap ho.box]; rfl
      have hOl : O < wr.heap.size := lt_of_heap ho.box
      have C1 := hide c1
      have C2 := hide c2
      have HB1 := hide hb1
      have HB2 := hide hb2
      have HST := hide hst
      have HOUT := hide ho
      have HM := hide hm
      have hrow := ho.row
      have HSZ := hide hszz
      have i1 : (i : Int) < (l.length : Int) := by omega
      have i0 : (0 : Int) ≤ (i : Int) := by omega
      clear hz hac c1 c2 hb1 hb2 hst ho hm hszz
      have HG : Hid (∀ (w5 : World), (wr.alloc (.cells #[.string z] 9)).grownBy w5 (Value.slice ar ac.length cr).ownBlock → w5.heap[O]? = some (.cells #[.slice ar ac.length cr] 23 (0, 0)) ∧ w5.cell? ⟨O, 0, none⟩ = some (.slice ar ac.length cr) ∧ w5.frozen? ⟨O, 0, none⟩ = false ∧ Fr (MvT O (.slice ar ac.length cr)) wr w5) := by
        intro w5 hg5
        have fg : Fr (fun a => (Value.slice ar ac.length cr).ownBlock = some a) wr w5 := ((Fr.refl _ wr).alloc _).grown hg5 (fun a ha => .inl ha)
        have hb5 := fr_heap HOUT.out.box fg (row_ne_cells HOUT.out.row HOUT.out.box (by decide))
        exact ⟨hb5, by rw [cell_of_heap hb5]; rfl, frozen_of_heap hb5 0, fg.mono (fun _ _ e => .inr e)⟩
      go_wp2_with fail
      refine C1.out.mono ?_
      rintro e w4 ⟨rfl, hw4⟩
      rw [hw4]
      clear hw4 C1
      cases b1 with
      | true =>
        go_wp2_with fail
        go_roundw
        case rel => exact ⟨i + 1, by omega, by go_num, _, by rw [HST.out, putOne_no1 HB1.out.symm]; exact HOUT.out, HM.out⟩
        case measure => simp [intOf]; omega
      | false =>
        go_wp2_with fail
        refine C2.out.mono ?_
        rintro e w4 ⟨rfl, hw4⟩
        rw [hw4]
        clear hw4 C2
        cases b2 with
        | true =>
          go_wp2_with fail
          go_roundw
          case rel => exact ⟨i + 1, by omega, by go_num, _, by rw [HST.out, putOne_no2 HB2.out.symm]; exact HOUT.out, HM.out⟩
          case measure => simp [intOf]; omega
        | false =>
          go_wp2_with (first
            | (at_builtin; refine wpList_append_own_at _ rfl _ _ 23 rfl b 9 i00 (.string ⟨#[]⟩) 1 16 Try.underlying23 hii hz0 hz1 hz2 rfl (by decide) _ _ _ rfl (hrow.alloc _) ⟨wr.heap.size, 0, none⟩ 1 1 [.string z] rfl rfl (cell_one_new _ _ _) (by simp [Value.oneCell']) (by unfold maxLen; omega) (by omega) (by simp; omega) ?_; intro v' w5 hown' hgrow5 hnil hloc; obtain ⟨hbx5, c5, zz5, ff5⟩ := HG.out w5 hgrow5; obtain ⟨a', c', rfl⟩ := row_form hown')
            | fail)
          go_roundw
          case rel =>
            refine ⟨i + 1, by omega, by go_num, .slice a' (ac.length + 1) c', ?_, ?_⟩
            · rw [HST.out, putOne_yes HB1.out.symm HB2.out.symm]
              have hne : ∀ a, (Value.slice a' (ac.length + 1) c').ownBlock = some a → ¬ a = O := fun a ha e2 => row_ne_cells hown' hbx5 (by decide) (by rw [ha, e2])
              refine ⟨one_set hbx5, ?_, ?_⟩
              · have := row_fr hown' ((Fr.refl (· = O) w5).setCell (p := ⟨O, 0, none⟩) (.inl rfl) (.slice a' (ac.length + 1) c')) hne
                simpa using this
              · intro y hy
                rcases List.mem_append.1 hy with h | h
                · exact HOUT.out.sh y h
                · simp at h; subst h; exact HSZ.out
            · refine HM.out.trans ⟨ff5.setCell (.inl (.inl rfl)) _, ?_⟩
              rcases hloc with h | h
              · exact .inl h
              · exact .inr ⟨_, h, by simp⟩
          case measure => simp [intOf]; omega
    · have hil : i = l.length := by omega
      subst hil
      rw [List.take_length] at ho
      have HOUT := hide ho
      have HM := hide hm
      clear ho hm
      go_wp2_with fail
      go_end0
      exact ⟨rfl, vr, HOUT.out, HM.out⟩
end Go.Proofs.Ytmjpfiecgkoaeaa
