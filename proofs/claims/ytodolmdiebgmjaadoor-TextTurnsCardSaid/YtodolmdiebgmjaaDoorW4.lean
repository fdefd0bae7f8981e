/- 'cases', walked, over a contract of the term's own. -/
import Derived.Test.YtodolmdiebgmjaaDoorW3
namespace Go.Proofs.YtodolmdiebgmjaaDoor
open Go.RowKit

theorem Tryd.info67 : (Tryd.prog.info? 67).map (fun i => (i.zero, i.size, i.bytes)) = some (some (.agg #[.int .i64 0, .slice none 0 0, .int .i64 0, .int .i64 0, .string ⟨#[]⟩, .string ⟨#[]⟩, .slice none 0 0, .slice none 0 0, .slice none 0 0]), 9, 152) := by kernel_rfl

theorem heap_set_lit {w : World} {g o : Nat} {cur cur' : Array Value} {t : TypeId} {u : Value} (h : w.heap[g]? = some (.cells cur t (0, 0))) (e : cur.setIfInBounds o u = cur') : (w.setCell ⟨g, o, none⟩ u).heap[g]? = some (.cells cur' t (0, 0)) := by
  rw [heap_setCell_at h o u, e]
theorem Fr.set_at {R g : Nat} {w : World} (o : Nat) (u : Value) : Fr g R w (w.setCell ⟨g, o, none⟩ u) := (Fr.refl g R w).setCell (Nat.le_refl _) u

-- a case, from its first bracket to its last: what the round does ahead of the append
set_option maxHeartbeats 1000000 in
theorem cases_ok (k : Nat) (hT : TermC k) (B R : Nat) (s : Pu.St) (a : Nat) (w : World) (h : Ok B w R s) (ha : a + k = 26) :
    Calls Tryd.prog 69 #[.pointer (some ⟨R, 0, none⟩), .int .i64 a] w fun e w' => ∃ v xs, e = .returned v ∧ w'.ownsRow w.heap.size 67 9 v (Pu.cases (Pu.term k) (s.ws.length + 1) s).1.length xs ∧
      Each 9 (RC (RT k (From w.heap.size) w') (From w.heap.size) w') xs (Pu.cases (Pu.term k) (s.ws.length + 1) s).1 ∧ Ok B w' R (Pu.cases (Pu.term k) (s.ws.length + 1) s).2 ∧ Fr w.heap.size R w w' := by
  obtain ⟨i0, hi, hz0, hz1, hz2⟩ := info_parts Tryd.info67
  have H := hide h
  have HA := hide ha
  have HT := hide hT
  clear h ha hT
  go_enter Tryd.func69, Tryd.ntmps69
  go_wp2_with fail
  go_loopg [5] (s.ws.length + 1) (fun gn v wr => ∃ acc st xs, wr.ownsRow w.heap.size 67 9 v acc.length xs ∧ Each 9 (RC (RT k (But w.heap.size v) wr) (But w.heap.size v) wr) xs acc ∧ Ok B wr R st ∧ Fr w.heap.size R w wr ∧
    Hid (Pu.cases (Pu.term k) (s.ws.length + 1) s = (acc ++ (Pu.cases (Pu.term k) gn st).1, (Pu.cases (Pu.term k) gn st).2)) ∧ st.ws.length < gn ∧ acc.length + st.ws.length ≤ 1600)
  case atStart =>
    refine ⟨[], s, [], World.ownsRow_nil _ _ _ _, rfl, H.out, Fr.refl _ _ _, ?_, by omega, ?_⟩
    · simp [Hid]
    · have := H.out.few; simpa using this
  case round =>
    obtain ⟨acc, st, xs, hown, heach, hok, hfr, hE, hlt, hle⟩ := hrel
    have HO := hide hown
    have HC := hide heach
    have HK := hide hok
    clear hown hok heach
    cases gk with
    | zero => omega
    | succ n =>
      go_wp2_with fail
      refine (more_ok B R st _ HK.out).mono ?_
      rintro e w2 ⟨rfl, hr2, hf2⟩
      have H2 := hide hr2
      clear hr2
      have hRb : R < w.heap.size := H.out.lt
      cases hm : (Pu.more st).1
      · have hE2 : Hid (Pu.cases (Pu.term k) (s.ws.length + 1) s = (acc, (Pu.more st).2)) := by
          have := hE.out; rw [Hid, this]; simp [Pu.cases, hm]
        clear hE
        go_wp2_with fail
        go_ret
        have hst : Stays (But w.heap.size u5) (From w.heap.size) wr w2 := fun j hj hl => ⟨hj.1, hf2.block j hl (by have := hj.1; omega)⟩
        refine ⟨_, xs, rfl, ?_, ?_, ?_, hfr.trans' hf2 hfr.size⟩
        · rw [hE2.out]; exact ownsRow_fr HO.out hf2 hRb
        · rw [hE2.out]; exact HC.out.mono fun c t ht => RC.kept hst (fun _ _ hc => RT.kept hst hc) ht
        · rw [hE2.out]; exact H2.out
      · obtain ⟨hms, hpos⟩ := Pu.more_true hm
        have H2 : Hid (Ok B w2 R st) := by have := H2.out; rw [hms] at this; exact this
        have hE2 : Hid (Pu.cases (Pu.term k) (s.ws.length + 1) s = (acc ++ (Pu.case1 (Pu.term k) st).1 :: (Pu.cases (Pu.term k) n (Pu.case1 (Pu.term k) st).2).1, (Pu.cases (Pu.term k) n (Pu.case1 (Pu.term k) st).2).2)) := by
          have := hE.out; rw [Hid, this]; simp [Pu.cases, hm, hms]
        clear hE
        go_wp2_with fail
        refine (expect_ok B R _ _ _ H2.out.alloc).mono ?_
        rintro e w3 ⟨rfl, hr3, hf3⟩
        have H3 := hide hr3
        clear hr3
        go_wp2_with fail
        refine (next_ok B R _ _ H3.out).mono ?_
        rintro e w4 ⟨rfl, hr4, hf4⟩
        have H4 := hide hr4
        clear hr4
        go_wp2_with fail
        refine (tag_ok B R _ _ _ H4.out H3.out.next_size).mono ?_
        rintro e w5 ⟨rfl, hr5, hf5⟩
        have H5 := hide hr5
        clear hr5
        have hR2 : R < w2.heap.size := H2.out.lt
        have hb5 := block_later (block_later (fresh_block hf3 hR2) hf4 (by omega)) hf5 (by omega)
        have F5 := hide (((hf3.trans' hf4 hf3.size).trans' hf5 (Nat.le_trans hf3.size hf4.size)).of_alloc)
        have c5 := cell_of_heap hb5
        have z5 := frozen_of_heap hb5
        have B5 := hide hb5
        clear hb5 hf3 hf4 hf5
        go_wp2_with fail
        clear c5 z5
        refine (names_ok B R _ _ (H5.out.setCell (Nat.le_trans H.out.bw (Nat.le_trans hfr.size hf2.size)))).mono ?_
        rintro e w6 ⟨vn, rfl, hn6, hr6, hf6⟩
        obtain ⟨an, cn, rfl⟩ := (Row.of_owns hn6).form
        have B6 := hide (block_later (heap_set_lit B5.out rfl) hf6 (by omega))
        have N6 := hide hn6
        have H6 := hide hr6
        have F6 := hide hf6
        clear hn6 hr6 hf6
        have c6 := cell_of_heap B6.out
        have z6 := frozen_of_heap B6.out
        go_wp2_with fail
        clear c6 z6
        refine (HT.out B R _ a _ (H6.out.setCell (Nat.le_trans H.out.bw (Nat.le_trans hfr.size hf2.size))) HA.out).mono ?_
        rintro e w7 ⟨cs, rfl, hrt, hr7, hf7⟩
        obtain ⟨kd, nn, x, a1, n1, q1, a2, n2, q2, rfl⟩ := hrt.form
        have B7 := hide (block_later (heap_set_lit B6.out rfl) hf7 (by omega))
        have R7 := hide hrt
        have H7 := hide hr7
        have F7 := hide hf7
        clear hrt hr7 hf7
        have c7 := cell_of_heap B7.out
        have z7 := frozen_of_heap B7.out
        go_wp2_with fail
        clear c7 z7
        refine (expect_ok B R _ _ _ (H7.out.set7 (Nat.le_trans H.out.bw (Nat.le_trans hfr.size hf2.size)))).mono ?_
        rintro e w8 ⟨rfl, hr8, hf8⟩
        have B8 := hide (block_later (heap_set_lit (heap_set_lit (heap_set_lit (heap_set_lit (heap_set_lit (heap_set_lit (heap_set_lit B7.out rfl) rfl) rfl) rfl) rfl) rfl) rfl) hf8 (by omega))
        have H8 := hide hr8
        have F8 := hide hf8
        clear hr8 hf8
        have c8 := cell_of_heap B8.out
        have g6 : Fr w2.heap.size R w2 w6 := (F5.out.setCell' (Nat.le_refl _)).on F6.out (Nat.le_refl _)
        have g7 : Fr w2.heap.size R w2 w7 := (g6.setCell' (Nat.le_refl _)).on F7.out (Nat.le_refl _)
        have g8 : Fr w2.heap.size R w2 w8 := (g7.set7 (Nat.le_refl _)).on F8.out (Nat.le_refl _)
        have hf : Fr wr.heap.size R wr w8 := hf2.trans' g8 hf2.size
        have hln := Pu.case1_less (Pu.term_suf k) hpos
        have HO8 := hide (ownsRow_fr HO.out hf hRb)
        have hsz : w.heap.size ≤ w8.heap.size := Nat.le_trans hfr.size hf.size
        have G6 := hide g6
        have G7 := hide g7
        have G8 := hide g8
        clear g6 g7 g8
        go_wp2_with (at_builtin; refine wpList_append_lies _ rfl _ _ 31 rfl w.heap.size 67 i0 _ 9 152 Tryd.underlying31 hi hz0 hz1 hz2 rfl (by decide) _ _ _ rfl (HO8.out.alloc _) ⟨w8.heap.size, 0, none⟩ 1 1 (.int .i64 (Pu.tag (Pu.next (Pu.expect ⟨#[40]⟩ st)).1 (Pu.next (Pu.expect ⟨#[40]⟩ st)).2).1 :: .slice an (Pu.names (Pu.tag (Pu.next (Pu.expect ⟨#[40]⟩ st)).1 (Pu.next (Pu.expect ⟨#[40]⟩ st)).2).2).1.length cn :: [.int .i64 kd, .int .i64 nn, .string x, .string ⟨#[]⟩, .slice none 0 0, .slice a1 n1 q1, .slice a2 n2 q2]) rfl rfl (World.news_of_block (heap_alloc_new _ _)) ?c2 (by decide) ?c3 ?c4 ?c5 (w8.heap.size + 1) ?c6 ?_)
        case c2 =>
          intro u hu
          simp only [List.mem_cons, List.not_mem_nil, or_false] at hu
          rcases hu with rfl | rfl | rfl | rfl | rfl | rfl | rfl | rfl | rfl <;> rfl
        case c3 => unfold maxLen; omega
        case c4 => omega
        case c5 => simp; omega
        case c6 => simp
        intro g cap w9 hown' hgrow' hgv hg9
        have HO9 := hide hown'
        have HG9 := hide hgrow'
        have HV := hide hgv
        clear hown' hgrow' hgv
        clear c8
        go_wp2_with fail
        go_roundg n
        case measure => omega
        case rel =>
          have hg := HG9.out
          have hown := HO9.out
          have hkk := ownBlock_ge HO8.out
          have hlt4 := HO.out.lt
          have z2 := hf2.size
          have z5 := F5.out.size
          have z6 := G6.out.size
          have z7 := G7.out.size
          have x5 : w2.heap.size < w5.heap.size := (Array.getElem?_eq_some_iff.1 B5.out).1
          have x6 : w5.heap.size ≤ w6.heap.size := by have := F6.out.size; rw [size_set] at this; exact this
          have x7 : w6.heap.size ≤ w7.heap.size := by have := F7.out.size; rw [size_set] at this; exact this
          have x8 : w7.heap.size ≤ w8.heap.size := by have := F8.out.size; rw [size_set7] at this; exact this
          have st78 : ∀ X, w2.heap.size < X → Stays (From X) (From X) w7 w8 := fun X hX =>
            (stays_set7 (by show ¬ X ≤ w2.heap.size; omega)).trans (stays_fr F8.out (by omega) (Nat.le_refl _)) (by rw [size_set7]; exact Nat.le_refl _)
          have st68 : ∀ X, w2.heap.size < X → Stays (From X) (From X) w6 w8 := fun X hX =>
            ((stays_set (by show ¬ X ≤ w2.heap.size; omega)).trans (stays_fr F7.out (by omega) (Nat.le_refl _)) (by rw [size_set]; exact Nat.le_refl _)).trans (st78 X hX) x7
          have st9 : ∀ X, w2.heap.size < X → Stays (From X) (But w.heap.size (.slice (some ⟨g, 0, none⟩) (acc.length + 1) cap)) w8 w9 := fun X hX =>
            stays_new (by have := hfr.size; omega) (fun j hj => by have := (hlt4 j hj).2; omega) hg HV.out
          refine ⟨acc ++ [(Pu.case1 (Pu.term k) st).1], (Pu.case1 (Pu.term k) st).2, _, by rw [List.length_append]; exact hown, ?_, ?_, ?_, ?_, ?_, ?_⟩
          · have hsa := stays_append (B := w.heap.size) (n := acc.length + 1) (cap := cap) hf hRb hg HV.out
            have e1 : Each 9 (RC (RT k (But w.heap.size (.slice (some ⟨g, 0, none⟩) (acc.length + 1) cap)) w9) (But w.heap.size (.slice (some ⟨g, 0, none⟩) (acc.length + 1) cap)) w9) xs acc :=
              HC.out.mono fun c t ht => RC.kept hsa (fun _ _ hc => RT.kept hsa hc) ht
            refine Each.snoc (n := 9) rfl ?_ e1
            refine ⟨_, _, rfl, ?_, rfl, ?_⟩
            · exact ((Row.of_owns N6.out).kept (st68 _ (by rw [size_set]; omega))).kept (st9 _ (by rw [size_set]; omega))
            · exact RT.kept (st9 _ (by rw [size_set]; omega)) (RT.kept (st78 _ (by rw [size_set]; omega)) R7.out)
          · exact (H8.out.alloc).below ((Below.refl B _).grown hg (by have := H8.out.bw; simp; omega) (fun j hj => by have := hkk j hj; have := H.out.bw; omega)) (Nat.le_refl _)
          · exact ((hfr.trans' hf hfr.size).alloc hsz _).grown hg (by simp; omega) hkk
          · simp only [Hid]; rw [hE2.out]; simp
          · omega
          · simp; omega

end Go.Proofs.YtodolmdiebgmjaaDoor
