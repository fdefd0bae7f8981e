/- 'Has' and 'ScopeNeeds', walked. -/
import Derived.Test.YtmjpfiecgkoaeaaL3
import Derived.Test.YtmjpfiecgkoaeaaNp
namespace Go.Proofs.Ytmjpfiecgkoaeaa
open Go.RowKit Go.Maps Go.WideMaps

theorem has_take (l : List ByteArray) (i : Nat) (h : i < l.length) (x : ByteArray) : Pu.has (l.take (i + 1)) x = (Pu.has (l.take i) x || decide (l[i] = x)) := by
  rw [List.take_succ_eq_append_getElem h, has_snoc]

theorem str_eq {x : ByteArray} : (x.toList == x.toList) = true := by simp

set_option maxHeartbeats 1000000 in
theorem has_any (B : Nat) (v : Value) (l : List ByteArray) (x : ByteArray) (w : World) (hl : Names B w v l) :
    Calls Try.prog 21 #[v, .string x] w fun e w' => e = .returned (.bool (Pu.has l x)) ∧ w' = w := by
  obtain ⟨a0, c0, rfl, hc, hc'⟩ := hl.1.form
  unfold maxLen at hc'
  have HL := hide hl
  clear hl
  go_enter Try.func21, Try.ntmps21
  go_wp2_with fail
  go_loop [9] (fun q => ∃ i : Nat, i ≤ l.length ∧ q = .int .i64 i ∧ Pu.has (l.take i) x = false) (fun q => l.length - (intOf q).toNat)
  case atStart => exact ⟨0, Nat.zero_le _, rfl, rfl⟩
  case round =>
    obtain ⟨i, hi, rfl, hh⟩ := hrel
    have HH := hide hh
    clear hh
    by_cases hlt : i < l.length
    · obtain ⟨g, o, cp, hv, _, _, hg, hcell, _⟩ := HL.out.at hlt
      injection hv with hv1 _ hv2
      subst hv1 hv2
      have hst := has_take l i hlt x
      obtain ⟨z, hz⟩ : ∃ z, z = l[i] := ⟨_, rfl⟩
      rw [← hz] at hcell hst
      have HST := hide hst
      have HZ := hide hz
      clear hst hz
      have i1 : (i : Int) < (l.length : Int) := by omega
      have i0 : (0 : Int) ≤ (i : Int) := by omega
      by_cases e : z = x
      · subst e
        go_wp2_with fail
        go_ret
        have ht : Pu.has (l.take (i + 1)) z = true := by rw [HST.out]; simp
        have h2 : Pu.has l z = true := by
          unfold Pu.has at ht ⊢
          rw [List.any_eq_true] at ht ⊢
          obtain ⟨y, hy, hy2⟩ := ht
          exact ⟨y, List.mem_of_mem_take hy, hy2⟩
        rw [h2]
        exact ⟨rfl, rfl⟩
      · have e' := str_ne' e
        go_wp2_with fail
        go_round
        case rel => exact ⟨i + 1, by omega, by go_num, by rw [HST.out, HH.out, decide_eq_false e]; rfl⟩
        case measure => simp [intOf]; omega
    · have hil : i = l.length := by omega
      subst hil
      go_wp2_with fail
      go_ret
      have := HH.out
      rw [List.take_length] at this
      rw [this]
      exact ⟨rfl, rfl⟩

set_option maxHeartbeats 4000000 in
theorem scopeNeeds_any (k B : Nat) (w : World) (v : Value) (l : List (Pu.Fn k)) (q p : Int) (hl : Fns k B w v l) (hB : B ≤ w.heap.size) (hw : (l.map wf).sum ≤ 2097152) (hq : (Lit.int .i64 q).wf = true) (hp : (Lit.int .i64 p).wf = true) :
    Calls Try.prog 5 #[v, .int .i64 q, .int .i64 p] w fun e w' => e = .returned (.bool true) ∧ Fr No w w' := by
  have hform : ∃ a cap, v = .slice a l.length cap ∧ l.length ≤ cap ∧ cap ≤ maxLen := by obtain ⟨acs, hr, _⟩ := hl; exact hr.form
  obtain ⟨a0, cp0, rfl, hcp1, hcp2⟩ := hform
  unfold maxLen at hcp2
  have hq' : -9223372036854775808 ≤ q ∧ q ≤ 9223372036854775807 := by simpa [Lit.wf, IntKind.min, IntKind.max, IntKind.signed, IntKind.bits] using hq
  have hp' : -9223372036854775808 ≤ p ∧ p ≤ 9223372036854775807 := by simpa [Lit.wf, IntKind.min, IntKind.max, IntKind.signed, IntKind.bits] using hp
  have HL := hide hl
  clear hl hq hp
  go_enter Try.func5, Try.ntmps5
  go_wp2_with fail
  refine (alive_any _).mono ?_
  rintro e w1 ⟨rfl, hf1⟩
  have F1 := hide hf1
  clear hf1
  go_wp2_with fail
  have hl1 : Fns k B w1 _ l := HL.out.old (F1.out.old hB (fun _ _ e => e)) F1.out.size
  refine (check_any k B w1 _ l hl1 (Nat.le_trans hB F1.out.size) (by omega)).mono ?_
  clear hl1
  obtain ⟨er, her⟩ : ∃ er, Pu.check l = er := ⟨_, rfl⟩
  rw [her]
  rintro e w2 ⟨rfl, hf2⟩
  have F2 := hide (F1.out.trans hf2)
  clear hf2 F1
  by_cases h0 : er = 0
  rotate_left
  · go_wp2_with fail
    go_ret
    exact ⟨rfl, F2.out⟩
  subst h0
  have HER := hide her
  clear her
  by_cases hq0 : q < 0
  · go_wp2_with fail
    go_ret
    exact ⟨rfl, F2.out⟩
  by_cases hql : (l.length : Int) ≤ q
  · go_wp2_with fail
    go_ret
    exact ⟨rfl, F2.out⟩
  obtain ⟨i, hi⟩ : ∃ i : Nat, q = i := ⟨q.toNat, by omega⟩
  subst hi
  have hlt : i < l.length := by omega
  obtain ⟨g, o, cap, ag, an, ac, kd', n', x', y', b0, n0, e0, b1, n1, e1, b2, n2, e2, hav, hcap, hg, hgw, hnm, han, hxn, hrt, hcell⟩ := fns_at HL.out i hlt
  injection hav with hav1 _ hav2
  subst hav1 hav2
  have ho : Old B w w2 := F2.out.old hB (fun _ _ e => e)
  have hcw : ∀ j, j < 9 → w2.cell? ⟨g, o + i * 9 + j, none⟩ = [Value.string l[i].1, .slice ag an ac, .int .i64 kd', .int .i64 n', .string x', .string y', .slice b0 n0 e0, .slice b1 n1 e1, .slice b2 n2 e2][j]? := fun j hj => by
    rw [ho.cell (a := ⟨g, o + i * 9 + j, none⟩) hg]; exact hcell j hj
  have q0 : w2.cell? ⟨g, o + i * 9, none⟩ = some (.string l[i].1) := hcw 0 (by omega)
  have q1 := hcw 1 (by omega)
  have q2 := hcw 2 (by omega)
  have q3 := hcw 3 (by omega)
  have q4 := hcw 4 (by omega)
  have q5 := hcw 5 (by omega)
  have q6 := hcw 6 (by omega)
  have q7 := hcw 7 (by omega)
  have q8 := hcw 8 (by omega)
  have hwi := wt_get wf l i hlt
  have hcn := check_needs l HER.out l[i] (List.getElem_mem hlt)
  obtain ⟨f, hf⟩ : ∃ f, f = l[i] := ⟨_, rfl⟩
  rw [← hf] at hnm hrt han q0 hxn hwi hcn
  subst han
  have hwf : wf f = 1 + f.2.1.length + Pu.wt k f.2.2 := rfl
  have hgl : g < w2.heap.size := by have := F2.out.size; omega
  have HNM := hide hnm
  have HRT := hide hrt
  have HXN := hide hxn
  have HCN := hide hcn
  have i1 : (i : Int) < (l.length : Int) := by omega
  have i0 : (0 : Int) ≤ (i : Int) := by omega
  have hvl : f.2.1.length ≤ ac := by obtain ⟨_, _, h1, h2, _⟩ := hnm.1.form; injection h1 with _ _ h1; omega
  have hac : ac ≤ 9223372036854775807 := by obtain ⟨_, _, h1, _, h2⟩ := hnm.1.form; injection h1 with _ _ h1; unfold maxLen at h2; omega
  clear hcw hcell hrt hnm hxn hcn ho hf
  have CF : Hid (∀ W, Fr No w W → Calls Try.prog 14 #[.agg #[.int .i64 kd', .int .i64 n', .string x', .string y', .slice b0 n0 e0, .slice b1 n1 e1, .slice b2 n2 e2]] W fun e w' => ∃ v, e = .returned v ∧ Fr No W w' ∧ w'.ownsRow W.heap.size 9 1 v (Pu.free k f.2.2).length ((Pu.free k f.2.2).map .string) ∧ Short (Pu.free k f.2.2)) := fun W hW =>
    free_any k B W _ f.2.2 (HRT.out.fr hB hW) (Nat.le_trans hB hW.size) (by omega)
  go_wp2_with fail
  refine (CF.out _ (F2.out.alloc _)).mono ?_
  clear CF q0 q1 q2 q3 q4 q5 q6 q7 q8
  rintro e w3 ⟨v3, rfl, hf3, hrow3, hsh3⟩
  have hn3 := names_of_row hrow3 hsh3
  obtain ⟨a3, c3, hv3⟩ := row_form hrow3
  subst hv3
  obtain ⟨nd, hnd⟩ : ∃ nd, nd = Pu.free k f.2.2 := ⟨_, rfl⟩
  rw [← hnd] at hn3
  have hndl : nd.length ≤ 2097152 := by
    rw [hnd]
    have := needs_length k (fun _ => 0) f.2.2 []
    unfold Pu.free
    simp at this
    omega
  have F3 := hide ((F2.out.alloc _).trans hf3)
  have t3 := fr_heap (heap_alloc_new w2 (.cells #[.string f.1, .slice ag f.2.1.length ac, .int .i64 kd', .int .i64 n', .string x', .string y', .slice b0 n0 e0, .slice b1 n1 e1, .slice b2 n2 e2] 44)) hf3 (fun e => e)
  have k3 := cell_of_heap t3
  have T3 := hide t3
  have HN3 := hide hn3
  have HND := hide hnd
  have hb3 : w2.heap.size < w3.heap.size := lt_of_heap t3
  rw [← hnd]
  clear hf3 hrow3 hsh3 hn3 t3 hnd
  obtain ⟨a3', c3', hv3', hc3, hc3'⟩ := HN3.out.1.form
  injection hv3' with hv31 _ hv32
  subst hv31 hv32
  unfold maxLen at hc3'
  have HNF := hide (HNM.out.kept (F3.out.old hB (fun _ _ e => e)) (Nat.le_refl _) F3.out.size)
  go_wp2_with fail
  go_loop [38] (fun z => ∃ j : Nat, j ≤ nd.length ∧ z = .int .i64 j) (fun z => nd.length - (intOf z).toNat)
  case atStart => exact ⟨0, Nat.zero_le _, rfl⟩
  case round =>
    obtain ⟨j, hj, rfl⟩ := hrel
    by_cases hjl : j < nd.length
    · obtain ⟨g3, o3, cp3, hv, _, _, hg3, hcell3, _⟩ := HN3.out.at hjl
      injection hv with hv1 _ hv2
      subst hv1 hv2
      have hin : Pu.has f.2.1 nd[j] = true := HCN.out _ (by rw [← HND.out]; exact List.getElem_mem hjl)
      obtain ⟨z, hz⟩ : ∃ z, z = nd[j] := ⟨_, rfl⟩
      rw [← hz] at hcell3 hin
      have j1 : (j : Int) < (nd.length : Int) := by omega
      have j0 : (0 : Int) ≤ (j : Int) := by omega
      have ch := has_any B _ f.2.1 z w3 HNF.out
      rw [hin] at ch
      have CH := hide ch
      clear hin hz ch
      go_wp2_with fail
      refine CH.out.mono ?_
      rintro e w4 ⟨rfl, hw4⟩
      rw [hw4]
      clear hw4
      go_wp2_with fail
      go_round
      case rel => exact ⟨j + 1, by omega, by go_num⟩
      case measure => simp [intOf]; omega
    · have hjn : j = nd.length := by omega
      subst hjn
      by_cases hp0 : p < 0
      · go_wp2_with fail
        go_ret
        exact ⟨rfl, F3.out⟩
      by_cases hpl : (nd.length : Int) ≤ p
      · go_wp2_with fail
        go_ret
        exact ⟨rfl, F3.out⟩
      obtain ⟨r, hr⟩ : ∃ r : Nat, p = r := ⟨p.toNat, by omega⟩
      subst hr
      have hrl : r < nd.length := by omega
      obtain ⟨g3, o3, cp3, hv, _, _, hg3, hcell3, _⟩ := HN3.out.at hrl
      injection hv with hv1 _ hv2
      subst hv1 hv2
      have hmem : nd[r] ∈ Pu.free k f.2.2 := by rw [← HND.out]; exact List.getElem_mem hrl
      obtain ⟨s, hs⟩ : ∃ s, s = nd[r] := ⟨_, rfl⟩
      rw [← hs] at hcell3 hmem
      have HLESS := hide (check_less (k := k) f.1 s f.2.1 f.2.2 hmem)
      clear hs hmem
      have r1 : (r : Int) < (nd.length : Int) := by omega
      have r0 : (0 : Int) ≤ (r : Int) := by omega
      go_wp2_with fail
      obtain ⟨W4, hW4⟩ : ∃ W4, W4 = w3.alloc (.cells #[.string f.1, .slice none 0 0, .int .i64 kd', .int .i64 n', .string x', .string y', .slice b0 n0 e0, .slice b1 n1 e1, .slice b2 n2 e2] 44) := ⟨_, rfl⟩
      rw [← hW4]
      have f34 : Fr No w3 W4 := by rw [hW4]; exact (Fr.refl No w3).alloc _
      have hs4 : W4.heap.size = w3.heap.size + 1 := by rw [hW4]; simp
      have t4 : W4.heap[w3.heap.size]? = some (.cells #[.string f.1, .slice none 0 0, .int .i64 kd', .int .i64 n', .string x', .string y', .slice b0 n0 e0, .slice b1 n1 e1, .slice b2 n2 e2] 44 (0, 0)) := by rw [hW4]; exact heap_alloc_new _ _
      have F34 := hide f34
      have HS4 := hide hs4
      have T4 := hide t4
      clear hW4 f34 hs4 t4 k3
      obtain ⟨i00, hii, hz0, hz1, hz2⟩ := info_parts Try.info9
      go_loopw [64] (fun z wr => ∃ j : Nat, j ≤ f.2.1.length ∧ z = .int .i64 j ∧ Fr (· = w3.heap.size) W4 wr ∧ ∃ av cv, wr.heap[w3.heap.size]? = some (.cells #[.string f.1, .slice av (but s (f.2.1.take j)).length cv, .int .i64 kd', .int .i64 n', .string x', .string y', .slice b0 n0 e0, .slice b1 n1 e1, .slice b2 n2 e2] 44 (0, 0)) ∧
        wr.ownsRow W4.heap.size 9 1 (.slice av (but s (f.2.1.take j)).length cv) (but s (f.2.1.take j)).length ((but s (f.2.1.take j)).map .string)) (fun z _ => f.2.1.length - (intOf z).toNat)
      case atStart => exact ⟨0, Nat.zero_le _, rfl, Fr.refl _ _, _, _, T4.out, World.ownsRow_nil _ _ _ _⟩
      case round =>
        obtain ⟨j, hj, rfl, hfr, av, cv, hbx, hown⟩ := hrel
        have f3r : Fr (· = w3.heap.size) w3 wr := (F34.out.mono (fun _ _ e => e.elim)).trans hfr
        have f3n : Fr No w3 wr := f3r.mono (fun a ha e => by have e : a = w3.heap.size := e; omega)
        by_cases hjl : j < f.2.1.length
        · obtain ⟨g5, o5, cp5, hv, _, _, hg5, hcell5, hsz5⟩ := (HNF.out.fr f3n).at hjl
          injection hv with hv1 _ hv2
          subst hv1 hv2
          have hcell3' : wr.cell? ⟨g3, o3 + r, none⟩ = some (.string s) := by
            rw [show wr.cell? ⟨g3, o3 + r, none⟩ = w3.cell? ⟨g3, o3 + r, none⟩ from by simp only [World.cell?, f3n.block g3 hg3 (fun e => e)]]; exact hcell3
          have hst := but_succ s f.2.1 j hjl
          have hbl := but_len s (f.2.1.take j)
          rw [List.length_take] at hbl
          obtain ⟨z, hz⟩ : ∃ z, z = f.2.1[j] := ⟨_, rfl⟩
          rw [← hz] at hcell5 hst
          have HST := hide hst
          have HFR := hide hfr
          have HBX := hide hbx
          have b5 := cell_of_heap hbx
          have z5 := frozen_of_heap hbx
          have hszr : W4.heap.size ≤ wr.heap.size := hfr.size
          have j1 : (j : Int) < (f.2.1.length : Int) := by omega
          have j0 : (0 : Int) ≤ (j : Int) := by omega
          have hb4 : w3.heap.size < wr.heap.size := lt_of_heap hbx
          clear hst hfr hbx hz f3r f3n
          by_cases e : z = s
          · subst e
            go_wp2_with fail
            go_roundw
            case rel => exact ⟨j + 1, by omega, by go_num, HFR.out, av, cv, by rw [HST.out]; simpa using HBX.out, by rw [HST.out]; simpa using hown⟩
            case measure => simp [intOf]; omega
          · have e' := str_ne e
            have HG : Hid (∀ (w5 : World) (v' : Value), (wr.alloc (.cells #[.string z] 9)).grownBy w5 (Value.slice av (but s (f.2.1.take j)).length cv).ownBlock → w5.heap[w3.heap.size]? = some (.cells #[.string f.1, .slice av (but s (f.2.1.take j)).length cv, .int .i64 kd', .int .i64 n', .string x', .string y', .slice b0 n0 e0, .slice b1 n1 e1, .slice b2 n2 e2] 44 (0, 0)) ∧ w5.cell? ⟨w3.heap.size, 1, none⟩ = some (.slice av (but s (f.2.1.take j)).length cv) ∧ w5.frozen? ⟨w3.heap.size, 1, none⟩ = false ∧ Fr (· = w3.heap.size) W4 w5 ∧ v' = v') := by
              intro w5 v' hg
              have fg : Fr (fun a => (Value.slice av (but s (f.2.1.take j)).length cv).ownBlock = some a) wr w5 := ((Fr.refl _ wr).alloc _).grown hg (fun a ha => .inl ha)
              have hb5 := fr_heap HBX.out fg (row_ne_cells hown HBX.out (by decide))
              refine ⟨hb5, by rw [cell_of_heap hb5]; rfl, frozen_of_heap hb5 1, HFR.out.trans' fg (fun a ha e => ?_), rfl⟩
              have := (hown.lt a e).1
              omega
            go_wp2_with (first
              | (at_builtin; refine wpList_append_own_at _ rfl _ _ 23 rfl W4.heap.size 9 i00 (.string ⟨#[]⟩) 1 16 Try.underlying23 hii hz0 hz1 hz2 rfl (by decide) _ _ _ rfl (hown.alloc _) ⟨wr.heap.size, 0, none⟩ 1 1 [.string z] rfl rfl (cell_one_new _ _ _) (by simp [Value.oneCell']) (by unfold maxLen; omega) (by omega) (by simp; omega) ?_; intro v' w5 hown' hgrow5 hnil hloc; obtain ⟨hbx5, c5, zz5, ff5, _⟩ := HG.out w5 v' hgrow5; obtain ⟨a', c', rfl⟩ := row_form hown')
              | fail)
            go_roundw
            case rel =>
              refine ⟨j + 1, by omega, by go_num, ff5.setCell (.inl rfl) _, a', c', ?_, ?_⟩
              · have := heap_set (o := 1) (u := .slice a' ((but s (f.2.1.take j)).length + 1) c') hbx5
                rw [HST.out, if_neg e]
                simpa using this
              · have hne : ∀ a, (Value.slice a' ((but s (f.2.1.take j)).length + 1) c').ownBlock = some a → ¬ a = w3.heap.size := fun a ha e2 => by
                  have := (hown'.lt a ha).1
                  have := HS4.out
                  omega
                have := row_fr hown' ((Fr.refl (· = w3.heap.size) w5).setCell (p := ⟨w3.heap.size, 1, none⟩) (.inl rfl) (.slice a' ((but s (f.2.1.take j)).length + 1) c')) hne
                rw [HST.out, if_neg e]
                simpa using this
            case measure => simp [intOf]; omega
        · have hjn : j = f.2.1.length := by omega
          subst hjn
          rw [List.take_length] at hbx hown
          have b5 := cell_of_heap hbx
          have hfw : Fr No w wr := F3.out.trans f3n
          have hnn : Names wr.heap.size wr _ (but s f.2.1) := names_of_row hown (fun y hy => HNM.out.2 y (List.mem_filter.1 hy).1)
          have hrr : RT k B wr _ f.2.2 := HRT.out.fr hB hfw
          have hBr : B ≤ wr.heap.size := Nat.le_trans hB hfw.size
          have hbl := but_len s f.2.1
          have FNS : Fns k (wr.heap.size + 1) (wr.alloc (.cells #[.string f.1, .slice av (but s f.2.1).length cv, .int .i64 kd', .int .i64 n', .string x', .string y', .slice b0 n0 e0, .slice b1 n1 e1, .slice b2 n2 e2] 44)) (.slice (some ⟨wr.heap.size, 0, none⟩) 1 1) [((f.1, but s f.2.1, f.2.2) : Pu.Fn k)] := by
            have fa : Fr No wr (wr.alloc (.cells #[.string f.1, .slice av (but s f.2.1).length cv, .int .i64 kd', .int .i64 n', .string x', .string y', .slice b0 n0 e0, .slice b1 n1 e1, .slice b2 n2 e2] 44)) := (Fr.refl No wr).alloc _
            refine ⟨[.string f.1, .slice av (but s f.2.1).length cv, .int .i64 kd', .int .i64 n', .string x', .string y', .slice b0 n0 e0, .slice b1 n1 e1, .slice b2 n2 e2], ⟨_, _, rfl, Nat.le_refl _, by unfold maxLen; decide, fun _ => ⟨_, _, rfl, Nat.lt_succ_self _, by simp, fun a ha => ?_⟩⟩, ?_⟩
            · rw [cell_of_heap (heap_alloc_new _ _), Nat.zero_add]; simp
            · refine ⟨_, [], (List.append_nil _).symm, rfl, ⟨_, _, rfl, HXN.out, ?_, rfl, ?_⟩, rfl⟩
              · exact (hnn.fr fa).kept (fun _ _ => rfl) (by omega) (Nat.le_refl _)
              · exact (hrr.fr hBr fa).kept (fun _ _ => rfl) (by omega) (Nat.le_refl _)
          have cc := check_any k (wr.heap.size + 1) _ _ [((f.1, but s f.2.1, f.2.2) : Pu.Fn k)] FNS (by simp) (by show wf ((f.1, but s f.2.1, f.2.2) : Pu.Fn k) + 0 ≤ _; have e : wf ((f.1, but s f.2.1, f.2.2) : Pu.Fn k) = 1 + (but s f.2.1).length + Pu.wt k f.2.2 := rfl; omega)
          obtain ⟨er, her⟩ : ∃ er, Pu.check [((f.1, but s f.2.1, f.2.2) : Pu.Fn k)] = er := ⟨_, rfl⟩
          have hne : ¬ er = 0 := by rw [← her]; exact HLESS.out
          rw [her] at cc
          have CC := hide cc
          have HFW := hide hfw
          clear cc FNS hnn hrr hbx hown hfr f3r f3n hfw her
          go_wp2_with fail
          refine CC.out.mono ?_
          rintro e w6 ⟨rfl, hf6⟩
          have F6 := hide ((HFW.out.alloc _).trans hf6)
          clear hf6 CC b5
          go_wp2_with fail
          go_ret
          exact ⟨by simpa using hne, F6.out⟩
end Go.Proofs.Ytmjpfiecgkoaeaa
