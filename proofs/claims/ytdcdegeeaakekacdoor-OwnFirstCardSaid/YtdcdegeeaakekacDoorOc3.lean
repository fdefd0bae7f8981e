/- own: 'count', walked: the whole of it. -/
import Derived.Test.YtdcdegeeaakekacDoorOc2
namespace Go.Proofs.YtdcdegeeaakekacDoor
open Go.RowKit Go.Shelf

attribute [local go_sem] Oper.semAt_some

theorem bk_names (l : List Nm) : ((bk l l.length).map (fun x => x.2.1)).reverse = l.map (·.1) := by
  have h := congrArg (List.map (fun y : Nm => y.1)) (bk_all l)
  rw [List.map_map] at h
  rw [show (fun x : Nat × Nm => x.2.1) = (fun y : Nm => y.1) ∘ (fun x : Nat × Nm => x.2) from rfl, h, List.map_reverse, List.reverse_reverse]

theorem putObj_heap {W : World} {D : Nat} {o o' : Obj} {B : Nat} {cur : Array Value} {t : TypeId} {z : Nat × Nat} (h : W.heap[B]? = some (.cells cur t z)) (hD : W.heap[D]? = some o) (hc : o.isCells = false) : (W.putObj D o').heap[B]? = some (.cells cur t z) :=
  heap_own h (grownBy_putObj' W D o') (fun r e => by cases e; exact ⟨o, hD, hc⟩)

theorem lt_of_cell {W : World} {a : Addr} {v : Value} (h : W.cell? a = some v) : a.block < W.heap.size := by
  unfold World.cell? at h
  cases e : W.heap[a.block]? with
  | none => rw [e] at h; simp at h
  | some o => exact lt_of_heap e

set_option maxRecDepth 100000 in
set_option maxHeartbeats 4000000 in
theorem count_in (F : Fence) (n : Nat) (h3 : F.fn 66) (h5 : F.fn 88) (h7 : F.fn 112) (hro : F.round = none) (hn : 3 ≤ n) (S : Nat → Prop) (kd : Int) (hkd : (Lit.int .i64 kd).wf = true) (v : Value) (l : List Nm) (hreach : l.length ≤ 1099511627776) (t : Tm) (u0 u1 u2 u3 u4 u5 u6 : Value) (w : World) (hI : NmAt w.heap.size w v l) (hT : RS S w [u0, u1, u2, u3, u4, u5, u6] t) (hS : ∀ g, S g → g < w.heap.size) :
    CallsIn F n Tryd.prog 66 #[.int .i64 kd, v, .agg #[u0, u1, u2, u3, u4, u5, u6]] w fun e W' => ∃ c0 c1 c2 c3 c4 c5 c6, e = .returned (.agg #[c0, c1, c2, c3, c4, c5, c6]) ∧ Below w.heap.size w W' ∧ RS (fun g => S g ∨ New w W' g) W' [c0, c1, c2, c3, c4, c5, c6] (cnt kd (l.map (·.1)) t) := by
  have h1 : 1 ≤ n := by omega
  obtain ⟨a, cap, rfl, hnm⟩ := id hI
  have HI := hide hI
  have HT := hide hT
  have HS := hide hS
  clear hI hT hS hnm
  refine callsIn_of_wp_marks Tryd.func66 rfl h3 ?_ hro
  simp only [Tryd.ntmps66, List.size_toArray, List.length_cons, List.length_nil, Nat.reduceAdd, Nat.reduceSub, Array.replicate_succ, Array.replicate_zero, List.push_toArray, List.append_toArray, List.nil_append, List.cons_append]
  gi_wp2_with (gi_at_call 88; refine (back_in F (n - 1) h5 hro _ _ _ _).mono ?_; rintro e w' ⟨rfl, rfl⟩)
  have hB0 : Below w.heap.size w ((((w.alloc (.cells #[.int .i64 kd] 3)).alloc (.cells #[u0, u1, u2, u3, u4, u5, u6] 31)).alloc (.cells #[.int .i64 0, .int .i64 0, .string ⟨#[]⟩, .string ⟨#[]⟩, .slice none 0 0, .slice none 0 0, .slice none 0 0] 31)).alloc (.cells #[.slice a l.length cap] 27)) :=
    ((((Below.refl _ w).alloc (Nat.le_refl _) _).alloc (by simp) _).alloc (by simp; omega) _).alloc (by simp; omega) _
  obtain ⟨W0, hW0⟩ : ∃ W0, W0 = ((((w.alloc (.cells #[.int .i64 kd] 3)).alloc (.cells #[u0, u1, u2, u3, u4, u5, u6] 31)).alloc (.cells #[.int .i64 0, .int .i64 0, .string ⟨#[]⟩, .string ⟨#[]⟩, .slice none 0 0, .slice none 0 0, .slice none 0 0] 31)).alloc (.cells #[.slice a l.length cap] 27)) := ⟨_, rfl⟩
  rw [← hW0] at hB0 ⊢
  have hsz : W0.heap.size = w.heap.size + 4 := by rw [hW0]; simp
  have b0 : W0.heap[w.heap.size]? = some (.cells #[.int .i64 kd] 3 (0, 0)) := by rw [hW0]; exact fr_heap (heap_alloc_new w _) ((((Fr.refl No _).alloc _).alloc _).alloc _) (fun e => e)
  have b1 : W0.heap[w.heap.size + 1]? = some (.cells #[u0, u1, u2, u3, u4, u5, u6] 31 (0, 0)) := by
    have h := heap_alloc_new (w.alloc (.cells #[.int .i64 kd] 3)) (.cells #[u0, u1, u2, u3, u4, u5, u6] 31)
    rw [World.size_alloc] at h
    rw [hW0]; exact fr_heap h (((Fr.refl No _).alloc _).alloc _) (fun e => e)
  have b2 : W0.heap[w.heap.size + 1 + 1]? = some (.cells #[.int .i64 0, .int .i64 0, .string ⟨#[]⟩, .string ⟨#[]⟩, .slice none 0 0, .slice none 0 0, .slice none 0 0] 31 (0, 0)) := by
    have h := heap_alloc_new ((w.alloc (.cells #[.int .i64 kd] 3)).alloc (.cells #[u0, u1, u2, u3, u4, u5, u6] 31)) (.cells #[.int .i64 0, .int .i64 0, .string ⟨#[]⟩, .string ⟨#[]⟩, .slice none 0 0, .slice none 0 0, .slice none 0 0] 31)
    rw [World.size_alloc, World.size_alloc] at h
    rw [hW0]; exact fr_heap h ((Fr.refl No _).alloc _) (fun e => e)
  have b3 : W0.cell? ⟨w.heap.size + 1 + 1 + 1, 0, none⟩ = some (.slice a l.length cap) := by
    have h := heap_alloc_new (((w.alloc (.cells #[.int .i64 kd] 3)).alloc (.cells #[u0, u1, u2, u3, u4, u5, u6] 31)).alloc (.cells #[.int .i64 0, .int .i64 0, .string ⟨#[]⟩, .string ⟨#[]⟩, .slice none 0 0, .slice none 0 0, .slice none 0 0] 31)) (.cells #[.slice a l.length cap] 27)
    rw [World.size_alloc, World.size_alloc, World.size_alloc] at h
    rw [cell_of_heap (by rw [hW0]; exact h)]; rfl
  have hT0 : RS (fun g => ((S g ∨ w.heap.size ≤ g) ∧ g ≠ w.heap.size + 1 + 1) ∧ g ≠ w.heap.size + 1) W0 [u0, u1, u2, u3, u4, u5, u6] t := HT.out.kept ⟨hB0.size, fun g hg hl => ⟨⟨⟨.inl hg, by omega⟩, by omega⟩, hB0.block g hl⟩⟩
  clear hW0
  refine wpIn_rangeFunc_ownG hro h1 (gf := 112) (lb := #[.pointer (some ⟨w.heap.size + 1 + 1 + 1, 0, none⟩)]) rfl h7 (enters_of Tryd.func112 (by kernel_rfl) rfl)
    (back_stops F (n - 1) h7 hro (by omega) (w.heap.size + 1 + 1 + 1) w.heap.size _ l hreach W0 (by omega) (by omega) b3 (HI.out.below hB0)) KB.trans (KB.b (by omega)) (Below.refl _ _) (fun _ => rfl)
    (fun pre W => (TBox (fun g => (S g ∨ w.heap.size ≤ g) ∧ g ≠ w.heap.size + 1 + 1) (w.heap.size + 1) kd t pre W ∧ W.heap[w.heap.size]? = some (.cells #[.int .i64 kd] 3 (0, 0)) ∧ W.heap[w.heap.size + 1 + 1]? = some (.cells #[.int .i64 0, .int .i64 0, .string ⟨#[]⟩, .string ⟨#[]⟩, .slice none 0 0, .slice none 0 0, .slice none 0 0] 31 (0, 0))) ∧ Below w.heap.size w W)
    (fun _ _ _ => False)
    (OwnFrom.and (Own.from (fun s A B row hs hg hr => ⟨tbox_own _ _ _ _ s A B row hs.1 hg hr, heap_own hs.2.1 hg hr, heap_own hs.2.2 hg hr⟩) _) (ownFrom_below (Nat.le_refl _) (by omega)))
    (fun _ _ _ _ _ hs _ _ => hs)
    ⟨⟨⟨u0, u1, u2, u3, u4, u5, u6, b1, hT0⟩, b0, b2⟩, hB0⟩
    (fun x => { tmps := #[.int .i64 kd, .slice a l.length cap, .agg #[u0, u1, u2, u3, u4, u5, u6], .pointer (some ⟨w.heap.size, 0, none⟩), undef, .pointer (some ⟨w.heap.size + 1, 0, none⟩), .pointer (some ⟨w.heap.size + 1 + 1, 0, none⟩), undef, .string x.2.1, .slice a l.length cap, .func (.func 112) #[] #[.pointer (some ⟨w.heap.size + 1 + 1 + 1, 0, none⟩)], .int .i64 (x.1 : Int), .string x.2.1, undef, undef, undef, undef, undef, undef], defers := [] }) ?assign ?body ?done ?stop
  case assign =>
    intro l x W K hK
    gi_wp2
    exact hK
  case body =>
    rintro q pre x W ⟨⟨⟨c0, c1, c2, c3, c4, c5, c6, g1, hr⟩, g0, g2⟩, hB⟩ _
    have k0 := cell_of_heap g0 0
    have k1 := cell_of_heap g1
    have z1 := frozen_of_heap g1
    have l0 := lt_of_heap g0
    have l1 := lt_of_heap g1
    have l2 := lt_of_heap g2
    have G0 := hide g0
    have G1 := hide g1
    have G2 := hide g2
    have HR := hide hr
    have HB := hide hB
    clear g0 g1 g2 hr hB b0 b1 b2 b3 hT0 hB0 HI HT HS
    gi_wp2
    obtain ⟨P, hP⟩ : ∃ P, P = (((((((W.setCell ⟨w.heap.size + 1, 0, none⟩ (.int .i64 kd)).setCell ⟨w.heap.size + 1, 1, none⟩ (.int .i64 0)).setCell ⟨w.heap.size + 1, 2, none⟩ (.string x.2.1)).setCell ⟨w.heap.size + 1, 3, none⟩ (.string ⟨#[]⟩)).setCell ⟨w.heap.size + 1, 4, none⟩ (.slice none 0 0)).setCell ⟨w.heap.size + 1, 5, none⟩ (.slice (some ⟨W.heap.size, 0, none⟩) 1 1)).setCell ⟨w.heap.size + 1, 6, none⟩ (.slice none 0 0)) := ⟨_, rfl⟩
    rw [← hP]
    obtain ⟨s1, s2⟩ := set7 G1.out (.int .i64 kd) (.int .i64 0) (.string x.2.1) (.string ⟨#[]⟩) (.slice none 0 0) (.slice (some ⟨W.heap.size, 0, none⟩) 1 1) (.slice none 0 0)
    have hps : P.heap.size = W.heap.size := by rw [hP]; simp [World.setCell]
    have hk : KeepsOthers W P := by rw [hP]; exact keeps7 _ _ _ _ _ _ _ _ _
    have hb : Below w.heap.size w P := by rw [hP]; exact below7 HB.out _ (by omega) _ _ _ _ _ _ _
    have hb2 : Below w.heap.size W P := by rw [hP]; exact below7 (Below.refl _ _) _ (by omega) _ _ _ _ _ _ _
    rw [← hP] at s1 s2
    have fa : Fr No P (P.alloc (.cells #[c0, c1, c2, c3, c4, c5, c6] 31)) := (Fr.refl No P).alloc _
    have hn7 := heap_alloc_new P (.cells #[c0, c1, c2, c3, c4, c5, c6] 31)
    rw [hps] at hn7
    have hwb := HB.out.size
    have fwa : Fr (· = w.heap.size + 1) W (P.alloc (.cells #[c0, c1, c2, c3, c4, c5, c6] 31)) := s2.alloc _
    have hr2 : RS (fun g => ((S g ∨ w.heap.size ≤ g) ∧ g ≠ w.heap.size + 1 + 1) ∧ g ≠ w.heap.size + 1) (P.alloc (.cells #[c0, c1, c2, c3, c4, c5, c6] 31)) [c0, c1, c2, c3, c4, c5, c6] (cnt kd (pre.map (fun x => x.2.1)).reverse t) :=
      HR.out.kept (stays_fr fwa (fun g hg _ e => hg.2 e) (fun _ h => h))
    refine ⟨(hk.trans (KeepsOthers.alloc _ _)).from _, ⟨hb2.alloc (by omega) _, fun v hv => ?_⟩, ⟨⟨_, _, _, _, _, _, _, fr_heap s1 fa (fun e => e), ?_⟩, ?_, ?_⟩, hb.alloc (by omega) _⟩
    · have e1 := fwa.block (w.heap.size + 1 + 1 + 1) (lt_of_cell hv) (fun e => by have e : w.heap.size + 1 + 1 + 1 = w.heap.size + 1 := e; omega)
      unfold World.cell? at hv ⊢
      rw [e1]; exact hv
    · rw [List.map_append, List.reverse_append]
      exact wrap_node kd x.2 hkd hr2 hn7 ⟨⟨.inr (by omega), by omega⟩, by omega⟩ rfl
    · exact fr_heap G0.out fwa (fun e => by have e : w.heap.size = w.heap.size + 1 := e; omega)
    · exact fr_heap G2.out fwa (fun e => by have e : w.heap.size + 1 + 1 = w.heap.size + 1 := e; omega)
  case done =>
    rintro D ys W hD rfl ⟨⟨⟨c0, c1, c2, c3, c4, c5, c6, g1, hr⟩, g0, g2⟩, hB⟩ hK
    obtain ⟨kd', n', x', y', a0, n0, d0, a1, n1, d1, a2, n2, d2, he⟩ := hr.form
    simp only [List.cons.injEq, and_true] at he
    obtain ⟨rfl, rfl, rfl, rfl, rfl, rfl, rfl⟩ := he
    have k1 := cell_of_heap g1
    have k2 := cell_of_heap g2
    have z2 := frozen_of_heap g2
    have l1 := lt_of_heap g1
    have l2 := lt_of_heap g2
    have G1 := hide g1
    have G2 := hide g2
    have HR := hide hr
    have HB := hide hB
    clear g0 g1 g2 hr hB b0 b1 b2 b3 hT0 hB0 HI HT
    gi_wp2
    obtain ⟨s1, s2⟩ := set7 G2.out (.int .i64 kd') (.int .i64 n') (.string x') (.string y') (.slice a0 n0 d0) (.slice a1 n1 d1) (.slice a2 n2 d2)
    obtain ⟨P, hP⟩ : ∃ P, P = (((((((W.setCell ⟨w.heap.size + 1 + 1, 0, none⟩ (.int .i64 kd')).setCell ⟨w.heap.size + 1 + 1, 1, none⟩ (.int .i64 n')).setCell ⟨w.heap.size + 1 + 1, 2, none⟩ (.string x')).setCell ⟨w.heap.size + 1 + 1, 3, none⟩ (.string y')).setCell ⟨w.heap.size + 1 + 1, 4, none⟩ (.slice a0 n0 d0)).setCell ⟨w.heap.size + 1 + 1, 5, none⟩ (.slice a1 n1 d1)).setCell ⟨w.heap.size + 1 + 1, 6, none⟩ (.slice a2 n2 d2)) := ⟨_, rfl⟩
    rw [← hP] at s1 s2 ⊢
    have hk : KeepsOthers W P := by rw [hP]; exact keeps7 _ _ _ _ _ _ _ _ _
    have hb : Below w.heap.size w P := by rw [hP]; exact below7 HB.out _ (by omega) _ _ _ _ _ _ _
    have hK' := hk.same D _ hK rfl
    refine ⟨by simp, .inl ⟨_, _, rfl, run_takeDeferred hK', ?_⟩⟩
    have s3 := putObj_heap (o' := .deferred none) s1 hK' rfl
    refine ⟨_, retT rfl _ _ (w.heap.size + 1 + 1) (.int .i64 kd') (.int .i64 n') (.string x') (.string y') (.slice a0 n0 d0) (.slice a1 n1 d1) (.slice a2 n2 d2) (0, 0) rfl s3, _, _, _, _, _, _, _, rfl, hb.trans (belowK_b (w := w) (Nat.le_refl _) _ D _ _ (by omega) hK' rfl rfl), ?_⟩
    have hsz2 := hb.size
    have hr3 := HR.out.kept (S' := fun g => (S g ∨ w.heap.size ≤ g)) (stays_fr s2 (fun g hg hl e => by
      exact hg.1.2 e) (fun _ h => h.1.1))
    rw [bk_names] at hr3
    have hr4 := hr3.cells (w' := P.putObj D (.deferred none)) (grownBy_putObj' P D (.deferred none)).size (fun a u h => cell_kept h (grownBy_putObj' P D (.deferred none)) (fun r e => by cases e; exact ⟨_, hK', rfl⟩)) (fun a u h => frozen_kept h (grownBy_putObj' P D (.deferred none)) (fun r e => by cases e; exact ⟨_, hK', rfl⟩))
    exact hr4.kept ⟨Nat.le_refl _, fun g hg hl => ⟨hg.imp (fun h => h) (fun h => ⟨h, hl⟩), rfl⟩⟩
  case stop =>
    rintro D c pre W _ _ h _
    exact h.elim
end Go.Proofs.YtdcdegeeaakekacDoor
