/- Values that are alike: the document's 'SameValue', walked. -/
import Derived.Test.YtdgmengfdfkgaabDoorRvE5
namespace Go.Proofs.YtdgmengfdfkgaabDoor
open Go.RowKit Go.Maps Go.WideMaps

/-- What 'SameValue' answers at values of k levels. -/
def RSameV (k : Nat) : Prop := ∀ (k2 : Nat) (w : World) (cs1 cs2 : List Value) (a b : Pu.V), RV k Any w cs1 a → RV k2 Any w cs2 b →
  Calls Tryd.prog 11 #[.agg cs1.toArray, .agg cs2.toArray] w fun e w' => ∃ r, e = .returned (.bool r) ∧ (r = true ↔ a = b) ∧ Fr No w w'

set_option maxHeartbeats 4000000 in
theorem rsameV_node (k : Nat) (hS : RSameV k) : RSameV (k + 1) := by
  intro k2 w cs1 cs2 s t ht1 ht2
  cases k2 with
  | zero => exact ht2.elim
  | succ k2 =>
  obtain ⟨kv1, xs1, rfl, hn1, hr1, he1⟩ := ht1
  obtain ⟨kv2, xs2, rfl, hn2, hr2, he2⟩ := ht2
  obtain ⟨a1, d1, rfl, hd1, hd1'⟩ := hr1.form
  obtain ⟨a2, d2, rfl, hd2, hd2'⟩ := hr2.form
  unfold maxLen at hd1' hd2'
  obtain ⟨c1, n1, l1⟩ := s
  obtain ⟨c2, n2, l2⟩ := t
  simp only at *
  have HR1 := hide hr1
  have HE1 := hide he1
  have HR2 := hide hr2
  have HE2 := hide he2
  have HS := hide hS
  clear hr1 he1 hr2 he2 hS
  show Calls Tryd.prog 11 #[.agg #[.bool c1, .int .i64 n1, .slice a1 l1.length d1], .agg #[.bool c2, .int .i64 n2, .slice a2 l2.length d2]] w _
  have FW : Hid (∀ o1 o2, Fr No w ((w.alloc o1).alloc o2)) := fun o1 o2 => ((Fr.refl No w).alloc o1).alloc o2
  by_cases h1 : c1 = c2
  rotate_left
  · have HN : Hid (¬ (⟨c1, n1, l1⟩ : Pu.V) = ⟨c2, n2, l2⟩) := fun e => h1 (congrArg Pu.V.con e)
    go_enter Tryd.func11, Tryd.ntmps11
    go_wp2_with fail
    go_ret
    exact ⟨false, rfl, ⟨fun h => absurd h (by decide), fun h => absurd h HN.out⟩, FW.out _ _⟩
  subst h1
  by_cases h2 : n1 = n2
  rotate_left
  · have HN : Hid (¬ (⟨c1, n1, l1⟩ : Pu.V) = ⟨c1, n2, l2⟩) := fun e => h2 (congrArg Pu.V.n e)
    go_enter Tryd.func11, Tryd.ntmps11
    go_wp2_with fail
    go_ret
    exact ⟨false, rfl, ⟨fun h => absurd h (by decide), fun h => absurd h HN.out⟩, FW.out _ _⟩
  subst h2
  by_cases hl : l1.length = l2.length
  rotate_left
  · have hl' : ((l1.length : Int) != (l2.length : Int)) = true := by simp; omega
    have HN : Hid (¬ (⟨c1, n1, l1⟩ : Pu.V) = ⟨c1, n1, l2⟩) := fun e => hl (congrArg (fun v => (Pu.V.kids v).length) e)
    clear hl
    go_enter Tryd.func11, Tryd.ntmps11
    go_wp2_with fail
    go_ret
    exact ⟨false, rfl, ⟨fun h => absurd h (by decide), fun h => absurd h HN.out⟩, FW.out _ _⟩
  rw [← hl]
  have HL := hide hl
  have hd2c : l1.length ≤ d2 := by omega
  clear hl hd2
  have g0 := fr_heap (heap_alloc_new w (.cells #[.bool c1, .int .i64 n1, .slice a1 l1.length d1] 29)) ((Fr.refl No _).alloc (.cells #[.bool c1, .int .i64 n1, .slice a2 l1.length d2] 29)) (fun e => e)
  have g1 := heap_alloc_new (w.alloc (.cells #[.bool c1, .int .i64 n1, .slice a1 l1.length d1] 29)) (.cells #[.bool c1, .int .i64 n1, .slice a2 l1.length d2] 29)
  rw [World.size_alloc] at g1
  have G0 := hide g0
  have G1 := hide g1
  clear g0 g1
  go_enter Tryd.func11, Tryd.ntmps11
  go_wp2_with fail
  go_loopw [30] (fun q wr => ∃ i : Nat, i ≤ l1.length ∧ q = .int .i64 i ∧ Fr No w wr ∧ wr.heap[w.heap.size]? = some (.cells #[.bool c1, .int .i64 n1, .slice a1 l1.length d1] 29 (0, 0)) ∧ wr.heap[w.heap.size + 1]? = some (.cells #[.bool c1, .int .i64 n1, .slice a2 l1.length d2] 29 (0, 0)) ∧ ∀ j (h1 : j < l1.length) (h2 : j < l2.length), j < i → l1[j] = l2[j]) (fun q _ => l1.length - (intOf q).toNat)
  case atStart => exact ⟨0, Nat.zero_le _, rfl, FW.out _ _, G0.out, G1.out, fun j _ _ hj => absurd hj (by omega)⟩
  case round =>
    clear G0 G1
    obtain ⟨i, hi, rfl, hf, hx0, hx1, hall⟩ := hrel
    have HA := hide hall
    have HX0 := hide hx0
    have HX1 := hide hx1
    have hl0 : w.heap.size < wr.heap.size := lt_of_heap hx0
    have hl1 : w.heap.size + 1 < wr.heap.size := lt_of_heap hx1
    clear hall
    by_cases hlt : i < l1.length
    · have hlt2 : i < l2.length := by have := HL.out; omega
      obtain ⟨g, o, cap, b1, m1, e1, hav, _, _, _, hgw, hm1, hrt, q0, q1, q2⟩ := kids_at (HR1.out.kept (stays_fr hf (fun _ _ _ e => e) (fun _ h => h))) (HE1.out.mono fun _ _ h => h.fr hf) i hlt
      injection hav with hav1 _ hav2
      subst hav1 hav2
      obtain ⟨g', o', cap', b2, m2, e2, hav', _, _, _, hgw', hm2, hrt', p0, p1, p2⟩ := kids_at (HR2.out.kept (stays_fr hf (fun _ _ _ e => e) (fun _ h => h))) (HE2.out.mono fun _ _ h => h.fr hf) i hlt2
      injection hav' with hav1 _ hav2
      subst hav1 hav2
      obtain ⟨x, hx⟩ : ∃ x, x = l1[i] := ⟨_, rfl⟩
      obtain ⟨y, hy⟩ : ∃ y, y = l2[i] := ⟨_, rfl⟩
      rw [← hx] at hrt q0 q1 hm1
      rw [← hy] at hrt' p0 p1 hm2
      have hgo : ∀ {W : World}, Fr No wr W → ∀ (b oo : Nat), b < wr.heap.size → W.cell? ⟨b, oo, none⟩ = wr.cell? ⟨b, oo, none⟩ := fun hW b oo hb => by simp only [World.cell?, hW.block b hb (fun e => e)]
      have SA : Hid (∀ w' : World, Fr No wr w' → (w'.cell? ⟨w.heap.size, 2, none⟩ = some (.slice (some ⟨g, o, none⟩) l1.length d1) ∧ w'.cell? ⟨w.heap.size + 1, 2, none⟩ = some (.slice (some ⟨g', o', none⟩) l1.length d2) ∧ w'.cell? ⟨g, o + i * 3, none⟩ = some (.bool x.con) ∧ w'.cell? ⟨g, o + i * 3 + 1, none⟩ = some (.int .i64 x.n) ∧ w'.cell? ⟨g, o + i * 3 + 2, none⟩ = some (.slice b1 m1 e1) ∧ w'.cell? ⟨g', o' + i * 3, none⟩ = some (.bool y.con) ∧ w'.cell? ⟨g', o' + i * 3 + 1, none⟩ = some (.int .i64 y.n) ∧ w'.cell? ⟨g', o' + i * 3 + 2, none⟩ = some (.slice b2 m2 e2))) := fun w' hw' =>
        ⟨cell_of_heap (fr_heap hx0 hw' (fun e => e)) 2, cell_of_heap (fr_heap hx1 hw' (fun e => e)) 2, (hgo hw' _ _ hgw).trans q0, (hgo hw' _ _ hgw).trans q1, (hgo hw' _ _ hgw).trans q2, (hgo hw' _ _ hgw').trans p0, (hgo hw' _ _ hgw').trans p1, (hgo hw' _ _ hgw').trans p2⟩
      have AS : Hid (∀ W, Fr No wr W → Calls Tryd.prog 11 #[.agg #[.bool x.con, .int .i64 x.n, .slice b1 m1 e1], .agg #[.bool y.con, .int .i64 y.n, .slice b2 m2 e2]] W fun e w' => ∃ r, e = .returned (.bool r) ∧ (r = true ↔ x = y) ∧ Fr No wr w' ∧ (w'.cell? ⟨w.heap.size, 2, none⟩ = some (.slice (some ⟨g, o, none⟩) l1.length d1) ∧ w'.cell? ⟨w.heap.size + 1, 2, none⟩ = some (.slice (some ⟨g', o', none⟩) l1.length d2) ∧ w'.cell? ⟨g, o + i * 3, none⟩ = some (.bool x.con) ∧ w'.cell? ⟨g, o + i * 3 + 1, none⟩ = some (.int .i64 x.n) ∧ w'.cell? ⟨g, o + i * 3 + 2, none⟩ = some (.slice b1 m1 e1) ∧ w'.cell? ⟨g', o' + i * 3, none⟩ = some (.bool y.con) ∧ w'.cell? ⟨g', o' + i * 3 + 1, none⟩ = some (.int .i64 y.n) ∧ w'.cell? ⟨g', o' + i * 3 + 2, none⟩ = some (.slice b2 m2 e2))) := fun W hW => by
        refine (HS.out k2 W _ _ x y (hrt.fr hW) (hrt'.fr hW)).mono ?_
        rintro e w' ⟨r, he, hr, h1⟩
        exact ⟨r, he, hr, hW.trans h1, SA.out _ (hW.trans h1)⟩
      have D0 : Fr No wr wr.drew := (Fr.refl No wr).drew
      have HZ := hide (SA.out wr.drew D0)
      have HF := hide hf
      have HX := hide hx
      have HY := hide hy
      clear hrt hrt' q0 q1 q2 p0 p1 p2 hf hx0 hx1 hx hy hm1 hm2
      have i1 : (i : Int) < (l1.length : Int) := by omega
      have i0 : (0 : Int) ≤ (i : Int) := by omega
      go_wp2_with fail
      go_region_held3 (fun w' : World => w'.cell? ⟨w.heap.size, 2, none⟩ = some (.slice (some ⟨g, o, none⟩) l1.length d1) ∧ w'.cell? ⟨w.heap.size + 1, 2, none⟩ = some (.slice (some ⟨g', o', none⟩) l1.length d2) ∧ w'.cell? ⟨g, o + i * 3, none⟩ = some (.bool x.con) ∧ w'.cell? ⟨g, o + i * 3 + 1, none⟩ = some (.int .i64 x.n) ∧ w'.cell? ⟨g, o + i * 3 + 2, none⟩ = some (.slice b1 m1 e1) ∧ w'.cell? ⟨g', o' + i * 3, none⟩ = some (.bool y.con) ∧ w'.cell? ⟨g', o' + i * 3 + 1, none⟩ = some (.int .i64 y.n) ∧ w'.cell? ⟨g', o' + i * 3 + 2, none⟩ = some (.slice b2 m2 e2)) (first | with_reducible assumption | with_reducible exact HZ.out)
        (first
          | (go_at_call 11; refine (AS.out _ ?_).mono ?_; (first | with_reducible assumption | exact D0); rintro e w5 ⟨r, rfl, hr5, hf5, hz5⟩))
      have F5 := hide hf5
      have HR5 := hide hr5
      clear hf5 hz5 hr5
      cases r with
      | true =>
        go_wp2_with fail
        go_roundw
        case rel =>
          refine ⟨i + 1, by omega, by go_num, HF.out.trans F5.out, fr_heap HX0.out F5.out (fun e => e), fr_heap HX1.out F5.out (fun e => e), fun j h1 h2 hj => ?_⟩
          by_cases hji : j = i
          · subst hji; rw [← HX.out, ← HY.out]; exact HR5.out.1 rfl
          · exact HA.out j h1 h2 (by omega)
        case measure => simp [intOf]; omega
      | false =>
        have HN : Hid (¬ (⟨c1, n1, l1⟩ : Pu.V) = ⟨c1, n1, l2⟩) := fun e => by
          have hxy : x = y := by rw [HX.out, HY.out]; exact List.getElem_of_eq (congrArg Pu.V.kids e) _
          exact absurd (HR5.out.2 hxy) (by decide)
        go_wp2_with fail
        go_ret
        exact ⟨false, rfl, ⟨fun h => absurd h (by decide), fun h => absurd h HN.out⟩, HF.out.trans F5.out⟩
    · have hil : i = l1.length := by omega
      subst hil
      have HF := hide hf
      clear hf hx0 hx1
      have HN : Hid ((⟨c1, n1, l1⟩ : Pu.V) = ⟨c1, n1, l2⟩) := by
        have : l1 = l2 := List.ext_getElem HL.out (fun j h1 h2 => HA.out j h1 h2 h1)
        rw [this]; rfl
      go_wp2_with fail
      go_ret
      exact ⟨true, rfl, ⟨fun _ => HN.out, fun _ => rfl⟩, HF.out⟩

theorem rsameV_all : ∀ k, RSameV k
  | 0 => fun _ _ _ _ _ _ h => h.elim
  | k + 1 => rsameV_node k (rsameV_all k)
end Go.Proofs.YtdgmengfdfkgaabDoor
