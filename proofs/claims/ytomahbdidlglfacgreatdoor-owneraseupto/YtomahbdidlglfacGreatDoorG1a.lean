/- The document's reader: an argument read by a closure, the first. -/
import Derived.Test.YtomahbdidlglfacGreatDoorP3G1h
import Derived.Deep.RegionLaw
namespace Go.Proofs.YtomahbdidlglfacGreatDoor
open Go.RowKit Go.Maps Go.WideMaps

set_option maxRecDepth 100000 in
set_option maxHeartbeats 8000000 in
theorem arg_0 (K base tb pbx dbx pb : Nat) (S : ByteArray) (a k d : Nat) (kd tn : Int) (nm : ByteArray) (v cv : Value) (ts : List (Pu.TT K)) (t : Pu.TT K) (w : World) (hr : RdT K pb S a k (d + 1) t) (hps : PS pb S a 0 w) (henv : Env w) (hp3 : 3 ≤ pb)
    (ht : w.heap[tb]? = some (.cells (tmCells kd tn nm v cv) 32 (0, 0))) (hx : w.heap[pbx]? = some (.cells #[.pointer (some ⟨pb, 0, none⟩)] 88 (0, 0))) (hdx : w.heap[dbx]? = some (.cells #[.int .i64 (d : Int)] 3 (0, 0)))
    (hargs : ArgsAt K base w v ts) (hlen : ts.length = 0) (hb : base ≤ w.heap.size) (hpb : pb < base) (htb : tb < base) (h1 : tb ≠ pb) (h2 : pbx ≠ pb) (h3 : dbx ≠ pb) (h4 : pbx < base) (h5 : dbx < base) (hTB : tb ≠ pbx ∧ tb ≠ dbx) (hd : d ≤ 25) :
    Calls Tryz.prog 99 #[.pointer (some ⟨tb, 0, none⟩), .pointer (some ⟨pbx, 0, none⟩), .pointer (some ⟨dbx, 0, none⟩)] w fun e w' => e = .returned (.tuple #[]) ∧ Fr (fun i => i = pb ∨ i = tb ∨ v.ownBlock = some i) w w' ∧ PS pb S k 0 w' ∧
      ∃ v', w'.heap[tb]? = some (.cells (tmCells kd tn nm v' cv) 32 (0, 0)) ∧ ArgsAt K base w' v' (ts ++ [t]) := by
  obtain ⟨xs, hown, heach⟩ := hargs
  rw [hlen] at hown
  obtain ⟨va, vc, rfl⟩ := row_form hown
  have HXL : Hid (xs.length = 0) := hown.1
  have lt1 := lt_of_heap ht
  have lt2 := lt_of_heap hx
  have lt3 := lt_of_heap hdx
  have SA : Hid (∀ W, Fr (· = pb) w W → (W.cell? ⟨tb, 5, none⟩ = some (.slice va 0 vc) ∧ W.cell? ⟨pbx, 0, none⟩ = some (.pointer (some ⟨pb, 0, none⟩)) ∧ W.cell? ⟨dbx, 0, none⟩ = some (.int .i64 (d : Int)))) := fun W hW =>
    ⟨cell_of_heap (fr_heap ht hW h1) 5, cell_of_heap (fr_heap hx hW h2) 0, cell_of_heap (fr_heap hdx hW h3) 0⟩
  have OWN : Hid (∀ W, Fr (· = pb) w W → W.ownsRow base 32 7 (.slice va 0 vc) 0 xs) := fun W hW => row_fr hown hW (fun g hg e => by have := (hown.lt g hg).1; have e : g = pb := e; omega)
  have CT : Hid (∀ W, Fr No w W → Calls Tryz.prog 61 #[.pointer (some ⟨pb, 0, none⟩), .int .i64 (IntKind.i64.wrap ((d : Int) + 1))] W fun e w' => ∃ e0 e1 e2 e3 a4 n4 c4 a5 n5 c5 a6 n6 c6, e = .returned (.agg #[.int .i64 e0, .int .i64 e1, .string e2, .string e3, .slice a4 n4 c4, .slice a5 n5 c5, .slice a6 n6 c6]) ∧ RTS K (fun g => w.heap.size ≤ g ∧ g < w'.heap.size) w' [.int .i64 e0, .int .i64 e1, .string e2, .string e3, .slice a4 n4 c4, .slice a5 n5 c5, .slice a6 n6 c6] t ∧ Fr (· = pb) W w' ∧ PS pb S k 0 w') := fun W hW => by
    rw [show IntKind.i64.wrap ((d : Int) + 1) = ((d + 1 : Nat) : Int) from (IntWalk.i64_in ((d : Int) + 1) (by omega)).trans (by omega)]
    refine (hr W (hps.fr hW (fun e => e)) (henv.fr hW (by omega) (fun _ _ e => e)) hp3).mono ?_
    rintro e w' ⟨cs, he, hrt, hf, hp'⟩
    obtain ⟨e0, e1, e2, e3, a4, n4, c4, a5, n5, c5, a6, n6, c6, rfl⟩ := hrt.form
    exact ⟨e0, e1, e2, e3, a4, n4, c4, a5, n5, c5, a6, n6, c6, he, hrt.kept ⟨Nat.le_refl _, fun g hg _ => ⟨⟨Nat.le_trans hW.size hg.1, hg.2⟩, rfl⟩⟩, hf, hp'⟩
  have HHT := hide ht
  have D0 : Fr No w w.drew := (Fr.refl No w).drew
  obtain ⟨n0, n1, n2⟩ := SA.out w (Fr.refl _ w)
  have OZ : Hid (∀ u ∈ (Array.toList (α := Value) #[.int .i64 0, .int .i64 0, .string ⟨#[]⟩, .string ⟨#[]⟩, .slice none 0 0, .slice none 0 0, .slice none 0 0]), u.oneCell' = true) := fun u hu => by
    simp only [List.mem_cons, List.not_mem_nil, or_false] at hu
    rcases hu with rfl | rfl | rfl | rfl | rfl | rfl | rfl <;> rfl
  have FT : Hid (∀ W W' : World, Fr No w W → Fr (· = pb) W W' → Fr (· = pb) w W') := fun W W' h h' => (h.mono (fun _ _ e => e.elim)).trans h'
  have NT : Hid (¬ (tb = pb ∨ (Value.slice va 0 vc).ownBlock = some tb)) := fun e => by
    rcases e with e | e
    · exact h1 e
    · have := (hown.lt tb e).1; omega
  have GR : Hid (∀ W W' : World, Fr (· = pb) w W → W.grownBy W' (Value.slice va 0 vc).ownBlock → Fr (fun i => i = pb ∨ (Value.slice va 0 vc).ownBlock = some i) w W') := fun W W' hW hg => (hW.mono (fun _ _ e => .inl e)).grown hg (fun i hi => .inl (.inr hi))
  have PSR : Hid (∀ W W' : World, PS pb S k 0 W → W.grownBy W' (Value.slice va 0 vc).ownBlock → PS pb S k 0 W') := fun W W' hW hg => by
    have := hg.block pb (lt_of_heap hW) (fun e => by have := (hown.lt pb e.symm).1; omega)
    exact this.trans hW
  have SX : Hid (∀ W, Fr (fun i => i ≠ pbx ∧ i ≠ dbx) w W → (W.cell? ⟨pbx, 0, none⟩ = some (.pointer (some ⟨pb, 0, none⟩)) ∧ W.cell? ⟨dbx, 0, none⟩ = some (.int .i64 (d : Int)) ∧ Fr (fun i => i ≠ pbx ∧ i ≠ dbx) w W)) := fun W hW =>
    ⟨cell_of_heap (fr_heap hx hW (fun e => e.1 rfl)) 0, cell_of_heap (fr_heap hdx hW (fun e => e.2 rfl)) 0, hW⟩
  have DX : Fr (fun i => i ≠ pbx ∧ i ≠ dbx) w w.drew := (Fr.refl _ w).drew
  have ALZ : Hid (∀ W, Fr (· = pb) ((w.alloc (.cells #[.int .i64 0, .int .i64 0, .string ⟨#[]⟩, .string ⟨#[]⟩, .slice none 0 0, .slice none 0 0, .slice none 0 0] 32)).drew) W → W.heap[w.heap.size]? = some (.cells #[.int .i64 0, .int .i64 0, .string ⟨#[]⟩, .string ⟨#[]⟩, .slice none 0 0, .slice none 0 0, .slice none 0 0] 32 (0, 0))) := fun W hW => by
    have h0 : ((w.alloc (.cells #[.int .i64 0, .int .i64 0, .string ⟨#[]⟩, .string ⟨#[]⟩, .slice none 0 0, .slice none 0 0, .slice none 0 0] 32)).drew).heap[w.heap.size]? = some (.cells #[.int .i64 0, .int .i64 0, .string ⟨#[]⟩, .string ⟨#[]⟩, .slice none 0 0, .slice none 0 0, .slice none 0 0] 32 (0, 0)) := heap_alloc_new w _
    exact fr_heap h0 hW (fun e => by have e : w.heap.size = pb := e; omega)
  have TX1 : Hid (∀ W, Fr (· = pb) w W → Fr (fun i => i ≠ pbx ∧ i ≠ dbx) w W) := fun W hW => hW.mono (fun i _ e => by have e : i = pb := e; subst e; exact ⟨fun e => h2 e.symm, fun e => h3 e.symm⟩)
  have TX2 : Hid (∀ W, Fr (fun i => i = pb ∨ (Value.slice va 0 vc).ownBlock = some i) w W → Fr (fun i => i ≠ pbx ∧ i ≠ dbx) w W) := fun W hW => hW.mono (fun i _ e => by
    rcases e with e | e
    · subst e; exact ⟨fun e => h2 e.symm, fun e => h3 e.symm⟩
    · have := (hown.lt i e).1; exact ⟨by omega, by omega⟩)
  have GN : Hid (∀ (W1 W : World) (g c : Nat), Fr No W1 W → ((Value.slice (some ⟨g, 0, none⟩) 1 c).ownBlock = (Value.slice va 0 vc).ownBlock ∨ (Value.slice (some ⟨g, 0, none⟩) 1 c).ownBlock = some W.heap.size) → ((Value.slice va 0 vc).ownBlock = some g ∨ W1.heap.size ≤ g)) := fun W1 W g c hW hl => by
    rcases hl with hl | hl
    · exact .inl hl.symm
    · have hg : g = W.heap.size := Option.some.inj hl
      have := hW.size
      exact .inr (by omega)
  have GF : Hid (∀ W1 W W' : World, Fr No W1 W → W.grownBy W' (Value.slice va 0 vc).ownBlock → Fr (fun i => (Value.slice va 0 vc).ownBlock = some i) W1 W') := fun W1 W W' hW hg => (hW.mono (fun _ _ e => e.elim)).grown hg (fun i hi => .inl hi)
  have hTt : tb ≠ pbx ∧ tb ≠ dbx := hTB
  have HTT := hide hTt
  have HH1 := hide h1
  have HOWN := hide hown
  have HEACH := hide heach
  have HLEN := hide hlen
  clear hr hps henv ht hx hdx hown hTt hTB heach hlen
  go_enter Tryz.func99, Tryz.ntmps99
  go_wp2_with fail
  go_region_law (first
    | (go_simp; go_at_call 61; refine (CT.out _ (by first | exact D0 | exact fr_d1 _ _)).mono ?_; rintro e w1 ⟨e0, e1, e2, e3, a4, n4, c4, a5, n5, c5, a6, n6, c6, rfl, hrt, hf1, ps1⟩; have HRT := hide hrt; have f1 := FT.out _ _ (by first | exact D0 | exact fr_d1 _ _) hf1; obtain ⟨m0, m1, m2⟩ := SA.out w1 f1; have FX1 := hide (TX1.out _ f1); have F1 := hide f1; have m0l := lt_of_heap (fr_heap HHT.out f1 HH1.out); have PS1 := hide ps1; have HF1 := hide hf1; clear hf1 f1 ps1 hrt; dsimp only)
    | (refine step_append_term rfl (.tmp 4) (.tmp 10) rfl rfl (base := base) (n := 0) (R := _) (v := .slice va 0 vc) (xs := xs) (cs := #[.int .i64 0, .int .i64 0, .string ⟨#[]⟩, .string ⟨#[]⟩, .slice none 0 0, .slice none 0 0, .slice none 0 0]) rfl rfl (by first | exact OWN.out _ F1.out | exact (OWN.out _ F1.out).alloc _) (by first | exact heap_alloc_new _ _ | exact ALZ.out _ HF1.out) rfl OZ.out (by omega) (by have := F1.out.size; first | omega | (rw [World.size_alloc]; omega)) ?_; intro v2 w2 ho2 hg2 hl2; have f2 := GR.out _ _ (by first | exact F1.out | exact F1.out.alloc _) hg2; have F12 := hide (GF.out w1 _ _ (by first | exact Fr.refl No w1 | exact (Fr.refl No w1).alloc _) hg2); obtain ⟨g2, c2, hv2, hg2b, hg2l, hc2, hc2'⟩ := own_form ho2 (by decide); have hv3 : v2 = .slice (some ⟨g2, 0, none⟩) 1 c2 := hv2; subst hv3; have qc0 : w2.cell? ⟨g2, 0, none⟩ = some (.int .i64 0) := (ho2.cellAt 0 (by decide)).trans (by rw [List.getElem?_append_right (by rw [HXL.out]; decide), HXL.out]; rfl); have qc1 : w2.cell? ⟨g2, 1, none⟩ = some (.int .i64 0) := (ho2.cellAt 1 (by decide)).trans (by rw [List.getElem?_append_right (by rw [HXL.out]; decide), HXL.out]; rfl); have qc2 : w2.cell? ⟨g2, 2, none⟩ = some (.string ⟨#[]⟩) := (ho2.cellAt 2 (by decide)).trans (by rw [List.getElem?_append_right (by rw [HXL.out]; decide), HXL.out]; rfl); have qc3 : w2.cell? ⟨g2, 3, none⟩ = some (.string ⟨#[]⟩) := (ho2.cellAt 3 (by decide)).trans (by rw [List.getElem?_append_right (by rw [HXL.out]; decide), HXL.out]; rfl); have qc4 : w2.cell? ⟨g2, 4, none⟩ = some (.slice none 0 0) := (ho2.cellAt 4 (by decide)).trans (by rw [List.getElem?_append_right (by rw [HXL.out]; decide), HXL.out]; rfl); have qc5 : w2.cell? ⟨g2, 5, none⟩ = some (.slice none 0 0) := (ho2.cellAt 5 (by decide)).trans (by rw [List.getElem?_append_right (by rw [HXL.out]; decide), HXL.out]; rfl); have qc6 : w2.cell? ⟨g2, 6, none⟩ = some (.slice none 0 0) := (ho2.cellAt 6 (by decide)).trans (by rw [List.getElem?_append_right (by rw [HXL.out]; decide), HXL.out]; rfl); have qz : ∀ o, w2.frozen? ⟨g2, o, none⟩ = false := fun o => ho2.frozenAt o; have t2 := fr_heap HHT.out f2 NT.out; have t5 := cell_of_heap t2 5; have tz := frozen_of_heap t2; have tl := lt_of_heap t2; have hgt : g2 ≠ tb := (by omega); have htg : tb ≠ g2 := (by omega); have FX2 := hide (TX2.out _ f2); have hTg : g2 ≠ pbx ∧ g2 ≠ dbx := ⟨by omega, by omega⟩; have hTt := HTT.out; have G2 := hide (GN.out w1 _ _ _ (by first | exact Fr.refl No w1 | exact (Fr.refl No w1).alloc _) hl2); have T2 := hide t2; have HO2 := hide ho2; have F2 := hide f2; have PS2 := hide (PSR.out _ _ (by first | exact PS1.out | exact PS1.out.fr ((Fr.refl No w1).alloc _) (fun e => e)) hg2); clear t2 ho2 f2 hg2 hl2 hv2))
  all_goals
    go_end0
    have hpg : pb ≠ g2 := (by omega)
    refine ⟨rfl, ?_⟩
    first
      | (have r := fin_a (o := 0) (zs := Array.toList (α := Value) #[.int .i64 0, .int .i64 0, .string ⟨#[]⟩, .string ⟨#[]⟩, .slice none 0 0, .slice none 0 0, .slice none 0 0]) HO2.out T2.out PS2.out hgt hpg HH1.out HXL.out rfl (.int .i64 e0) (.int .i64 e1) (.string e2) (.string e3) (.slice a4 n4 c4) (.slice a5 n5 c5) (.slice a6 n6 c6)
         simp only [put7, Nat.zero_add] at r
         obtain ⟨r1, r2, r3, r4⟩ := r
         have q := arg_fin HOWN.out HEACH.out hb F1.out hpb htb HRT.out rfl F12.out r1 G2.out r4 HLEN.out
         with_reducible exact ⟨q.1, r2, _, r3, q.2⟩)
      | (have r := fin_b (o := 0) (zs := Array.toList (α := Value) #[.int .i64 0, .int .i64 0, .string ⟨#[]⟩, .string ⟨#[]⟩, .slice none 0 0, .slice none 0 0, .slice none 0 0]) HO2.out T2.out PS2.out hgt hpg HH1.out HXL.out rfl (.int .i64 e0) (.int .i64 e1) (.string e2) (.string e3) (.slice a4 n4 c4) (.slice a5 n5 c5) (.slice a6 n6 c6)
         simp only [put7, Nat.zero_add] at r
         obtain ⟨r1, r2, r3, r4⟩ := r
         have q := arg_fin HOWN.out HEACH.out hb F1.out hpb htb HRT.out rfl F12.out r1 G2.out r4 HLEN.out
         with_reducible exact ⟨q.1, r2, _, r3, q.2⟩)

end Go.Proofs.YtomahbdidlglfacGreatDoor
