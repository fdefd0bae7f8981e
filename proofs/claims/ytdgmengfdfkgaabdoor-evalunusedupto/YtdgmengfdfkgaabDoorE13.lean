/- 'Run', walked. -/
import Derived.Test.YtdgmengfdfkgaabDoorE11E12
import Derived.Test.YtdgmengfdfkgaabDoorE2E3
import Derived.Test.YtdgmengfdfkgaabDoorE4
namespace Go.Proofs.YtdgmengfdfkgaabDoor
open Go.RowKit Go.Maps Go.WideMaps

/-- Whole numbers, one behind the other. -/
def Ints (B : Nat) (w : World) (v : Value) (l : List Int) : Prop := Row B w v l.length (l.map (.int .i64 ·))
theorem Ints.at {B : Nat} {w : World} {v : Value} {l : List Int} (h : Ints B w v l) {i : Nat} (hi : i < l.length) : ∃ g o cap, v = .slice (some ⟨g, o, none⟩) l.length cap ∧ l.length ≤ cap ∧ cap ≤ maxLen ∧ g < B ∧ g < w.heap.size ∧ w.cell? ⟨g, o + i, none⟩ = some (.int .i64 l[i]) := by
  obtain ⟨a, cap, h1, h2, h3, h4⟩ := h
  obtain ⟨g, o, rfl, h5, h6, h7⟩ := h4 (by omega)
  exact ⟨g, o, cap, h1, h2, h3, h5, h6, by rw [h7 i (by simpa using hi)]; simp [hi]⟩

/-- Numbers as values. -/
def NumC (cs : List Value) (v : Pu.V) : Prop := cs = [.bool false, .int .i64 v.n, .slice none 0 0] ∧ v.con = false ∧ v.kids = []
theorem num_vals {S : Nat → Prop} {w : World} {b : Nat} {cur : Array Value} {xs : List Value} {l : List Pu.V} (hb : w.heap[b]? = some (.cells cur 29 (0, 0))) (hS : S b) (he : Each 3 NumC xs l) (hc : ∀ j, j < l.length * 3 → cur[j]? = xs[j]?) (hl : l.length ≤ 1073741824) : Vals S w (.slice (some ⟨b, 0, none⟩) l.length l.length) l := by
  refine ⟨1, xs, hl, ⟨_, _, rfl, Nat.le_refl _, by unfold maxLen; omega, fun _ => ⟨b, 0, rfl, hS, lt_of_heap hb, fun j hj => ?_⟩⟩, he.mono fun cs v ⟨h1, h2, h3⟩ => ?_⟩
  · rw [cell_of_heap hb, Nat.zero_add]
    exact hc j (by rw [← he.length]; exact hj)
  · obtain ⟨c, n, ks⟩ := v
    simp only at h1 h2 h3
    subst h1 h2 h3
    exact RV.num S w 0 false n

set_option maxHeartbeats 4000000 in
theorem run_any (K B : Nat) (w : World) (fv av : Value) (l : List (Pu.Fn K)) (name : ByteArray) (args : List Int) (fuel : Int) (hl : Fns K B w fv l) (ha : Ints B w av args) (hB : B ≤ w.heap.size) (hn : args.length ≤ 1048576) (hwl : ∀ f ∈ l, Pu.wt K f.2.2 ≤ 1048576) :
    Calls Tryd.prog 10 #[fv, .string name, av, .int .i64 fuel] w fun e w' => Ans Any w' e (Pu.run l name args fuel).1 (Pu.run l name args fuel).2 ∧ Fr No w w' := by
  obtain ⟨aa, ac, rfl, hac1, hac2⟩ := Row.form ha
  obtain ⟨fa, fc, rfl, _⟩ : ∃ a cap, fv = .slice a l.length cap ∧ l.length ≤ cap ∧ cap ≤ maxLen := by obtain ⟨acs, hr, _⟩ := hl; exact hr.form
  unfold maxLen at hac2
  have z0 := heap_alloc_new w (.cells #[.bool false, .int .i64 0, .slice none 0 0] 29)
  have Z0 := hide z0
  clear z0
  by_cases hlo : fuel < 0
  · have e : Pu.run l name args fuel = (Pu.V.zero, 3) := by unfold Pu.run; rw [if_pos (.inl hlo)]
    rw [e]
    clear e hl ha hwl
    go_enter Tryd.func10, Tryd.ntmps10
    go_wp2_with fail
    refine bodyPost_ret (ret2 rfl _ _ w.heap.size (.bool false) (.int .i64 0) (.slice none 0 0) (.int .i64 3) (0, 0) rfl rfl Z0.out) rfl ⟨Ans.told rfl rfl, (Fr.refl No w).alloc _⟩
  by_cases hhi : 300 < fuel
  · have e : Pu.run l name args fuel = (Pu.V.zero, 3) := by unfold Pu.run; rw [if_pos (.inr hhi)]
    rw [e]
    clear e hl ha hwl
    go_enter Tryd.func10, Tryd.ntmps10
    go_wp2_with fail
    refine bodyPost_ret (ret2 rfl _ _ w.heap.size (.bool false) (.int .i64 0) (.slice none 0 0) (.int .i64 3) (0, 0) rfl rfl Z0.out) rfl ⟨Ans.told rfl rfl, (Fr.refl No w).alloc _⟩
  obtain ⟨F, rfl⟩ : ∃ F : Nat, fuel = F := ⟨fuel.toNat, by omega⟩
  have hF300 : F ≤ 300 := by omega
  have erun : Pu.run l name args F = if (Pu.call l F 40 name (args.map Pu.num) 0).e = 0 then (if (Pu.call l F 40 name (args.map Pu.num) 0).v.nodes ≤ 1000 then ((Pu.call l F 40 name (args.map Pu.num) 0).v, 0) else (Pu.V.zero, 4)) else (Pu.V.zero, (Pu.call l F 40 name (args.map Pu.num) 0).e) := by
    unfold Pu.run
    rw [if_neg (by omega), Int.toNat_natCast]
  rw [erun]
  obtain ⟨out, hout⟩ : ∃ out, out = Pu.call l F 40 name (args.map Pu.num) 0 := ⟨_, rfl⟩
  have hzed : out.e ≠ 0 → out.v = Pu.V.zero := by rw [hout]; exact Pu.call_zed l F 40 name (args.map Pu.num) 0
  rw [← hout]
  obtain ⟨res, hres⟩ : ∃ res, res = if out.e = 0 then (if out.v.nodes ≤ 1000 then (out.v, (0 : Int)) else (Pu.V.zero, 4)) else (Pu.V.zero, out.e) := ⟨_, rfl⟩
  rw [← hres]
  have HRES := hide hres
  clear hres
  have HZED := hide hzed
  have HOUT := hide hout
  clear hout hzed erun
  obtain ⟨i0, hi, hz0, hz1, hz2⟩ := info_parts Tryd.info29
  have hmk : ∀ u : World, (Instr.makeSlice 27 (.int .i64 (args.length : Int)) (.int .i64 (args.length : Int))).run Tryd.prog u =
      .ok (.slice (some ⟨u.heap.size, 0, none⟩) args.length args.length) (u.alloc (.cells (madeCells #[.bool false, .int .i64 0, .slice none 0 0] (args.length * 3)) 29)) := fun u => by
    have h := run_make (P := Tryd.prog) u 27 29 i0 _ Tryd.underlying27 hi hz0 .i64 .i64 (args.length : Int) (args.length : Int) (by omega) (Int.le_refl _) (by rw [hz2]; omega) (by omega)
    rw [Int.toNat_natCast] at h
    simpa [hz1, Value.cells] using h
  have z1 := fr_heap (heap_alloc_new w (.cells #[.bool false, .int .i64 0, .slice none 0 0] 29)) ((Fr.refl No _).alloc (.cells (madeCells #[.bool false, .int .i64 0, .slice none 0 0] (args.length * 3)) 29)) (fun e => e)
  have z2 := heap_alloc_new (w.alloc (.cells #[.bool false, .int .i64 0, .slice none 0 0] 29)) (.cells (madeCells #[.bool false, .int .i64 0, .slice none 0 0] (args.length * 3)) 29)
  rw [World.size_alloc] at z2
  have Z1 := hide z1
  have Z2 := hide z2
  have HL := hide hl
  have HA := hide ha
  have HWL := hide hwl
  clear hi hz0 hz1 hz2 z1 z2 hl ha hwl Z0
  go_enter Tryd.func10, Tryd.ntmps10
  go_wp2_with fail
  clear hmk
  generalize (decide ((F : Int) < 0)) = bq1
  generalize (decide ((300 : Int) < (F : Int))) = bq2
  go_loopw [28] (fun q wr => ∃ i : Nat, i ≤ args.length ∧ q = .int .i64 i ∧ Fr No w wr ∧ wr.heap[w.heap.size]? = some (.cells #[.bool false, .int .i64 0, .slice none 0 0] 29 (0, 0)) ∧
      ∃ cur xs, wr.heap[w.heap.size + 1]? = some (.cells cur 29 (0, 0)) ∧ cur.size = args.length * 3 ∧ xs.length = i * 3 ∧ (∀ j, j < i * 3 → cur[j]? = xs[j]?) ∧ Each 3 NumC xs ((args.take i).map Pu.num)) (fun q _ => args.length - (intOf q).toNat)
  case atStart => exact ⟨0, Nat.zero_le _, rfl, ((Fr.refl No w).alloc _).alloc _, Z1.out, _, [], Z2.out, size_madeCells _ _, rfl, fun j hj => absurd hj (by omega), rfl⟩
  case round =>
    clear Z1 Z2
    obtain ⟨i, hi', rfl, hf, hr0, cur, xs, hg, hsz, hxl, hcur, hea⟩ := hrel
    have hbs : w.heap.size + 1 < wr.heap.size := lt_of_heap hg
    by_cases hlt : i < args.length
    · obtain ⟨g, o, cap, hav, _, _, hgB, hgw, hcell⟩ := HA.out.at hlt
      injection hav with hav1 _ hav2
      subst hav1 hav2
      have q0 : wr.cell? ⟨g, o + i, none⟩ = some (.int .i64 args[i]) := by
        rw [← hcell]; simp only [World.cell?, hf.block g hgw (fun e => e)]
      have hgl : g < wr.heap.size := Nat.lt_of_lt_of_le hgw hf.size
      have htk : (args.take (i + 1)).map Pu.num = (args.take i).map Pu.num ++ [Pu.num args[i]] := by rw [List.take_succ_eq_append_getElem hlt, List.map_append]; rfl
      obtain ⟨av, hav⟩ : ∃ av, av = args[i] := ⟨_, rfl⟩
      rw [← hav] at q0 htk
      have HTK := hide htk
      have HF := hide hf
      have HG := hide hg
      have HR0 := hide hr0
      have HCUR := hide hcur
      have HEA := hide hea
      clear hf hg hcur hea htk hcell hr0 hav
      have i1 : (i : Int) < (args.length : Int) := by omega
      have i00 : (0 : Int) ≤ (i : Int) := by omega
      have hsize : i * 3 + 3 ≤ cur.size := by omega
      go_wp2_with fail
      refine (number_any _ _).mono ?_
      rintro e w1 ⟨rfl, hf1⟩
      have g1 := fr_heap HG.out hf1 (fun e => e)
      obtain ⟨u0, hu0⟩ := some_at g1 (o := i * 3) (by omega)
      obtain ⟨u1, hu1⟩ := some_at g1 (o := i * 3 + 1) (by omega)
      obtain ⟨u2, hu2⟩ := some_at g1 (o := i * 3 + 2) (by omega)
      have z1 := frozen_of_heap g1
      have hl1 := lt_of_heap g1
      have G1 := hide g1
      have HF1 := hide hf1
      clear g1 hf1 q0
      generalize hwv : wrap32 av = wv
      have HWV := hide hwv
      clear hwv
      go_wp2_with fail
      go_roundw
      case rel =>
        obtain ⟨cur', k1, k2, k3, k4, k5⟩ := sets_heap (w.heap.size + 1) 29 (0, 0) [.bool false, .int .i64 wv, .slice none 0 0] (i * 3) w1 cur G1.out (by simp; omega)
        refine ⟨i + 1, by omega, by go_num, (HF.out.trans HF1.out).trans' k5 (fun j hj e => by have e : j = w.heap.size + 1 := e; omega), fr_heap (fr_heap HR0.out HF1.out (fun e => e)) k5 (fun e => by have e : w.heap.size = w.heap.size + 1 := e; omega), cur', xs ++ [.bool false, .int .i64 wv, .slice none 0 0], k1, by omega, by simp [hxl]; omega, fun j hj => ?_, ?_⟩
        · by_cases hji : j < i * 3
          · rw [k3 j hji, HCUR.out j hji, List.getElem?_append_left (by omega)]
          · have := k4 (j - i * 3) (by simp; omega)
            rw [show i * 3 + (j - i * 3) = j by omega] at this
            rw [this, List.getElem?_append_right (by omega), hxl]
        · rw [HTK.out]
          exact Each.snoc (n := 3) rfl ⟨by rw [← HWV.out]; rfl, rfl, rfl⟩ HEA.out
      case measure => simp [intOf]; omega
    · have hil : i = args.length := by omega
      subst hil
      rw [List.take_length] at hea
      obtain ⟨W1, hW1⟩ : ∃ W1, W1 = wr.alloc (.cells #[.slice fa l.length fc, .int .i64 F, .int .i64 0, .int .i64 0] 65) := ⟨_, rfl⟩
      have f1 : Fr No wr W1 := by rw [hW1]; exact (Fr.refl No wr).alloc _
      have fw1 := hf.trans f1
      have grb : W1.heap[wr.heap.size]? = some (.cells #[.slice fa l.length fc, .int .i64 F, .int .i64 0, .int .i64 0] 65 (0, 0)) := by rw [hW1]; exact heap_alloc_new _ _
      have hrbl := lt_of_heap grb
      have hgood : Good (fun g => g ≠ wr.heap.size) wr.heap.size B W1 := ⟨fun g hg => by show g ≠ _; omega, fun g hg => by show g ≠ _; have := hf.size; omega, fun g hg => hg⟩
      have hvals : Vals (fun g => g ≠ wr.heap.size) W1 (.slice (some ⟨w.heap.size + 1, 0, none⟩) args.length args.length) (args.map Pu.num) := by
        have h := num_vals (S := fun g => g ≠ wr.heap.size) (fr_heap hg f1 (fun e => e)) (by show _ ≠ _; omega) hea (by rw [List.length_map]; exact hcur) (by rw [List.length_map]; omega)
        rw [List.length_map] at h
        exact h
      have CC : Hid (Calls Tryd.prog 31 #[.pointer (some ⟨wr.heap.size, 0, none⟩), .string name, .slice (some ⟨w.heap.size + 1, 0, none⟩) args.length args.length] W1 fun e w' => ∃ p0 p1 p2, e = .returned (.tuple #[.agg #[.bool out.v.con, .int .i64 out.v.n, .slice p0 p1 p2], .int .i64 out.e]) ∧ AV Any w' [.bool out.v.con, .int .i64 out.v.n, .slice p0 p1 p2] out.v ∧ Fr (· = wr.heap.size) W1 w') := by
        rw [HOUT.out]
        refine (call_all K B wr.heap.size F _ l hF300 (by have := hf.size; omega) HWL.out 40 0 rfl _ W1 name _ (args.map Pu.num) 0 hgood hvals ⟨grb, Nat.zero_le _⟩ (HL.out.old (fw1.old hB (fun _ _ e => e)) fw1.size)).mono ?_
        rintro e w' ⟨⟨cs, he, hav⟩, h1, _⟩
        obtain ⟨p0, p1, p2, rfl⟩ := hav.tuple
        exact ⟨p0, p1, p2, he, hav.kept ⟨Nat.le_refl _, fun _ _ _ => ⟨trivial, rfl⟩⟩, h1⟩
      have HW1 := hide hW1
      have HF := hide hf
      have FW1 := hide fw1
      have HR0 := hide (fr_heap hr0 f1 (fun e => e))
      clear hW1 hf f1 fw1 grb hgood hvals hg hcur hea hr0
      go_wp2_with fail
      rw [← HW1.out]
      refine CC.out.mono ?_
      rintro e w2 ⟨p0, p1, p2, rfl, hav2, hf2⟩
      have hr2 := fr_heap HR0.out hf2 (fun e => by have e : w.heap.size = wr.heap.size := e; omega)
      have HR2 := hide hr2
      have HAV2 := hide hav2
      have fw2 : Fr No w w2 := FW1.out.trans' hf2 (fun i hi e => by have e : i = wr.heap.size := e; have := HF.out.size; omega)
      have FW2 := hide fw2
      have r0 := cell_of_heap hr2
      have rz := frozen_of_heap hr2
      have hl2 := lt_of_heap hr2
      clear hr2 hav2 hf2 fw2 CC
      obtain ⟨kk, hk2⟩ := HAV2.out
      have CF : Hid (∀ W, Fr No w2 W → Calls Tryd.prog 24 #[.agg #[.bool out.v.con, .int .i64 out.v.n, .slice p0 p1 p2]] W fun e w' => e = .returned (.bool (decide (out.v.nodes ≤ 1000))) ∧ Fr No W w') := fun W hW => few_any kk W _ out.v (hk2.fr hW)
      have CO : Hid (∀ W, Fr No w2 W → Calls Tryd.prog 23 #[.agg #[.bool out.v.con, .int .i64 out.v.n, .slice p0 p1 p2]] W fun e w' => ∃ q0 q1 q2, e = .returned (.agg #[.bool out.v.con, .int .i64 out.v.n, .slice q0 q1 q2]) ∧ Fr No W w' ∧ RV kk (New W w') w' [.bool out.v.con, .int .i64 out.v.n, .slice q0 q1 q2] out.v) := fun W hW => by
        refine (own_all kk W _ out.v (hk2.fr hW)).mono ?_
        rintro e w' ⟨cs', he, h1, h2⟩
        obtain ⟨q0, q2, rfl⟩ := h2.form
        exact ⟨q0, _, q2, he, h1, h2⟩
      clear HAV2 hk2 r0 rz
      obtain ⟨W3, hW3⟩ : ∃ W3, W3 = w2.alloc (.cells #[.bool out.v.con, .int .i64 out.v.n, .slice p0 p1 p2] 29) := ⟨_, rfl⟩
      have f3 : Fr No w2 W3 := by rw [hW3]; exact (Fr.refl No w2).alloc _
      have gv : W3.heap[w2.heap.size]? = some (.cells #[.bool out.v.con, .int .i64 out.v.n, .slice p0 p1 p2] 29 (0, 0)) := by rw [hW3]; exact heap_alloc_new _ _
      have HW3 := hide hW3
      have F3 := hide f3
      have GV := hide gv
      clear hW3 f3 gv
      have hl3 : w.heap.size < W3.heap.size := by have := F3.out.size; omega
      by_cases he0 : out.e = 0
      rotate_left
      · have hv : out.v = Pu.V.zero := HZED.out he0
        have hr : res = (out.v, out.e) := by rw [HRES.out, if_neg he0, hv]
        subst hr
        have he0' : (out.e == 0) = false := by simpa using he0
        clear hv
        go_wp2_with fail
        rw [← HW3.out]
        refine (CO.out _ F3.out).mono ?_
        rintro e w5 ⟨q0, q1, q2, rfl, hf5, hrv5⟩
        have g5 := fr_heap (fr_heap HR2.out F3.out (fun e => e)) hf5 (fun e => e)
        have G5 := hide g5
        have y0 := cell_of_heap g5
        have yz := frozen_of_heap g5
        have hl5 := lt_of_heap g5
        have HRV5 := hide hrv5
        have FW5 := hide ((FW2.out.trans F3.out).trans hf5)
        have hsz5 : w.heap.size < W3.heap.size := hl3
        clear g5 hf5 hrv5 CO
        go_wp2_with fail
        obtain ⟨s1, s2⟩ := set3 G5.out (.bool out.v.con) (.int .i64 out.v.n) (.slice q0 q1 q2)
        refine bodyPost_ret (ret2 rfl _ _ w.heap.size (.bool out.v.con) (.int .i64 out.v.n) (.slice q0 q1 q2) (.int .i64 out.e) (0, 0) rfl rfl s1) rfl ⟨⟨[.bool out.v.con, .int .i64 out.v.n, .slice q0 q1 q2], rfl, ?_⟩, ?_⟩
        · skip
          exact ⟨kk, HRV5.out.kept (stays_fr s2 (fun g hg _ e => by have e : g = w.heap.size := e; have := hg.1; omega) (fun _ _ => trivial))⟩
        · exact FW5.out.trans' s2 (fun j hj e => by have e : j = w.heap.size := e; omega)
      · by_cases hn0 : out.v.nodes ≤ 1000
        · have hr : res = (out.v, 0) := by rw [HRES.out, if_pos he0, if_pos hn0]
          subst hr
          rw [decide_eq_true hn0] at CF
          go_wp2_with fail
          rw [← HW3.out]
          refine (CF.out _ F3.out).mono ?_
          rintro e w4 ⟨rfl, hf4⟩
          have f34 := F3.out.trans hf4
          have gv4 := fr_heap GV.out hf4 (fun e => e)
          have v0 := cell_of_heap gv4
          have hvl := lt_of_heap gv4
          have F4 := hide f34
          have hl4 : w.heap.size < w4.heap.size := by have := hf4.size; omega
          clear hf4 f34 gv4 CF
          go_wp2_with fail
          refine (CO.out _ F4.out).mono ?_
          rintro e w5 ⟨q0, q1, q2, rfl, hf5, hrv5⟩
          have g5 := fr_heap (fr_heap HR2.out F4.out (fun e => e)) hf5 (fun e => e)
          have G5 := hide g5
          have y0 := cell_of_heap g5
          have yz := frozen_of_heap g5
          have hl5 := lt_of_heap g5
          have HRV5 := hide hrv5
          have FW5 := hide ((FW2.out.trans F4.out).trans hf5)
          have hsz5 : w.heap.size < w4.heap.size := hl4
          clear g5 hf5 hrv5 CO
          go_wp2_with fail
          obtain ⟨s1, s2⟩ := set3 G5.out (.bool out.v.con) (.int .i64 out.v.n) (.slice q0 q1 q2)
          refine bodyPost_ret (ret2 rfl _ _ w.heap.size (.bool out.v.con) (.int .i64 out.v.n) (.slice q0 q1 q2) (.int .i64 0) (0, 0) rfl rfl s1) rfl ⟨⟨[.bool out.v.con, .int .i64 out.v.n, .slice q0 q1 q2], rfl, ?_⟩, ?_⟩
          · skip
            exact ⟨kk, HRV5.out.kept (stays_fr s2 (fun g hg _ e => by have e : g = w.heap.size := e; have := hg.1; omega) (fun _ _ => trivial))⟩
          · exact FW5.out.trans' s2 (fun j hj e => by have e : j = w.heap.size := e; omega)
        · have hr : res = (Pu.V.zero, 4) := by rw [HRES.out, if_pos he0, if_neg hn0]
          subst hr
          rw [decide_eq_false hn0] at CF
          go_wp2_with fail
          rw [← HW3.out]
          refine (CF.out _ F3.out).mono ?_
          rintro e w4 ⟨rfl, hf4⟩
          have f34 := F3.out.trans hf4
          have g4 := fr_heap HR2.out f34 (fun e => e)
          have G4 := hide g4
          have F4 := hide (FW2.out.trans f34)
          have r0 := cell_of_heap g4
          have rz := frozen_of_heap g4
          have hl4 := lt_of_heap g4
          clear hf4 f34 g4 CF
          go_wp2_with fail
          obtain ⟨s1, s2⟩ := set3 G4.out (.bool false) (.int .i64 0) (.slice none 0 0)
          refine bodyPost_ret (ret2 rfl _ _ w.heap.size (.bool false) (.int .i64 0) (.slice none 0 0) (.int .i64 4) (0, 0) rfl rfl s1) rfl ⟨Ans.told rfl rfl, ?_⟩
          exact F4.out.trans' s2 (fun j hj e => by have e : j = w.heap.size := e; omega)
end Go.Proofs.YtdgmengfdfkgaabDoor
