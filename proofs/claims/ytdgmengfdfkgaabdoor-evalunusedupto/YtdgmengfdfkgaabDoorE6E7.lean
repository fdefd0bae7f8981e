/- What names are: 'with', the closures that it makes, 'slices.Index', walked. -/
import Derived.Test.YtdgmengfdfkgaabDoorRvE5
import Derived.Test.YtdgmengfdfkgaabDoorS1
import Derived.Test.YtdgmengfdfkgaabDoorC6C7C9
namespace Go.Proofs.YtdgmengfdfkgaabDoor
open Go.RowKit Go.Maps Go.WideMaps

/-- What a name is, by the value of a known. -/
def KN (S : Nat → Prop) : (m : Nat) → World → Value → Pu.Env → Prop
  | 0, _, v, env => v = .func (.func 53) #[] #[] ∧ env = Pu.noEnv
  | m + 1, w, v, env => ∃ nb vb kb nv vv kv ns vs env', v = .func (.func 73) #[] #[.pointer (some ⟨nb, 0, none⟩), .pointer (some ⟨vb, 0, none⟩), .pointer (some ⟨kb, 0, none⟩)] ∧ S nb ∧ S vb ∧ S kb ∧
      w.heap[nb]? = some (.cells #[nv] 34 (0, 0)) ∧ w.heap[vb]? = some (.cells #[vv] 27 (0, 0)) ∧ w.heap[kb]? = some (.cells #[kv] 98 (0, 0)) ∧
      NamesS S w nv ns ∧ Vals S w vv vs ∧ ns.length = vs.length ∧ KN S m w kv env' ∧ env = env'.bind ns vs

theorem KN.kept {S S' : Nat → Prop} {w w' : World} (hs : Stays S S' w w') : ∀ {m : Nat} {v : Value} {env : Pu.Env}, KN S m w v env → KN S' m w' v env
  | 0, _, _, h => h
  | _ + 1, _, _, h => by
    obtain ⟨nb, vb, kb, nv, vv, kv, ns, vs, env', h1, h2, h3, h4, h5, h6, h7, h8, h9, h10, h11, h12⟩ := h
    exact ⟨nb, vb, kb, nv, vv, kv, ns, vs, env', h1, (hs.2 nb h2 (lt_of_heap h5)).1, (hs.2 vb h3 (lt_of_heap h6)).1, (hs.2 kb h4 (lt_of_heap h7)).1, (hs.2 nb h2 (lt_of_heap h5)).2.trans h5, (hs.2 vb h3 (lt_of_heap h6)).2.trans h6, (hs.2 kb h4 (lt_of_heap h7)).2.trans h7, h8.kept hs, h9.kept hs, h10, KN.kept hs h11, h12⟩

/-- What is told: a value, and an errno. -/
def Ans (S : Nat → Prop) (w : World) (e : Ending) (v : Pu.V) (err : Int) : Prop := ∃ cs : List Value, e = .returned (.tuple #[.agg cs.toArray, .int .i64 err]) ∧ AV S w cs v
theorem Ans.told {S : Nat → Prop} {w : World} {e : Ending} {v : Pu.V} {err : Int} (h : e = .returned (Told v err)) (hk : v.kids = []) : Ans S w e v err :=
  ⟨[.bool v.con, .int .i64 v.n, .slice none 0 0], h, 1, by obtain ⟨c, n, ks⟩ := v; simp only at hk; subst hk; exact RV.num S w 0 c n⟩

/-- But for one block. -/
abbrev But (S : Nat → Prop) (r : Nat) : Nat → Prop := fun g => S g ∧ g ≠ r
theorem AV.shut {S : Nat → Prop} {r : Nat} {w W : World} {cs : List Value} {v : Pu.V} (h : AV (But S r) w cs v) (hf : Fr (· = r) w W) : AV S W cs v := h.kept (stays_fr hf (fun _ hg _ e => hg.2 e) (fun _ hg => hg.1))
theorem stays_but {S : Nat → Prop} {w w' : World} (hf : Fr No w w') : Stays S (But S w.heap.size) w w' := ⟨hf.size, fun g hg hl => ⟨⟨hg, by omega⟩, hf.block g hl (fun e => e)⟩⟩

/-- Where a name stands. -/
def place (l : List ByteArray) (x : ByteArray) : Option Nat := l.findIdx? (fun y => decide (y = x))
def placeInt (r : Option Nat) : Int := match r with | some i => (i : Int) | none => -1

set_option maxHeartbeats 1000000 in
theorem index_any (S : Nat → Prop) (v : Value) (l : List ByteArray) (x : ByteArray) (w : World) (hl : NamesS S w v l) :
    Calls Tryd.prog 74 #[v, .string x] w fun e w' => e = .returned (.int .i64 (placeInt (place l x))) ∧ Fr No w w' := by
  obtain ⟨a1, c1, rfl, hc1, hc1'⟩ := hl.1.form
  unfold maxLen at hc1'
  have HL := hide hl
  clear hl
  go_enter Tryd.func74, Tryd.ntmps74
  go_wp2_with fail
  go_loopw [8] (fun q wr => ∃ i : Nat, i ≤ l.length ∧ q = .int .i64 i ∧ (∃ n, wr = w.drewN n) ∧ ∀ j (h1 : j < l.length), j < i → l[j] ≠ x) (fun q _ => l.length - (intOf q).toNat)
  case atStart => exact ⟨0, Nat.zero_le _, rfl, ⟨0, rfl⟩, fun j _ hj => absurd hj (by omega)⟩
  case round =>
    obtain ⟨i, hi, rfl, ⟨m, rfl⟩, hall⟩ := hrel
    have HA := hide hall
    clear hall
    by_cases hlt : i < l.length
    · obtain ⟨a, cap, hv, _, _, hrow⟩ := HL.out.1
      obtain ⟨g, o, rfl, _, hgw, hcells⟩ := hrow (by omega)
      injection hv with hv1 _ hv2
      subst hv1 hv2
      have hcell : w.cell? ⟨g, o + i, none⟩ = some (.string l[i]) := by rw [hcells i (by simpa using hlt)]; simp [hlt]
      obtain ⟨y, hy⟩ : ∃ y, y = l[i] := ⟨_, rfl⟩
      rw [← hy] at hcell
      have HY := hide hy
      have i1 : (i : Int) < (l.length : Int) := by omega
      have i0 : (0 : Int) ≤ (i : Int) := by omega
      clear hy hcells hrow
      by_cases e : x = y
      · have HP : Hid (place l x = some i) := by
          unfold place
          rw [List.findIdx?_eq_some_iff_getElem]
          exact ⟨hlt, by simp [← HY.out, e], fun j hj => by simpa using HA.out j (by omega) hj⟩
        subst e
        go_wp2_with fail
        go_ret
        rw [HP.out]
        exact ⟨rfl, (Fr.refl No w).drewN m⟩
      · have e' := str_ne' e
        go_wp2_with fail
        go_roundw
        case rel =>
          refine ⟨i + 1, by omega, by go_num, ⟨_, rfl⟩, fun j h1 hj => ?_⟩
          by_cases hji : j = i
          · subst hji; rw [← HY.out]; exact fun h => e h.symm
          · exact HA.out j h1 (by omega)
        case measure => simp [intOf]; omega
    · have hil : i = l.length := by omega
      subst hil
      have HP : Hid (place l x = none) := by
        unfold place
        rw [List.findIdx?_eq_none_iff]
        intro y hy
        obtain ⟨j, hj, rfl⟩ := List.getElem_of_mem hy
        simpa using HA.out j hj hj
      go_wp2_with fail
      go_ret
      rw [HP.out]
      exact ⟨rfl, (Fr.refl No w).drewN m⟩

theorem bind_some {env : Pu.Env} {ns : List ByteArray} {vs : List Pu.V} {x : ByteArray} {i : Nat} (h : place ns x = some i) : env.bind ns vs x = some (vs.getD i Pu.V.zero) := by
  unfold Pu.Env.bind; unfold place at h; rw [h]
theorem bind_none {env : Pu.Env} {ns : List ByteArray} {vs : List Pu.V} {x : ByteArray} (h : place ns x = none) : env.bind ns vs x = env x := by
  unfold Pu.Env.bind; unfold place at h; rw [h]
theorem place_lt {l : List ByteArray} {x : ByteArray} {i : Nat} (h : place l x = some i) : i < l.length := by
  unfold place at h
  rw [List.findIdx?_eq_some_iff_getElem] at h
  exact h.1

/-- What is told of a name. -/
def asked (env : Pu.Env) (x : ByteArray) : Pu.V × Int := match env x with | some v => (v, 0) | none => (Pu.V.zero, 6)

/-- Blocks that will be made are of S. -/
def Up (S : Nat → Prop) (w : World) : Prop := ∀ g, w.heap.size ≤ g → S g
theorem Up.fr {S T : Nat → Prop} {w w' : World} (h : Up S w) (hf : Fr T w w') : Up S w' := fun g hg => h g (Nat.le_trans hf.size hg)
theorem stays_no {S : Nat → Prop} {w w' : World} (hf : Fr No w w') : Stays S S w w' := stays_fr hf (fun _ _ _ e => e) (fun _ h => h)

set_option maxHeartbeats 600000 in
theorem known_0 (S : Nat → Prop) (w : World) (nb vb kb : Nat) (nv vv : Value) (ns : List ByteArray) (vs : List Pu.V) (env' : Pu.Env) (x : ByteArray) (hup : Up S w) (h5 : w.heap[nb]? = some (.cells #[nv] 34 (0, 0))) (h6 : w.heap[vb]? = some (.cells #[vv] 27 (0, 0))) (h7 : w.heap[kb]? = some (.cells #[.func (.func 53) #[] #[]] 98 (0, 0)))
    (h8 : NamesS S w nv ns) (h9 : Vals S w vv vs) (h10 : ns.length = vs.length) (hin : ∀ W, Fr No w W → w.heap.size < W.heap.size → Calls Tryd.prog 53 #[.string x] W fun e w' => Ans (But S w.heap.size) w' e (asked env' x).1 (asked env' x).2 ∧ Fr No W w') :
    Calls Tryd.prog 73 #[.string x, .pointer (some ⟨nb, 0, none⟩), .pointer (some ⟨vb, 0, none⟩), .pointer (some ⟨kb, 0, none⟩)] w fun e w' => Ans S w' e (asked (env'.bind ns vs) x).1 (asked (env'.bind ns vs) x).2 ∧ Fr No w w' := by
  have z0 := heap_alloc_new w (.cells #[.bool false, .int .i64 0, .slice none 0 0] 29)
  obtain ⟨W0, hW0⟩ : ∃ W0, W0 = w.alloc (.cells #[.bool false, .int .i64 0, .slice none 0 0] 29) := ⟨_, rfl⟩
  have f0 : Fr No w W0 := by rw [hW0]; exact (Fr.refl No w).alloc _
  rw [← hW0] at z0
  have hrs : S w.heap.size := hup _ (Nat.le_refl _)
  have CI : Hid (Calls Tryd.prog 74 #[nv, .string x] W0 fun e w' => e = .returned (.int .i64 (placeInt (place ns x))) ∧ Fr No W0 w') := index_any S nv ns x W0 (h8.kept (stays_no f0))
  have HIN : Hid (∀ W, Fr No w W → w.heap.size < W.heap.size → Calls Tryd.prog 53 #[.string x] W fun e w' => Ans (But S w.heap.size) w' e (asked env' x).1 (asked env' x).2 ∧ Fr No W w') := hin
  have n0 := cell_of_heap h5 0
  have hnb := lt_of_heap h5
  obtain ⟨a1, d1, rfl, hd1, hd2⟩ := h8.1.form
  unfold maxLen at hd2
  have H10 := hide h10
  have HW0 := hide hW0
  clear h10 hW0
  have Z0 := hide z0
  have F0 := hide f0
  have H6 := hide h6
  have H7 := hide h7
  have H9 := hide h9
  have HRS := hide hrs
  have HUP := hide hup
  clear h8 hin h5 h6 h7 z0 f0 h9 hrs hup
  go_enter Tryd.func73, Tryd.ntmps73
  go_wp2_with fail
  rw [← HW0.out]
  clear n0
  refine CI.out.mono ?_
  rintro e w1 ⟨rfl, hf1⟩
  have hf01 := F0.out.trans hf1
  have b6 := cell_of_heap (fr_heap H6.out hf01 (fun e => e)) 0
  have b7 := cell_of_heap (fr_heap H7.out hf01 (fun e => e)) 0
  have g1 := fr_heap Z0.out hf1 (fun e => e)
  have G1 := hide g1
  have r0 := cell_of_heap g1
  have rz := frozen_of_heap g1
  have hl1 := lt_of_heap g1
  have F1 := hide hf01
  clear CI hf1 g1 HW0
  cases hpl : place ns x with
  | some i =>
    have hi := place_lt hpl
    rw [H10.out] at hi
    have hb := bind_some (env := env') (vs := vs) hpl
    rw [List.getD_eq_getElem?_getD, List.getElem?_eq_getElem hi, Option.getD_some] at hb
    obtain ⟨g, o, cap, b1, m1, e1, rfl, hc1, hc2, hSg, hgw, hm1, hav, q0', q1', q2'⟩ := H9.out.at i hi
    have hgo : ∀ oo, w1.cell? ⟨g, oo, none⟩ = w.cell? ⟨g, oo, none⟩ := fun oo => by simp only [World.cell?, hf01.block g hgw (fun e => e)]
    have q0 := (hgo _).trans q0'
    have q1 := (hgo _).trans q1'
    have q2 := (hgo _).trans q2'
    clear q0' q1' q2' hgo
    have hgw1 : g < w1.heap.size := Nat.lt_of_lt_of_le hgw hf01.size
    unfold maxLen at hc2
    obtain ⟨y, hy⟩ : ∃ y, y = vs[i] := ⟨_, rfl⟩
    rw [← hy] at q0 q1 hm1 hav hb
    have HB : Hid (asked (env'.bind ns vs) x = (y, 0)) := hide (by unfold asked; rw [hb])
    have HAV := hide hav
    have i1 : (i : Int) < (vs.length : Int) := by omega
    have i0 : (0 : Int) ≤ (i : Int) := by omega
    clear hy hb hav hpl hm1 H9 hf01
    simp only [placeInt]
    go_wp2_with fail
    obtain ⟨s1, s2⟩ := set3 G1.out (.bool y.con) (.int .i64 y.n) (.slice b1 m1 e1)
    rw [HB.out]
    refine bodyPost_ret (ret2 rfl _ _ w.heap.size (.bool y.con) (.int .i64 y.n) (.slice b1 m1 e1) (.int .i64 0) (0, 0) rfl rfl s1) rfl ⟨⟨[.bool y.con, .int .i64 y.n, .slice b1 m1 e1], rfl, ?_⟩, ?_⟩
    · exact HAV.out.kept (stays_no (F1.out.trans' s2 (fun j hj e => by have e : j = w.heap.size := e; omega)))
    · exact F1.out.trans' s2 (fun j hj e => by have e : j = w.heap.size := e; omega)
  | none =>
    have hb := bind_none (env := env') (vs := vs) hpl
    have HB : Hid (asked (env'.bind ns vs) x = asked env' x) := hide (by unfold asked; rw [hb])
    clear hpl hb
    simp only [placeInt]
    go_wp2_with fail
    refine (HIN.out _ F1.out hl1).mono ?_
    rintro e w2 ⟨⟨cs, rfl, hav⟩, hf2⟩
    obtain ⟨p0, s0, rfl⟩ := hav.form
    obtain ⟨an, han⟩ : ∃ an, an = asked env' x := ⟨_, rfl⟩
    rw [← han] at hav HB
    rw [← han]
    have g2 := fr_heap G1.out hf2 (fun e => e)
    have G2 := hide g2
    clear r0 rz
    have r0 := cell_of_heap g2
    have rz := frozen_of_heap g2
    have hl2 := lt_of_heap g2
    have F2 := hide (F1.out.trans hf2)
    have HAV := hide hav
    clear g2 hf2 hav han b6 b7 HIN
    go_wp2_with fail
    obtain ⟨s1, s2⟩ := set3 G2.out (.bool an.1.con) (.int .i64 an.1.n) (.slice p0 an.1.kids.length s0)
    rw [HB.out]
    refine bodyPost_ret (ret2 rfl _ _ w.heap.size (.bool an.1.con) (.int .i64 an.1.n) (.slice p0 an.1.kids.length s0) (.int .i64 an.2) (0, 0) rfl rfl s1) rfl ⟨⟨[.bool an.1.con, .int .i64 an.1.n, .slice p0 an.1.kids.length s0], rfl, ?_⟩, ?_⟩
    · exact HAV.out.shut s2
    · exact F2.out.trans' s2 (fun j hj e => by have e : j = w.heap.size := e; omega)

set_option maxHeartbeats 600000 in
theorem known_1 (S : Nat → Prop) (w : World) (nb vb kb p1 p2 p3 : Nat) (nv vv : Value) (ns : List ByteArray) (vs : List Pu.V) (env' : Pu.Env) (x : ByteArray) (hup : Up S w) (h5 : w.heap[nb]? = some (.cells #[nv] 34 (0, 0))) (h6 : w.heap[vb]? = some (.cells #[vv] 27 (0, 0))) (h7 : w.heap[kb]? = some (.cells #[.func (.func 73) #[] #[.pointer (some ⟨p1, 0, none⟩), .pointer (some ⟨p2, 0, none⟩), .pointer (some ⟨p3, 0, none⟩)]] 98 (0, 0)))
    (h8 : NamesS S w nv ns) (h9 : Vals S w vv vs) (h10 : ns.length = vs.length) (hin : ∀ W, Fr No w W → w.heap.size < W.heap.size → Calls Tryd.prog 73 #[.string x, .pointer (some ⟨p1, 0, none⟩), .pointer (some ⟨p2, 0, none⟩), .pointer (some ⟨p3, 0, none⟩)] W fun e w' => Ans (But S w.heap.size) w' e (asked env' x).1 (asked env' x).2 ∧ Fr No W w') :
    Calls Tryd.prog 73 #[.string x, .pointer (some ⟨nb, 0, none⟩), .pointer (some ⟨vb, 0, none⟩), .pointer (some ⟨kb, 0, none⟩)] w fun e w' => Ans S w' e (asked (env'.bind ns vs) x).1 (asked (env'.bind ns vs) x).2 ∧ Fr No w w' := by
  have z0 := heap_alloc_new w (.cells #[.bool false, .int .i64 0, .slice none 0 0] 29)
  obtain ⟨W0, hW0⟩ : ∃ W0, W0 = w.alloc (.cells #[.bool false, .int .i64 0, .slice none 0 0] 29) := ⟨_, rfl⟩
  have f0 : Fr No w W0 := by rw [hW0]; exact (Fr.refl No w).alloc _
  rw [← hW0] at z0
  have hrs : S w.heap.size := hup _ (Nat.le_refl _)
  have CI : Hid (Calls Tryd.prog 74 #[nv, .string x] W0 fun e w' => e = .returned (.int .i64 (placeInt (place ns x))) ∧ Fr No W0 w') := index_any S nv ns x W0 (h8.kept (stays_no f0))
  have HIN : Hid (∀ W, Fr No w W → w.heap.size < W.heap.size → Calls Tryd.prog 73 #[.string x, .pointer (some ⟨p1, 0, none⟩), .pointer (some ⟨p2, 0, none⟩), .pointer (some ⟨p3, 0, none⟩)] W fun e w' => Ans (But S w.heap.size) w' e (asked env' x).1 (asked env' x).2 ∧ Fr No W w') := hin
  have n0 := cell_of_heap h5 0
  have hnb := lt_of_heap h5
  obtain ⟨a1, d1, rfl, hd1, hd2⟩ := h8.1.form
  unfold maxLen at hd2
  have H10 := hide h10
  have HW0 := hide hW0
  clear h10 hW0
  have Z0 := hide z0
  have F0 := hide f0
  have H6 := hide h6
  have H7 := hide h7
  have H9 := hide h9
  have HRS := hide hrs
  have HUP := hide hup
  clear h8 hin h5 h6 h7 z0 f0 h9 hrs hup
  go_enter Tryd.func73, Tryd.ntmps73
  go_wp2_with fail
  rw [← HW0.out]
  clear n0
  refine CI.out.mono ?_
  rintro e w1 ⟨rfl, hf1⟩
  have hf01 := F0.out.trans hf1
  have b6 := cell_of_heap (fr_heap H6.out hf01 (fun e => e)) 0
  have b7 := cell_of_heap (fr_heap H7.out hf01 (fun e => e)) 0
  have g1 := fr_heap Z0.out hf1 (fun e => e)
  have G1 := hide g1
  have r0 := cell_of_heap g1
  have rz := frozen_of_heap g1
  have hl1 := lt_of_heap g1
  have F1 := hide hf01
  clear CI hf1 g1 HW0
  cases hpl : place ns x with
  | some i =>
    have hi := place_lt hpl
    rw [H10.out] at hi
    have hb := bind_some (env := env') (vs := vs) hpl
    rw [List.getD_eq_getElem?_getD, List.getElem?_eq_getElem hi, Option.getD_some] at hb
    obtain ⟨g, o, cap, b1, m1, e1, rfl, hc1, hc2, hSg, hgw, hm1, hav, q0', q1', q2'⟩ := H9.out.at i hi
    have hgo : ∀ oo, w1.cell? ⟨g, oo, none⟩ = w.cell? ⟨g, oo, none⟩ := fun oo => by simp only [World.cell?, hf01.block g hgw (fun e => e)]
    have q0 := (hgo _).trans q0'
    have q1 := (hgo _).trans q1'
    have q2 := (hgo _).trans q2'
    clear q0' q1' q2' hgo
    have hgw1 : g < w1.heap.size := Nat.lt_of_lt_of_le hgw hf01.size
    unfold maxLen at hc2
    obtain ⟨y, hy⟩ : ∃ y, y = vs[i] := ⟨_, rfl⟩
    rw [← hy] at q0 q1 hm1 hav hb
    have HB : Hid (asked (env'.bind ns vs) x = (y, 0)) := hide (by unfold asked; rw [hb])
    have HAV := hide hav
    have i1 : (i : Int) < (vs.length : Int) := by omega
    have i0 : (0 : Int) ≤ (i : Int) := by omega
    clear hy hb hav hpl hm1 H9 hf01
    simp only [placeInt]
    go_wp2_with fail
    obtain ⟨s1, s2⟩ := set3 G1.out (.bool y.con) (.int .i64 y.n) (.slice b1 m1 e1)
    rw [HB.out]
    refine bodyPost_ret (ret2 rfl _ _ w.heap.size (.bool y.con) (.int .i64 y.n) (.slice b1 m1 e1) (.int .i64 0) (0, 0) rfl rfl s1) rfl ⟨⟨[.bool y.con, .int .i64 y.n, .slice b1 m1 e1], rfl, ?_⟩, ?_⟩
    · exact HAV.out.kept (stays_no (F1.out.trans' s2 (fun j hj e => by have e : j = w.heap.size := e; omega)))
    · exact F1.out.trans' s2 (fun j hj e => by have e : j = w.heap.size := e; omega)
  | none =>
    have hb := bind_none (env := env') (vs := vs) hpl
    have HB : Hid (asked (env'.bind ns vs) x = asked env' x) := hide (by unfold asked; rw [hb])
    clear hpl hb
    simp only [placeInt]
    go_wp2_with fail
    refine (HIN.out _ F1.out hl1).mono ?_
    rintro e w2 ⟨⟨cs, rfl, hav⟩, hf2⟩
    obtain ⟨p0, s0, rfl⟩ := hav.form
    obtain ⟨an, han⟩ : ∃ an, an = asked env' x := ⟨_, rfl⟩
    rw [← han] at hav HB
    rw [← han]
    have g2 := fr_heap G1.out hf2 (fun e => e)
    have G2 := hide g2
    clear r0 rz
    have r0 := cell_of_heap g2
    have rz := frozen_of_heap g2
    have hl2 := lt_of_heap g2
    have F2 := hide (F1.out.trans hf2)
    have HAV := hide hav
    clear g2 hf2 hav han b6 b7 HIN
    go_wp2_with fail
    obtain ⟨s1, s2⟩ := set3 G2.out (.bool an.1.con) (.int .i64 an.1.n) (.slice p0 an.1.kids.length s0)
    rw [HB.out]
    refine bodyPost_ret (ret2 rfl _ _ w.heap.size (.bool an.1.con) (.int .i64 an.1.n) (.slice p0 an.1.kids.length s0) (.int .i64 an.2) (0, 0) rfl rfl s1) rfl ⟨⟨[.bool an.1.con, .int .i64 an.1.n, .slice p0 an.1.kids.length s0], rfl, ?_⟩, ?_⟩
    · exact HAV.out.shut s2
    · exact F2.out.trans' s2 (fun j hj e => by have e : j = w.heap.size := e; omega)

theorem up_but {S : Nat → Prop} {w W : World} {r : Nat} (h : Up S w) (hf : w.heap.size ≤ W.heap.size) (hr : r < W.heap.size) : Up (But S r) W := fun g hg => ⟨h g (Nat.le_trans hf hg), by omega⟩

theorem known_any : ∀ (m : Nat) (S : Nat → Prop) (w : World) (nb vb kb : Nat) (env : Pu.Env) (x : ByteArray), Up S w → KN S (m + 1) w (.func (.func 73) #[] #[.pointer (some ⟨nb, 0, none⟩), .pointer (some ⟨vb, 0, none⟩), .pointer (some ⟨kb, 0, none⟩)]) env →
    Calls Tryd.prog 73 #[.string x, .pointer (some ⟨nb, 0, none⟩), .pointer (some ⟨vb, 0, none⟩), .pointer (some ⟨kb, 0, none⟩)] w fun e w' => Ans S w' e (asked env x).1 (asked env x).2 ∧ Fr No w w' := by
  intro m
  induction m with
  | zero =>
    rintro S w nb vb kb env x hup ⟨nb', vb', kb', nv, vv, kv, ns, vs, env', h1, h2, h3, h4, h5, h6, h7, h8, h9, h10, ⟨rfl, rfl⟩, rfl⟩
    obtain ⟨rfl, rfl, rfl⟩ : nb = nb' ∧ vb = vb' ∧ kb = kb' := by simpa using h1
    exact known_0 S w nb vb kb nv vv ns vs Pu.noEnv x hup h5 h6 h7 h8 h9 h10 (fun W _ _ => (nothing_any x W).mono fun e w' ⟨he, hf⟩ => ⟨Ans.told he rfl, hf⟩)
  | succ m ih =>
    rintro S w nb vb kb env x hup ⟨nb', vb', kb', nv, vv, kv, ns, vs, env', h1, h2, h3, h4, h5, h6, h7, h8, h9, h10, h11, rfl⟩
    obtain ⟨rfl, rfl, rfl⟩ : nb = nb' ∧ vb = vb' ∧ kb = kb' := by simpa using h1
    obtain ⟨p1, p2, p3, rfl⟩ : ∃ p1 p2 p3, kv = .func (.func 73) #[] #[.pointer (some ⟨p1, 0, none⟩), .pointer (some ⟨p2, 0, none⟩), .pointer (some ⟨p3, 0, none⟩)] := by
      obtain ⟨p1, p2, p3, _, _, _, _, _, _, h, _⟩ := h11
      exact ⟨p1, p2, p3, h⟩
    exact known_1 S w nb vb kb p1 p2 p3 nv vv ns vs env' x hup h5 h6 h7 h8 h9 h10 (fun W hW hlt => ih (But S w.heap.size) W p1 p2 p3 env' x (up_but hup hW.size hlt) (h11.kept (stays_but hW)))

set_option maxHeartbeats 1000000 in
theorem with_any (S : Nat → Prop) (m : Nat) (w : World) (kv nv vv : Value) (ns : List ByteArray) (vs : List Pu.V) (env : Pu.Env) (hup : Up S w) (hk : KN S m w kv env) (hn : NamesS S w nv ns) (hv : Vals S w vv vs) (hl : ns.length = vs.length) :
    Calls Tryd.prog 54 #[kv, nv, vv] w fun e w' => ∃ nb vb kb, e = .returned (.func (.func 73) #[] #[.pointer (some ⟨nb, 0, none⟩), .pointer (some ⟨vb, 0, none⟩), .pointer (some ⟨kb, 0, none⟩)]) ∧ Fr No w w' ∧
      KN S (m + 1) w' (.func (.func 73) #[] #[.pointer (some ⟨nb, 0, none⟩), .pointer (some ⟨vb, 0, none⟩), .pointer (some ⟨kb, 0, none⟩)]) (env.bind ns vs) := by
  obtain ⟨a1, d1, rfl, _⟩ := hn.1.form
  obtain ⟨a2, d2, rfl, _⟩ := hv.form
  obtain ⟨f, cap, rfl⟩ : ∃ f cap, kv = .func (.func f) #[] cap := by
    cases m with
    | zero => exact ⟨_, _, hk.1⟩
    | succ m => obtain ⟨_, _, _, _, _, _, _, _, _, h, _⟩ := hk; exact ⟨_, _, h⟩
  have hsf : ∀ (a : Addr) (fn : Fn) (x y : Array Value) (w : World), (store a (.func fn x y)).run Tryd.prog w = stored Tryd.prog w a (.func fn x y) .plain := fun a fn x y w => run_store Tryd.prog w a _ .plain rfl
  have hmf : ∀ (fn : Fn) (first cap : Array Value) (w : World), (Instr.makeFunc fn first cap).run Tryd.prog w = .ok (.func fn first cap) w := fun _ _ _ _ => rfl
  obtain ⟨W, hW⟩ : ∃ W, W = ((w.alloc (.cells #[.func (.func f) #[] cap] 98)).alloc (.cells #[.slice a1 ns.length d1] 34)).alloc (.cells #[.slice a2 vs.length d2] 27) := ⟨_, rfl⟩
  have fW : Fr No w W := by rw [hW]; exact (((Fr.refl No w).alloc _).alloc _).alloc _
  have g0 : W.heap[w.heap.size]? = some (.cells #[.func (.func f) #[] cap] 98 (0, 0)) := by rw [hW]; exact fr_heap (heap_alloc_new w _) (((Fr.refl No _).alloc _).alloc _) (fun e => e)
  have g1 : W.heap[w.heap.size + 1]? = some (.cells #[.slice a1 ns.length d1] 34 (0, 0)) := by
    have h := heap_alloc_new (w.alloc (.cells #[.func (.func f) #[] cap] 98)) (.cells #[.slice a1 ns.length d1] 34)
    rw [World.size_alloc] at h
    rw [hW]; exact fr_heap h ((Fr.refl No _).alloc _) (fun e => e)
  have g2 : W.heap[w.heap.size + 1 + 1]? = some (.cells #[.slice a2 vs.length d2] 27 (0, 0)) := by
    have h := heap_alloc_new ((w.alloc (.cells #[.func (.func f) #[] cap] 98)).alloc (.cells #[.slice a1 ns.length d1] 34)) (.cells #[.slice a2 vs.length d2] 27)
    rw [World.size_alloc, World.size_alloc] at h
    rw [hW]; exact h
  have KW : Hid (KN S (m + 1) W (.func (.func 73) #[] #[.pointer (some ⟨w.heap.size + 1, 0, none⟩), .pointer (some ⟨w.heap.size + 1 + 1, 0, none⟩), .pointer (some ⟨w.heap.size, 0, none⟩)]) (env.bind ns vs)) :=
    ⟨_, _, _, _, _, _, ns, vs, env, rfl, hup _ (by omega), hup _ (by omega), hup _ (Nat.le_refl _), g1, g2, g0, hn.kept (stays_no fW), hv.kept (stays_no fW), hl, hk.kept (stays_no fW), rfl⟩
  have FW := hide fW
  have HW := hide hW
  clear hup hk hn hv hl hW fW g0 g1 g2
  go_enter Tryd.func54, Tryd.ntmps54
  go_wp2_with fail
  go_ret
  rw [← HW.out]
  exact ⟨_, _, _, rfl, FW.out, KW.out⟩
end Go.Proofs.YtdgmengfdfkgaabDoor

/- Which function, which case: 'slices.IndexFunc' with the program's closures, walked. -/
namespace Go.Proofs.YtdgmengfdfkgaabDoor
open Go.RowKit Go.Maps Go.WideMaps

set_option maxHeartbeats 600000 in
theorem fits1_any (nb ab : Nat) (x nm : ByteArray) (a pa : Option Addr) (n c pn pc : Nat) (b0 b1 b2 b3 b4 b5 b6 : Value) (w : World) (hn : w.heap[nb]? = some (.cells #[.string x] 9 (0, 0))) (ha : w.heap[ab]? = some (.cells #[.slice a n c] 27 (0, 0))) :
    Calls Tryd.prog 51 #[.agg #[.string nm, .slice pa pn pc, b0, b1, b2, b3, b4, b5, b6], .pointer (some ⟨nb, 0, none⟩), .pointer (some ⟨ab, 0, none⟩)] w fun e w' => e = .returned (.bool (decide (nm = x) && decide (pn = n))) ∧ Fr No w w' := by
  have n0 := cell_of_heap hn 0
  have a0 := cell_of_heap ha 0
  have hnl := lt_of_heap hn
  have hal := lt_of_heap ha
  clear hn ha
  by_cases h1 : nm = x
  · subst h1
    by_cases h2 : pn = n
    · subst h2
      go_enter Tryd.func51, Tryd.ntmps51
      go_wp2_with fail
      go_ret
      exact ⟨by simp, (Fr.refl No w).alloc _⟩
    · have h2' : ((pn : Int) == (n : Int)) = false := by simp; omega
      rw [decide_eq_false h2]
      clear h2
      go_enter Tryd.func51, Tryd.ntmps51
      go_wp2_with fail
      go_ret
      exact ⟨by first | rfl | (simp; done) | (simp; omega), (Fr.refl No w).alloc _⟩
  · have h1' := str_ne' h1
    rw [decide_eq_false h1]
    go_enter Tryd.func51, Tryd.ntmps51
    go_wp2_with fail
    go_ret
    exact ⟨by simp, (Fr.refl No w).alloc _⟩

/-- Which function is called. -/
def pickAt {k : Nat} (l : List (Pu.Fn k)) (x : ByteArray) (n : Nat) : Option Nat := l.findIdx? fun f => decide (f.1 = x) && decide (f.2.1.length = n)
theorem pick_none {k : Nat} {l : List (Pu.Fn k)} {x : ByteArray} {n : Nat} (h : pickAt l x n = none) : Pu.pick l x n = none := by
  unfold pickAt at h
  unfold Pu.pick
  rw [List.findIdx?_eq_none_iff] at h
  rw [List.find?_eq_none]
  intro f hf
  rw [h f hf]; decide
theorem pick_at {k : Nat} {l : List (Pu.Fn k)} {x : ByteArray} {n i : Nat} (h : pickAt l x n = some i) : ∃ hi : i < l.length, Pu.pick l x n = some l[i] ∧ l[i].1 = x ∧ l[i].2.1.length = n := by
  unfold pickAt at h
  rw [List.findIdx?_eq_some_iff_getElem] at h
  obtain ⟨hi, h1, h2⟩ := h
  refine ⟨hi, ?_, by simpa using h1⟩
  unfold Pu.pick
  rw [List.find?_eq_some_iff_getElem]
  exact ⟨h1, i, hi, rfl, fun j hj => by have h3 := h2 j hj; rw [Bool.not_eq_true] at h3; rw [h3]; rfl⟩

set_option maxHeartbeats 2000000 in
theorem indexFns_any (k B : Nat) (fv : Value) (l : List (Pu.Fn k)) (nb ab : Nat) (x : ByteArray) (a : Option Addr) (n c : Nat) (w : World) (hl : Fns k B w fv l) (hn : w.heap[nb]? = some (.cells #[.string x] 9 (0, 0))) (ha : w.heap[ab]? = some (.cells #[.slice a n c] 27 (0, 0))) :
    Calls Tryd.prog 50 #[fv, .func (.func 51) #[] #[.pointer (some ⟨nb, 0, none⟩), .pointer (some ⟨ab, 0, none⟩)]] w fun e w' => e = .returned (.int .i64 (placeInt (pickAt l x n))) ∧ Fr No w w' := by
  obtain ⟨a1, c1, rfl, hc1, hc1'⟩ : ∃ a cap, fv = .slice a l.length cap ∧ l.length ≤ cap ∧ cap ≤ maxLen := by obtain ⟨acs, hr, _⟩ := hl; exact hr.form
  unfold maxLen at hc1'
  have HL := hide hl
  have HN := hide hn
  have HAB := hide ha
  clear hl hn ha
  go_enter Tryd.func50, Tryd.ntmps50
  go_wp2_with fail
  go_loopw [8] (fun q wr => ∃ i : Nat, i ≤ l.length ∧ q = .int .i64 i ∧ Fr No w wr ∧ ∀ j (h1 : j < l.length), j < i → (decide (l[j].1 = x) && decide (l[j].2.1.length = n)) = false) (fun q _ => l.length - (intOf q).toNat)
  case atStart => exact ⟨0, Nat.zero_le _, rfl, Fr.refl _ _, fun j _ hj => absurd hj (by omega)⟩
  case round =>
    obtain ⟨i, hi, rfl, hf, hall⟩ := hrel
    have HA := hide hall
    clear hall
    by_cases hlt : i < l.length
    · obtain ⟨g, o, cap, ag, an, ac, kd', n', x', y', b0, n0, e0, b1, n1, e1, b2, n2, e2, hav, hcap, hg, hgw, hnm, han, hxn, hrt, hcell⟩ := fns_at HL.out i hlt
      injection hav with hav1 _ hav2
      subst hav1 hav2
      have hgo : ∀ j, j < 9 → wr.cell? ⟨g, o + i * 9 + j, none⟩ = [Value.string l[i].1, .slice ag an ac, .int .i64 kd', .int .i64 n', .string x', .string y', .slice b0 n0 e0, .slice b1 n1 e1, .slice b2 n2 e2][j]? := fun j hj => by
        rw [show wr.cell? ⟨g, o + i * 9 + j, none⟩ = w.cell? ⟨g, o + i * 9 + j, none⟩ from by simp only [World.cell?, hf.block g hgw (fun e => e)]]
        exact hcell j hj
      have q0 : wr.cell? ⟨g, o + i * 9, none⟩ = some (.string l[i].1) := hgo 0 (by omega)
      have q1 := hgo 1 (by omega)
      have q2 := hgo 2 (by omega)
      have q3 := hgo 3 (by omega)
      have q4 := hgo 4 (by omega)
      have q5 := hgo 5 (by omega)
      have q6 := hgo 6 (by omega)
      have q7 := hgo 7 (by omega)
      have q8 := hgo 8 (by omega)
      have hgl : g < wr.heap.size := Nat.lt_of_lt_of_le hgw hf.size
      obtain ⟨f, hfd⟩ : ∃ f, f = l[i] := ⟨_, rfl⟩
      rw [← hfd] at q0 han
      subst han
      have CF : Hid (∀ W, Fr No wr W → Calls Tryd.prog 51 #[.agg #[.string f.1, .slice ag f.2.1.length ac, .int .i64 kd', .int .i64 n', .string x', .string y', .slice b0 n0 e0, .slice b1 n1 e1, .slice b2 n2 e2], .pointer (some ⟨nb, 0, none⟩), .pointer (some ⟨ab, 0, none⟩)] W fun e w' => e = .returned (.bool (decide (f.1 = x) && decide (f.2.1.length = n))) ∧ Fr No W w') := fun W hW =>
        fits1_any nb ab x f.1 a ag n c f.2.1.length ac _ _ _ _ _ _ _ W (fr_heap HN.out (hf.trans hW) (fun e => e)) (fr_heap HAB.out (hf.trans hW) (fun e => e))
      obtain ⟨r, hr⟩ : ∃ r, r = (decide (f.1 = x) && decide (f.2.1.length = n)) := ⟨_, rfl⟩
      rw [← hr] at CF
      have HR : Hid (r = (decide (l[i].1 = x) && decide (l[i].2.1.length = n))) := by rw [← hfd]; exact hr
      have HF := hide hf
      have i1 : (i : Int) < (l.length : Int) := by omega
      have i0 : (0 : Int) ≤ (i : Int) := by omega
      clear hgo hcell hrt hnm hxn hf hfd hr
      go_wp2_with fail
      refine (CF.out _ (Fr.refl No wr)).mono ?_
      rintro e w1 ⟨rfl, hf1⟩
      have F1 := hide (HF.out.trans hf1)
      clear hf1 CF q0 q1 q2 q3 q4 q5 q6 q7 q8
      cases r with
      | true =>
        have HP : Hid (pickAt l x n = some i) := by
          unfold pickAt
          rw [show List.findIdx? (fun f => decide (f.1 = x) && decide (f.2.1.length = n)) l = some i ↔ _ from List.findIdx?_eq_some_iff_getElem]
          exact ⟨hlt, HR.out.symm, fun j hj => by rw [HA.out j (by omega) hj]; decide⟩
        go_wp2_with fail
        go_ret
        rw [HP.out]
        exact ⟨rfl, F1.out⟩
      | false =>
        go_wp2_with fail
        go_roundw
        case rel =>
          refine ⟨i + 1, by omega, by go_num, F1.out, fun j h1 hj => ?_⟩
          by_cases hji : j = i
          · subst hji; exact HR.out.symm
          · exact HA.out j h1 (by omega)
        case measure => simp [intOf]; omega
    · have hil : i = l.length := by omega
      subst hil
      have HP : Hid (pickAt l x n = none) := by
        unfold pickAt
        rw [show List.findIdx? (fun f => decide (f.1 = x) && decide (f.2.1.length = n)) l = none ↔ _ from List.findIdx?_eq_none_iff]
        intro y hy
        obtain ⟨j, hj, rfl⟩ := List.getElem_of_mem hy
        exact HA.out j hj hj
      have HF := hide hf
      clear hf
      go_wp2_with fail
      go_ret
      rw [HP.out]
      exact ⟨rfl, HF.out⟩

set_option maxHeartbeats 600000 in
theorem tag1_any (ob : Nat) (tg n : Int) (u0 u2 : Value) (b0 b1 b2 b3 b4 b5 b6 b7 : Value) (w : World) (ho : w.heap[ob]? = some (.cells #[u0, .int .i64 n, u2] 29 (0, 0))) :
    Calls Tryd.prog 86 #[.agg #[.int .i64 tg, b0, b1, b2, b3, b4, b5, b6, b7], .pointer (some ⟨ob, 0, none⟩)] w fun e w' => e = .returned (.bool (decide (tg = n))) ∧ Fr No w w' := by
  have n0 := cell_of_heap ho 1
  have hnl := lt_of_heap ho
  clear ho
  go_enter Tryd.func86, Tryd.ntmps86
  go_wp2_with fail
  go_ret
  exact ⟨by first | rfl | (by_cases h : tg = n <;> simp [h]), (Fr.refl No w).alloc _⟩

/-- Which case is it. -/
def caseAt {α : Type} (l : List (Int × List ByteArray × α)) (n : Int) : Option Nat := l.findIdx? fun c => decide (c.1 = n)
theorem case_none {α : Type} {l : List (Int × List ByteArray × α)} {n : Int} (h : caseAt l n = none) : l.find? (fun c => decide (c.1 = n)) = none := by
  unfold caseAt at h
  rw [List.findIdx?_eq_none_iff] at h
  rw [List.find?_eq_none]
  intro f hf
  rw [h f hf]; decide
theorem case_at {α : Type} {l : List (Int × List ByteArray × α)} {n : Int} {i : Nat} (h : caseAt l n = some i) : ∃ hi : i < l.length, l.find? (fun c => decide (c.1 = n)) = some l[i] := by
  unfold caseAt at h
  rw [List.findIdx?_eq_some_iff_getElem] at h
  obtain ⟨hi, h1, h2⟩ := h
  refine ⟨hi, ?_⟩
  rw [List.find?_eq_some_iff_getElem]
  exact ⟨h1, i, hi, rfl, fun j hj => by simpa using h2 j hj⟩

set_option maxHeartbeats 2000000 in
theorem indexCases_any (k B : Nat) (cv : Value) (ccs : List Value) (l : List (Int × List ByteArray × Pu.TT k)) (ob : Nat) (n : Int) (u0 u2 : Value) (w : World) (hr : Row B w cv l.length ccs) (he : Each 9 (RC (RT k B w) B w) ccs l) (ho : w.heap[ob]? = some (.cells #[u0, .int .i64 n, u2] 29 (0, 0))) :
    Calls Tryd.prog 85 #[cv, .func (.func 86) #[] #[.pointer (some ⟨ob, 0, none⟩)]] w fun e w' => e = .returned (.int .i64 (placeInt (caseAt l n))) ∧ Fr No w w' := by
  obtain ⟨a1, c1, rfl, hc1, hc1'⟩ := hr.form
  unfold maxLen at hc1'
  have HR0 := hide hr
  have HE0 := hide he
  have HO := hide ho
  clear hr he ho
  go_enter Tryd.func85, Tryd.ntmps85
  go_wp2_with fail
  go_loopw [8] (fun q wr => ∃ i : Nat, i ≤ l.length ∧ q = .int .i64 i ∧ Fr No w wr ∧ ∀ j (h1 : j < l.length), j < i → decide (l[j].1 = n) = false) (fun q _ => l.length - (intOf q).toNat)
  case atStart => exact ⟨0, Nat.zero_le _, rfl, Fr.refl _ _, fun j _ hj => absurd hj (by omega)⟩
  case round =>
    obtain ⟨i, hi, rfl, hf, hall⟩ := hrel
    have HA := hide hall
    clear hall
    by_cases hlt : i < l.length
    · obtain ⟨g, o, cap, ag, an, ac, kd', n', x', y', b0, n0, e0, b1, n1, e1, b2, n2, e2, hav, hcap, hg, hgw, hnm, han, hrt, hcell⟩ := cases_at HR0.out HE0.out i hlt
      injection hav with hav1 _ hav2
      subst hav1 hav2
      have hgo : ∀ j, j < 9 → wr.cell? ⟨g, o + i * 9 + j, none⟩ = [Value.int .i64 l[i].1, .slice ag an ac, .int .i64 kd', .int .i64 n', .string x', .string y', .slice b0 n0 e0, .slice b1 n1 e1, .slice b2 n2 e2][j]? := fun j hj => by
        rw [show wr.cell? ⟨g, o + i * 9 + j, none⟩ = w.cell? ⟨g, o + i * 9 + j, none⟩ from by simp only [World.cell?, hf.block g hgw (fun e => e)]]
        exact hcell j hj
      have q0 : wr.cell? ⟨g, o + i * 9, none⟩ = some (.int .i64 l[i].1) := hgo 0 (by omega)
      have q1 := hgo 1 (by omega)
      have q2 := hgo 2 (by omega)
      have q3 := hgo 3 (by omega)
      have q4 := hgo 4 (by omega)
      have q5 := hgo 5 (by omega)
      have q6 := hgo 6 (by omega)
      have q7 := hgo 7 (by omega)
      have q8 := hgo 8 (by omega)
      have hgl : g < wr.heap.size := Nat.lt_of_lt_of_le hgw hf.size
      obtain ⟨tg, htg⟩ : ∃ tg, tg = l[i].1 := ⟨_, rfl⟩
      rw [← htg] at q0
      have CF : Hid (∀ W, Fr No wr W → Calls Tryd.prog 86 #[.agg #[.int .i64 tg, .slice ag an ac, .int .i64 kd', .int .i64 n', .string x', .string y', .slice b0 n0 e0, .slice b1 n1 e1, .slice b2 n2 e2], .pointer (some ⟨ob, 0, none⟩)] W fun e w' => e = .returned (.bool (decide (tg = n))) ∧ Fr No W w') := fun W hW =>
        tag1_any ob tg n u0 u2 _ _ _ _ _ _ _ _ W (fr_heap HO.out (hf.trans hW) (fun e => e))
      obtain ⟨r, hr⟩ : ∃ r, r = decide (tg = n) := ⟨_, rfl⟩
      rw [← hr] at CF
      have HR : Hid (r = decide (l[i].1 = n)) := by rw [← htg]; exact hr
      have HF := hide hf
      have i1 : (i : Int) < (l.length : Int) := by omega
      have i0 : (0 : Int) ≤ (i : Int) := by omega
      clear hgo hcell hrt hnm hf htg hr han
      go_wp2_with fail
      refine (CF.out _ (Fr.refl No wr)).mono ?_
      rintro e w1 ⟨rfl, hf1⟩
      have F1 := hide (HF.out.trans hf1)
      clear hf1 CF q0 q1 q2 q3 q4 q5 q6 q7 q8
      cases r with
      | true =>
        have HP : Hid (caseAt l n = some i) := by
          unfold caseAt
          rw [show List.findIdx? (fun c => decide (c.1 = n)) l = some i ↔ _ from List.findIdx?_eq_some_iff_getElem]
          exact ⟨hlt, HR.out.symm, fun j hj => by rw [HA.out j (by omega) hj]; decide⟩
        go_wp2_with fail
        go_ret
        rw [HP.out]
        exact ⟨rfl, F1.out⟩
      | false =>
        go_wp2_with fail
        go_roundw
        case rel =>
          refine ⟨i + 1, by omega, by go_num, F1.out, fun j h1 hj => ?_⟩
          by_cases hji : j = i
          · subst hji; exact HR.out.symm
          · exact HA.out j h1 (by omega)
        case measure => simp [intOf]; omega
    · have hil : i = l.length := by omega
      subst hil
      have HP : Hid (caseAt l n = none) := by
        unfold caseAt
        rw [show List.findIdx? (fun c => decide (c.1 = n)) l = none ↔ _ from List.findIdx?_eq_none_iff]
        intro y hy
        obtain ⟨j, hj, rfl⟩ := List.getElem_of_mem hy
        exact HA.out j hj hj
      have HF := hide hf
      clear hf
      go_wp2_with fail
      go_ret
      rw [HP.out]
      exact ⟨rfl, HF.out⟩
end Go.Proofs.YtdgmengfdfkgaabDoor
