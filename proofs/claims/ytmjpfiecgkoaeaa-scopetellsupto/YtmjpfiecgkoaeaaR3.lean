/- The document's 'Free', walked. -/
import Derived.Test.YtmjpfiecgkoaeaaR2
namespace Go.Proofs.Ytmjpfiecgkoaeaa
open Go.RowKit Go.Maps Go.WideMaps

theorem names_in {w : World} {b B1 : Nat} {v : Value} {l : List ByteArray} (h : w.ownsRow b 9 1 v l.length (l.map .string)) (hs : Short l) (hB : ∀ g, v.ownBlock = some g → g < B1) : Names B1 w v l := by
  refine ⟨?_, hs⟩
  rcases h.2 with ⟨rfl, h0⟩ | ⟨g, cap, cur, rfl, hb, hgg, hcap, hcap', hsz, htk⟩
  · exact ⟨_, _, by rw [h0], by omega, Nat.zero_le _, fun hn => absurd hn (by omega)⟩
  · refine ⟨_, _, rfl, hcap, hcap', fun hn => ⟨g, 0, rfl, hB g rfl, lt_of_heap hgg, fun i hi => ?_⟩⟩
    have := h.cells (g := g) rfl i _ (List.getElem?_eq_getElem hi)
    rw [Addr.add_lit] at this
    rw [this]
    exact (List.getElem?_eq_getElem hi).symm

/-- How far 'Free' is: what is put together, and its term. -/
structure St (w : World) (csv : Array Value) (wr : World) (acc : List ByteArray) (vr : Value) : Prop where
  fr : Fr No w wr
  out : Out w.heap.size (w.heap.size + 1) wr acc vr
  box : wr.heap[w.heap.size]? = some (.cells csv 27 (0, 0))

theorem St.notT {w wr : World} {csv : Array Value} {acc : List ByteArray} {vr : Value} (h : St w csv wr acc vr) {g : Nat} (hg : wr.heap.size ≤ g) : ¬ MvT (w.heap.size + 1) vr g := by
  rintro (e | e)
  · have := lt_of_heap h.out.box; omega
  · have := (h.out.row.lt g e).2; omega
theorem St.mv {w wr : World} {csv : Array Value} {acc : List ByteArray} {vr : Value} (h : St w csv wr acc vr) {w2 w' : World} {v' : Value} (hf : Fr No wr w2) (hm : Mv (w.heap.size + 1) w2 w' vr v') : Fr No w w' := by
  refine (h.fr.trans hf).trans' hm.1 ?_
  rintro i hi (e | e)
  · omega
  · have := (h.out.row.lt i e).1; omega
theorem St.put' {w wr : World} {csv : Array Value} {acc : List ByteArray} {vr : Value} (h : St w csv wr acc vr) {w2 : World} {m B2 : Nat} {v2 bv : Value} {l bt : List ByteArray} (hf : Fr No wr w2) (hrow : w2.ownsRow m 9 1 v2 l.length (l.map .string)) (hm : wr.heap.size ≤ m) (hsh : Short l)
    (hbt : ∀ w' v', Mv (w.heap.size + 1) w2 w' vr v' → Names B2 w' bv bt) (hn : acc.length + l.length < 1099511627776) :
    Calls Try.prog 37 #[v2, bv, .pointer (some ⟨w.heap.size + 1, 0, none⟩)] w2 fun e w' => e = .returned (.tuple #[]) ∧ ∃ v', St w csv w' (Pu.putAll bt acc l) v' ∧ Mv (w.heap.size + 1) w2 w' vr v' := by
  have ho := h.out.fr hf
  refine (put_any w.heap.size (w.heap.size + 1) w2.heap.size B2 w2 v2 bv l bt acc vr ho (Nat.le_trans h.fr.size hf.size) (fun w' v' hmv => ?_) hbt hn).mono ?_
  · exact names_in (row_fr hrow hmv.1 (fun g hg => h.notT (Nat.le_trans hm (hrow.lt g hg).1))) hsh (fun g hg => (hrow.lt g hg).2)
  · rintro e w' ⟨he, v', h1, h2⟩
    refine ⟨he, v', ⟨h.mv hf h2, h1, fr_heap (fr_heap h.box hf (fun e => e)) h2.1 ?_⟩, h2⟩
    rintro (e | e)
    · omega
    · exact row_ne_cells h.out.row h.box (by decide) e
theorem St.put {w wr : World} {csv : Array Value} {acc : List ByteArray} {vr : Value} (h : St w csv wr acc vr) {w2 : World} {m B2 : Nat} {v2 bv : Value} {l bt : List ByteArray} (hf : Fr No wr w2) (hrow : w2.ownsRow m 9 1 v2 l.length (l.map .string)) (hm : wr.heap.size ≤ m) (hsh : Short l)
    (hbt : ∀ w' v', Mv (w.heap.size + 1) w2 w' vr v' → Names B2 w' bv bt) (hn : acc.length + l.length < 1099511627776) :
    Calls Try.prog 37 #[v2, bv, .pointer (some ⟨w.heap.size + 1, 0, none⟩)] w2 fun e w' => e = .returned (.tuple #[]) ∧ ∃ v', St w csv w' (Pu.putAll bt acc l) v' :=
  (h.put' hf hrow hm hsh hbt hn).mono fun _ _ ⟨he, v', h1, _⟩ => ⟨he, v', h1⟩

theorem start_none (w : World) (csv : Array Value) : St w csv ((w.alloc (.cells csv 27)).alloc (.cells #[.slice none 0 0] 23)) [] (.slice none 0 0) := by
  refine ⟨((Fr.refl No w).alloc _).alloc _, ⟨?_, World.ownsRow_nil _ _ _ _, fun y hy => by simp at hy⟩, fr_heap (heap_alloc_new _ _) ((Fr.refl No _).alloc _) (fun e => e)⟩
  have := heap_alloc_new (w.alloc (.cells csv 27)) (.cells #[.slice none 0 0] 23)
  rw [World.size_alloc] at this; exact this
theorem start_one (w : World) (csv : Array Value) (x : ByteArray) (hx : x.size ≤ maxLen) : St w csv (((w.alloc (.cells csv 27)).alloc (.cells #[.slice (some ⟨w.heap.size + 1 + 1, 0, none⟩) 1 1] 23)).alloc (.cells #[.string x] 9)) [x] (.slice (some ⟨w.heap.size + 1 + 1, 0, none⟩) 1 1) := by
  refine ⟨(((Fr.refl No w).alloc _).alloc _).alloc _, ⟨?_, ?_, fun y hy => by simp at hy; subst hy; exact hx⟩, fr_heap (heap_alloc_new _ _) (((Fr.refl No _).alloc _).alloc _) (fun e => e)⟩
  · have := heap_alloc_new (w.alloc (.cells csv 27)) (.cells #[.slice (some ⟨w.heap.size + 1 + 1, 0, none⟩) 1 1] 23)
    rw [World.size_alloc] at this
    exact fr_heap this ((Fr.refl No _).alloc _) (fun e => e)
  · have hl := World.ownsRow_lit (base := w.heap.size) (e := 9) (size := 1) ((w.alloc (.cells csv 27)).alloc (.cells #[.slice (some ⟨w.heap.size + 1 + 1, 0, none⟩) 1 1] 23)) #[.string x] 1 (by simp; omega) (by unfold maxLen; decide) rfl
    rw [World.size_alloc, World.size_alloc] at hl
    exact hl

/-- What a call of 'Free' leaves. -/
structure Rsl (W W' : World) (l : List ByteArray) (v : Value) : Prop where
  fr : Fr No W W'
  row : ∃ m, W.heap.size ≤ m ∧ W'.ownsRow m 9 1 v l.length (l.map .string)
  sh : Short l

/-- What 'Free' answers at terms of k levels. -/
def RFreeC (k : Nat) : Prop := ∀ (B : Nat) (w : World) (cs : List Value) (t : Pu.TT k), RT k B w cs t → B ≤ w.heap.size → Pu.wt k t ≤ 1073741824 →
  Calls Try.prog 15 #[.agg cs.toArray] w fun e w' => ∃ v, e = .returned v ∧ Fr No w w' ∧ w'.ownsRow w.heap.size 9 1 v (Pu.freeR k t).length ((Pu.freeR k t).map .string) ∧ Short (Pu.freeR k t)

set_option maxHeartbeats 8000000 in
theorem rfree_node (k : Nat) (hS : RFreeC k) : RFreeC (k + 1) := by
  intro B w cs t ht hB hw
  obtain ⟨vv, av, cv, acs, ccs, rfl, hx, _, hvars, hr, he, hq, hf⟩ := ht
  obtain ⟨a0, d0, rfl, _⟩ := hvars.1.form
  obtain ⟨a1, d1, rfl, hd1, hd1'⟩ := hr.form
  obtain ⟨a2, d2, rfl, hd2, hd2'⟩ := hq.form
  have hwt : 1 + t.vars.length + (t.args.map (Pu.wt k)).sum + (t.cases.map fun c => 1 + c.2.1.length + Pu.wt k c.2.2).sum ≤ 1073741824 := hw
  have hmf : ∀ (fn : Fn) (first cap : Array Value) (w : World), (Instr.makeFunc fn first cap).run Try.prog w = .ok (.func fn first cap) w := fun _ _ _ _ => rfl
  have HWT := hide hwt
  have HX := hide hx
  have HR := hide hr
  have HE := hide he
  have HQ := hide hq
  have HF := hide hf
  have HS := hide hS
  unfold maxLen at hd1' hd2'
  clear hr he hq hf hS hvars hx hw hwt
  show Calls Try.prog 15 #[.agg #[.int .i64 t.kind, .int .i64 t.n, .string t.name, .string t.token, .slice a0 t.vars.length d0, .slice a1 t.args.length d1, .slice a2 t.cases.length d2]] w _
  obtain ⟨kd, hkd⟩ : ∃ kd, kd = t.kind := ⟨_, rfl⟩
  rw [← hkd]
  obtain ⟨csv, hcsv⟩ : ∃ csv : Array Value, csv = #[.int .i64 kd, .int .i64 t.n, .string t.name, .string t.token, .slice a0 t.vars.length d0, .slice a1 t.args.length d1, .slice a2 t.cases.length d2] := ⟨_, rfl⟩
  have HCSV := hide hcsv
  clear hcsv
  by_cases h1 : kd = 1
  · have hfin : Pu.freeR (k + 1) t = [t.name] := by show Pu.freeRN _ _ = _; unfold Pu.freeRN; rw [if_pos (by rw [← hkd]; exact h1)]
    have HFIN := hide hfin
    subst h1
    clear hfin hkd HCSV
    go_enter Try.func15, Try.ntmps15
    go_wp2_with fail
    go_ret
    refine ⟨_, rfl, (((Fr.refl No w).alloc _).alloc _).alloc _, ?_, ?_⟩
    · rw [HFIN.out]
      have hl := World.ownsRow_lit (base := w.heap.size) (e := 9) (size := 1) ((w.alloc (.cells #[.int .i64 1, .int .i64 t.n, .string t.name, .string t.token, .slice a0 t.vars.length d0, .slice a1 t.args.length d1, .slice a2 t.cases.length d2] 27)).alloc (.cells #[.slice none 0 0] 23)) #[.string t.name] 1 (by simp; omega) (by unfold maxLen; decide) rfl
      rw [World.size_alloc, World.size_alloc] at hl
      exact hl
    · rw [HFIN.out]; intro y hy; simp at hy; subst hy; exact HX.out
  have hgo : Pu.freeR (k + 1) t = if Pu.isLet t = true then Pu.putArgs (Pu.freeR k) (Pu.isLet t) t.name 0 t.args (Pu.first t) else Pu.putCases (Pu.freeR k) t.cases (Pu.putArgs (Pu.freeR k) (Pu.isLet t) t.name 0 t.args (Pu.first t)) := by
    show Pu.freeRN _ _ = _; unfold Pu.freeRN; rw [if_neg (by rw [← hkd]; exact h1)]
  by_cases hl2 : kd = 6 ∧ t.args.length = 2
  · obtain ⟨h6, hl2⟩ := hl2
    have HLET : Hid (Pu.isLet t = true) := by unfold Pu.isLet; exact decide_eq_true ⟨by rw [← hkd]; exact h6, hl2⟩
    have HFIN : Hid (Pu.freeR (k + 1) t = Pu.putArgs (Pu.freeR k) (Pu.isLet t) t.name 0 t.args (Pu.first t)) := by rw [hgo, if_pos HLET.out]; exact rfl
    have HFIRST : Hid (Pu.first t = []) := by unfold Pu.first; rw [← hkd, h6]; rfl
    have S0 : Hid (St w csv ((w.alloc (.cells #[.int .i64 kd, .int .i64 t.n, .string t.name, .string t.token, .slice a0 t.vars.length d0, .slice a1 t.args.length d1, .slice a2 t.cases.length d2] 27)).alloc (.cells #[.slice none 0 0] 23)) (Pu.first t) (.slice none 0 0)) := by rw [HFIRST.out]; have := start_none w csv; rw [HCSV.out] at this ⊢; exact this
    subst h6
    have hl2' : ((t.args.length : Int) == 2) = true := by simp; omega
    clear hgo hkd h1 hl2
    go_enter Try.func15, Try.ntmps15
    go_wp2_with fail
    go_loopw [29] (fun q wr => ∃ i : Nat, i ≤ t.args.length ∧ q = .int .i64 i ∧ ∃ vr, St w csv wr (Pu.putArgs (Pu.freeR k) (Pu.isLet t) t.name 0 (t.args.take i) (Pu.first t)) vr ∧ (Pu.putArgs (Pu.freeR k) (Pu.isLet t) t.name 0 (t.args.take i) (Pu.first t)).length ≤ 1 + sumW (Pu.wt k) t.args i) (fun q _ => t.args.length - (intOf q).toNat)
    case atStart =>
      exact ⟨0, Nat.zero_le _, rfl, _, S0.out, by show (Pu.first t).length ≤ _; rw [HFIRST.out]; simp⟩
    case round =>
      obtain ⟨i, hi, rfl, vr, hst, hln⟩ := hrel
      have HST := hide hst
      have hszw := hst.fr.size
      have hbl : w.heap.size < wr.heap.size := lt_of_heap hst.box
      have hol : w.heap.size + 1 < wr.heap.size := lt_of_heap hst.out.box
      have k0 := cell_of_heap hst.box
      rw [HCSV.out] at k0
      by_cases hlt : i < t.args.length
      · have ho : Old B w wr := hst.fr.old hB (fun _ _ e => e)
        obtain ⟨g, o, cap1, kd', n', x', y', b0, n0, e0, b1, n1, e1, b2, n2, e2, hav, hcap, hg, hgw, hrt, hcell⟩ := args_at HR.out HE.out i hlt
        injection hav with hav1 _ hav2
        subst hav1 hav2
        have hcw : ∀ j, j < 7 → wr.cell? ⟨g, o + i * 7 + j, none⟩ = [Value.int .i64 kd', .int .i64 n', .string x', .string y', .slice b0 n0 e0, .slice b1 n1 e1, .slice b2 n2 e2][j]? := fun j hj => by
          rw [ho.cell (a := ⟨g, o + i * 7 + j, none⟩) hg]; exact hcell j hj
        have q0 : wr.cell? ⟨g, o + i * 7, none⟩ = some (.int .i64 kd') := hcw 0 (by omega)
        have q1 := hcw 1 (by omega)
        have q2 := hcw 2 (by omega)
        have q3 := hcw 3 (by omega)
        have q4 := hcw 4 (by omega)
        have q5 := hcw 5 (by omega)
        have q6 := hcw 6 (by omega)
        have hgl : g < wr.heap.size := by omega
        have CALL : Hid (∀ W, Fr No wr W → Calls Try.prog 15 #[.agg #[.int .i64 kd', .int .i64 n', .string x', .string y', .slice b0 n0 e0, .slice b1 n1 e1, .slice b2 n2 e2]] W fun e w' => ∃ v, e = .returned v ∧ Fr No W w' ∧ w'.ownsRow W.heap.size 9 1 v (Pu.freeR k t.args[i]).length ((Pu.freeR k t.args[i]).map .string) ∧ Short (Pu.freeR k t.args[i])) := fun W hW =>
          HS.out B W _ t.args[i] (hrt.old (ho.trans (hW.old (by omega) (fun _ _ e => e))) (by have := hW.size; omega)) (by have := hW.size; omega) (by have := HWT.out; have := sumW_le (Pu.wt k) t.args (i + 1); have := sumW_succ (Pu.wt k) t.args i hlt; omega)
        clear hcw hcell hrt hst ho
        have i1 : (i : Int) < (t.args.length : Int) := by omega
        have i0 : (0 : Int) ≤ (i : Int) := by omega
        have hwt := HWT.out
        by_cases hi1 : i = 1
        · have hi1' : ((i : Int) == 1) = true := by simp; omega
          have HI1 := hide hi1
          clear hi1
          go_wp2_with fail
          refine (CALL.out _ ?_).mono ?_
          · repeat (first | exact Fr.refl _ _ | apply Fr.alloc)
          rintro e w2 ⟨v2, rfl, hf2, hrow2, hsh2⟩
          obtain ⟨a', c', hv2⟩ := row_form hrow2
          subst hv2
          have F2 := hide ((((Fr.refl No wr).alloc _).alloc _).trans hf2)
          have hlit : (wr.alloc (.cells #[.int .i64 kd', .int .i64 n', .string x', .string y', .slice b0 n0 e0, .slice b1 n1 e1, .slice b2 n2 e2] 27)).heap.size = wr.heap.size + 1 := by simp
          have hbb := fr_heap (heap_alloc_new (wr.alloc (.cells #[.int .i64 kd', .int .i64 n', .string x', .string y', .slice b0 n0 e0, .slice b1 n1 e1, .slice b2 n2 e2] 27)) (.cells #[.string t.name] 9)) hf2 (fun e => e)
          rw [hlit] at hbb
          have HBT : Hid (∀ w' v', Mv (w.heap.size + 1) w2 w' vr v' → Names (wr.heap.size + 1 + 1) w' (.slice (some ⟨wr.heap.size + 1, 0, none⟩) 1 1) [t.name]) := fun w' v' hm => by
            have hb' := fr_heap hbb hm.1 (HST.out.notT (by omega))
            exact ⟨⟨_, _, rfl, Nat.le_refl _, by unfold maxLen; decide, fun _ => ⟨_, _, rfl, Nat.lt_succ_self _, lt_of_heap hb', fun j hj => by rw [cell_of_heap hb', Nat.zero_add]; simp⟩⟩, fun y hy => by simp at hy; subst hy; exact HX.out⟩
          clear hbb hlit
          have CP := hide (HST.out.put (w2 := w2) (m := _) (B2 := _) F2.out hrow2 (by simp only [World.size_alloc]; omega) hsh2 HBT.out (by have := freeR_length k t.args[i]; have := sumW_le (Pu.wt k) t.args (i + 1); have := sumW_succ (Pu.wt k) t.args i hlt; omega))
          clear hf2 hrow2 hsh2
          go_wp2_with fail
          refine CP.out.mono ?_
          rintro e w3 ⟨rfl, v3, hst3⟩
          have HST3 := hide hst3
          clear hst3 CP
          go_wp2_with fail
          go_roundw
          case rel =>
            refine ⟨i + 1, by omega, by go_num, v3, ?_, ?_⟩
            · rw [putArgs_succ _ _ _ _ _ i hlt, show Pu.argNames (Pu.isLet t) t.name i = [t.name] from by rw [HLET.out, HI1.out]; rfl]; exact HST3.out
            · rw [putArgs_succ _ _ _ _ _ i hlt]
              have := putAll_len (Pu.argNames (Pu.isLet t) t.name i) (Pu.freeR k t.args[i]) (Pu.putArgs (Pu.freeR k) (Pu.isLet t) t.name 0 (t.args.take i) (Pu.first t))
              have := freeR_length k t.args[i]
              have := sumW_succ (Pu.wt k) t.args i hlt
              omega
          case measure => simp [intOf]; omega
        · have hi1' : ((i : Int) == 1) = false := by simp; omega
          have HI1 := hide hi1
          clear hi1
          go_wp2_with fail
          refine (CALL.out _ ?_).mono ?_
          · repeat (first | exact Fr.refl _ _ | apply Fr.alloc)
          rintro e w2 ⟨v2, rfl, hf2, hrow2, hsh2⟩
          obtain ⟨a', c', hv2⟩ := row_form hrow2
          subst hv2
          have F2 := hide (((Fr.refl No wr).alloc _).trans hf2)
          have HBT : Hid (∀ w' v', Mv (w.heap.size + 1) w2 w' vr v' → Names 0 w' (.slice none 0 0) []) := fun _ _ _ => ⟨Row.nil _ _, fun y hy => by simp at hy⟩
          have CP := hide (HST.out.put (w2 := w2) (m := _) (B2 := _) F2.out hrow2 (by simp only [World.size_alloc]; omega) hsh2 HBT.out (by have := freeR_length k t.args[i]; have := sumW_le (Pu.wt k) t.args (i + 1); have := sumW_succ (Pu.wt k) t.args i hlt; omega))
          clear hf2 hrow2 hsh2
          go_wp2_with fail
          refine CP.out.mono ?_
          rintro e w3 ⟨rfl, v3, hst3⟩
          have HST3 := hide hst3
          clear hst3 CP
          go_wp2_with fail
          go_roundw
          case rel =>
            refine ⟨i + 1, by omega, by go_num, v3, ?_, ?_⟩
            · rw [putArgs_succ _ _ _ _ _ i hlt, show Pu.argNames (Pu.isLet t) t.name i = [] from by rw [HLET.out]; unfold Pu.argNames; rw [if_neg (fun e => HI1.out e.2)]]; exact HST3.out
            · rw [putArgs_succ _ _ _ _ _ i hlt]
              have := putAll_len (Pu.argNames (Pu.isLet t) t.name i) (Pu.freeR k t.args[i]) (Pu.putArgs (Pu.freeR k) (Pu.isLet t) t.name 0 (t.args.take i) (Pu.first t))
              have := freeR_length k t.args[i]
              have := sumW_succ (Pu.wt k) t.args i hlt
              omega
          case measure => simp [intOf]; omega
      · have hil : i = t.args.length := by omega
        subst hil
        rw [List.take_length] at hst HST hln
        have k1 : wr.cell? ⟨w.heap.size + 1, 0, none⟩ = some vr := by rw [cell_of_heap hst.out.box]; rfl
        obtain ⟨a', c', hvr⟩ := row_form hst.out.row
        subst hvr
        clear hst
        go_wp2_with fail
        go_ret
        refine ⟨_, rfl, HST.out.fr, ?_, ?_⟩
        · rw [HFIN.out]; exact HST.out.out.row
        · rw [HFIN.out]; exact HST.out.out.sh
  · have HLET : Hid (Pu.isLet t = false) := by unfold Pu.isLet; exact decide_eq_false (by rw [← hkd]; exact hl2)
    have HFIN : Hid (Pu.freeR (k + 1) t = Pu.putCases (Pu.freeR k) t.cases (Pu.putArgs (Pu.freeR k) (Pu.isLet t) t.name 0 t.args (Pu.first t))) := by rw [hgo, if_neg (by rw [HLET.out]; simp)]; exact rfl
    have hk : kd = 8 ∨ kd = 9 ∨ kd = 10 ∨ kd = 11 ∨ (kd = 6 ∧ ((t.args.length : Int) == 2) = false) ∨ (¬ kd = 8 ∧ ¬ kd = 9 ∧ ¬ kd = 10 ∧ ¬ kd = 11 ∧ ¬ kd = 6) := by simp; omega
    rcases hk with h | h | h | h | ⟨h, h9⟩ | ⟨h8, h9, h10, h11, h6⟩
    focus
      have HFIRST : Hid (Pu.first t = [t.name]) := by unfold Pu.first; rw [← hkd, h]; rfl
      have S0 : Hid (St w csv (((w.alloc (.cells #[.int .i64 kd, .int .i64 t.n, .string t.name, .string t.token, .slice a0 t.vars.length d0, .slice a1 t.args.length d1, .slice a2 t.cases.length d2] 27)).alloc (.cells #[.slice (some ⟨w.heap.size + 1 + 1, 0, none⟩) 1 1] 23)).alloc (.cells #[.string t.name] 9)) (Pu.first t) (.slice (some ⟨w.heap.size + 1 + 1, 0, none⟩) 1 1)) := by rw [HFIRST.out]; have := start_one w csv t.name HX.out; rw [HCSV.out] at this ⊢; exact this
      subst h
      clear hgo hkd hl2 h1
      go_enter Try.func15, Try.ntmps15
      go_wp2_with fail
    rotate_left
    focus
      have HFIRST : Hid (Pu.first t = [t.name]) := by unfold Pu.first; rw [← hkd, h]; rfl
      have S0 : Hid (St w csv (((w.alloc (.cells #[.int .i64 kd, .int .i64 t.n, .string t.name, .string t.token, .slice a0 t.vars.length d0, .slice a1 t.args.length d1, .slice a2 t.cases.length d2] 27)).alloc (.cells #[.slice (some ⟨w.heap.size + 1 + 1, 0, none⟩) 1 1] 23)).alloc (.cells #[.string t.name] 9)) (Pu.first t) (.slice (some ⟨w.heap.size + 1 + 1, 0, none⟩) 1 1)) := by rw [HFIRST.out]; have := start_one w csv t.name HX.out; rw [HCSV.out] at this ⊢; exact this
      subst h
      clear hgo hkd hl2 h1
      go_enter Try.func15, Try.ntmps15
      go_wp2_with fail
    rotate_left
    focus
      have HFIRST : Hid (Pu.first t = [t.name]) := by unfold Pu.first; rw [← hkd, h]; rfl
      have S0 : Hid (St w csv (((w.alloc (.cells #[.int .i64 kd, .int .i64 t.n, .string t.name, .string t.token, .slice a0 t.vars.length d0, .slice a1 t.args.length d1, .slice a2 t.cases.length d2] 27)).alloc (.cells #[.slice (some ⟨w.heap.size + 1 + 1, 0, none⟩) 1 1] 23)).alloc (.cells #[.string t.name] 9)) (Pu.first t) (.slice (some ⟨w.heap.size + 1 + 1, 0, none⟩) 1 1)) := by rw [HFIRST.out]; have := start_one w csv t.name HX.out; rw [HCSV.out] at this ⊢; exact this
      subst h
      clear hgo hkd hl2 h1
      go_enter Try.func15, Try.ntmps15
      go_wp2_with fail
    rotate_left
    focus
      have HFIRST : Hid (Pu.first t = [t.name]) := by unfold Pu.first; rw [← hkd, h]; rfl
      have S0 : Hid (St w csv (((w.alloc (.cells #[.int .i64 kd, .int .i64 t.n, .string t.name, .string t.token, .slice a0 t.vars.length d0, .slice a1 t.args.length d1, .slice a2 t.cases.length d2] 27)).alloc (.cells #[.slice (some ⟨w.heap.size + 1 + 1, 0, none⟩) 1 1] 23)).alloc (.cells #[.string t.name] 9)) (Pu.first t) (.slice (some ⟨w.heap.size + 1 + 1, 0, none⟩) 1 1)) := by rw [HFIRST.out]; have := start_one w csv t.name HX.out; rw [HCSV.out] at this ⊢; exact this
      subst h
      clear hgo hkd hl2 h1
      go_enter Try.func15, Try.ntmps15
      go_wp2_with fail
    rotate_left
    focus
      have HFIRST : Hid (Pu.first t = []) := by unfold Pu.first; rw [← hkd, h]; rfl
      have S0 : Hid (St w csv ((w.alloc (.cells #[.int .i64 kd, .int .i64 t.n, .string t.name, .string t.token, .slice a0 t.vars.length d0, .slice a1 t.args.length d1, .slice a2 t.cases.length d2] 27)).alloc (.cells #[.slice none 0 0] 23)) (Pu.first t) (.slice none 0 0)) := by rw [HFIRST.out]; have := start_none w csv; rw [HCSV.out] at this ⊢; exact this
      subst h
      clear hgo hkd hl2 h1
      go_enter Try.func15, Try.ntmps15
      go_wp2_with fail
    rotate_left
    focus
      have HFIRST : Hid (Pu.first t = []) := by unfold Pu.first Pu.asks; rw [← hkd, decide_eq_false h1, decide_eq_false h8, decide_eq_false h9, decide_eq_false h10, decide_eq_false h11]; rfl
      have S0 : Hid (St w csv ((w.alloc (.cells #[.int .i64 kd, .int .i64 t.n, .string t.name, .string t.token, .slice a0 t.vars.length d0, .slice a1 t.args.length d1, .slice a2 t.cases.length d2] 27)).alloc (.cells #[.slice none 0 0] 23)) (Pu.first t) (.slice none 0 0)) := by rw [HFIRST.out]; have := start_none w csv; rw [HCSV.out] at this ⊢; exact this
      have h1b : (kd == 1) = false := by simp; omega
      have h8b : (kd == 8) = false := by simp; omega
      have h9b : (kd == 9) = false := by simp; omega
      have h10b : (kd == 10) = false := by simp; omega
      have h11b : (kd == 11) = false := by simp; omega
      have h6b : (kd == 6) = false := by simp; omega
      clear hgo hkd hl2 h1 h8 h9 h10 h11 h6
      go_enter Try.func15, Try.ntmps15
      go_wp2_with fail
    rotate_left
    all_goals
      go_loopw [29] (fun q wr => ∃ i : Nat, i ≤ t.args.length ∧ q = .int .i64 i ∧ ∃ vr, St w csv wr (Pu.putArgs (Pu.freeR k) (Pu.isLet t) t.name 0 (t.args.take i) (Pu.first t)) vr ∧ (Pu.putArgs (Pu.freeR k) (Pu.isLet t) t.name 0 (t.args.take i) (Pu.first t)).length ≤ 1 + sumW (Pu.wt k) t.args i) (fun q _ => t.args.length - (intOf q).toNat)
      case atStart =>
        exact ⟨0, Nat.zero_le _, rfl, _, S0.out, by show (Pu.first t).length ≤ _; rw [HFIRST.out]; simp⟩
      case round =>
        obtain ⟨i, hi, rfl, vr, hst, hln⟩ := hrel
        have HST := hide hst
        have hszw := hst.fr.size
        have hbl : w.heap.size < wr.heap.size := lt_of_heap hst.box
        have hol : w.heap.size + 1 < wr.heap.size := lt_of_heap hst.out.box
        have k0 := cell_of_heap hst.box
        rw [HCSV.out] at k0
        by_cases hlt : i < t.args.length
        · have ho : Old B w wr := hst.fr.old hB (fun _ _ e => e)
          obtain ⟨g, o, cap1, kd', n', x', y', b0, n0, e0, b1, n1, e1, b2, n2, e2, hav, hcap, hg, hgw, hrt, hcell⟩ := args_at HR.out HE.out i hlt
          injection hav with hav1 _ hav2
          subst hav1 hav2
          have hcw : ∀ j, j < 7 → wr.cell? ⟨g, o + i * 7 + j, none⟩ = [Value.int .i64 kd', .int .i64 n', .string x', .string y', .slice b0 n0 e0, .slice b1 n1 e1, .slice b2 n2 e2][j]? := fun j hj => by
            rw [ho.cell (a := ⟨g, o + i * 7 + j, none⟩) hg]; exact hcell j hj
          have q0 : wr.cell? ⟨g, o + i * 7, none⟩ = some (.int .i64 kd') := hcw 0 (by omega)
          have q1 := hcw 1 (by omega)
          have q2 := hcw 2 (by omega)
          have q3 := hcw 3 (by omega)
          have q4 := hcw 4 (by omega)
          have q5 := hcw 5 (by omega)
          have q6 := hcw 6 (by omega)
          have hgl : g < wr.heap.size := by omega
          have CALL : Hid (∀ W, Fr No wr W → Calls Try.prog 15 #[.agg #[.int .i64 kd', .int .i64 n', .string x', .string y', .slice b0 n0 e0, .slice b1 n1 e1, .slice b2 n2 e2]] W fun e w' => ∃ v, e = .returned v ∧ Fr No W w' ∧ w'.ownsRow W.heap.size 9 1 v (Pu.freeR k t.args[i]).length ((Pu.freeR k t.args[i]).map .string) ∧ Short (Pu.freeR k t.args[i])) := fun W hW =>
            HS.out B W _ t.args[i] (hrt.old (ho.trans (hW.old (by omega) (fun _ _ e => e))) (by have := hW.size; omega)) (by have := hW.size; omega) (by have := HWT.out; have := sumW_le (Pu.wt k) t.args (i + 1); have := sumW_succ (Pu.wt k) t.args i hlt; omega)
          clear hcw hcell hrt hst ho
          have i1 : (i : Int) < (t.args.length : Int) := by omega
          have i0 : (0 : Int) ≤ (i : Int) := by omega
          have hwt := HWT.out
          go_wp2_with fail
          refine (CALL.out _ ?_).mono ?_
          · repeat (first | exact Fr.refl _ _ | apply Fr.alloc)
          rintro e w2 ⟨v2, rfl, hf2, hrow2, hsh2⟩
          obtain ⟨a', c', hv2⟩ := row_form hrow2
          subst hv2
          have F2 := hide (((Fr.refl No wr).alloc _).trans hf2)
          have HBT : Hid (∀ w' v', Mv (w.heap.size + 1) w2 w' vr v' → Names 0 w' (.slice none 0 0) []) := fun _ _ _ => ⟨Row.nil _ _, fun y hy => by simp at hy⟩
          have CP := hide (HST.out.put (w2 := w2) (m := _) (B2 := _) F2.out hrow2 (by simp only [World.size_alloc]; omega) hsh2 HBT.out (by have := freeR_length k t.args[i]; have := sumW_le (Pu.wt k) t.args (i + 1); have := sumW_succ (Pu.wt k) t.args i hlt; omega))
          clear hf2 hrow2 hsh2
          go_wp2_with fail
          refine CP.out.mono ?_
          rintro e w3 ⟨rfl, v3, hst3⟩
          have HST3 := hide hst3
          clear hst3 CP
          go_wp2_with fail
          go_roundw
          case rel =>
            refine ⟨i + 1, by omega, by go_num, v3, ?_, ?_⟩
            · rw [putArgs_succ _ _ _ _ _ i hlt, show Pu.argNames (Pu.isLet t) t.name i = [] from by rw [HLET.out, argNames_no]]; exact HST3.out
            · rw [putArgs_succ _ _ _ _ _ i hlt]
              have := putAll_len (Pu.argNames (Pu.isLet t) t.name i) (Pu.freeR k t.args[i]) (Pu.putArgs (Pu.freeR k) (Pu.isLet t) t.name 0 (t.args.take i) (Pu.first t))
              have := freeR_length k t.args[i]
              have := sumW_succ (Pu.wt k) t.args i hlt
              omega
          case measure => simp [intOf]; omega
        · have hil : i = t.args.length := by omega
          subst hil
          rw [List.take_length] at hst HST hln
          clear hst
          rw [sumW_all] at hln
          go_wp2_with fail
          clear k0
          obtain ⟨ac1, hac1⟩ : ∃ ac1, ac1 = Pu.putArgs (Pu.freeR k) (Pu.isLet t) t.name 0 t.args (Pu.first t) := ⟨_, rfl⟩
          rw [← hac1] at HST hln
          have HAC1 := hide hac1
          clear hac1
          go_loopw [69] (fun q wr => ∃ i : Nat, i ≤ t.cases.length ∧ q = .int .i64 i ∧ ∃ vr, St w csv wr (Pu.putCases (Pu.freeR k) (t.cases.take i) ac1) vr ∧ (Pu.putCases (Pu.freeR k) (t.cases.take i) ac1).length ≤ ac1.length + sumW (fun c => 1 + c.2.1.length + Pu.wt k c.2.2) t.cases i) (fun q _ => t.cases.length - (intOf q).toNat)
          case atStart => exact ⟨0, Nat.zero_le _, rfl, _, HST.out, by simp [Pu.putCases]⟩
          case round =>
            clear HST
            obtain ⟨i, hi, rfl, vr, hst, hln2⟩ := hrel
            have HST := hide hst
            have hszw := hst.fr.size
            have hbl : w.heap.size < wr.heap.size := lt_of_heap hst.box
            have hol : w.heap.size + 1 < wr.heap.size := lt_of_heap hst.out.box
            have hwt := HWT.out
            by_cases hlt : i < t.cases.length
            · have ho : Old B w wr := hst.fr.old hB (fun _ _ e => e)
              obtain ⟨g, o, cap1, ag, an, ac, kd', n', x', y', b0, n0, e0, b1, n1, e1, b2, n2, e2, hav, hcap, hg, hgw, hnm, han, hrt, hcell⟩ := cases_at HQ.out HF.out i hlt
              injection hav with hav1 _ hav2
              subst hav1 hav2
              have hcw : ∀ j, j < 9 → wr.cell? ⟨g, o + i * 9 + j, none⟩ = [Value.int .i64 t.cases[i].1, .slice ag an ac, .int .i64 kd', .int .i64 n', .string x', .string y', .slice b0 n0 e0, .slice b1 n1 e1, .slice b2 n2 e2][j]? := fun j hj => by
                rw [ho.cell (a := ⟨g, o + i * 9 + j, none⟩) hg]; exact hcell j hj
              have q0 : wr.cell? ⟨g, o + i * 9, none⟩ = some (.int .i64 t.cases[i].1) := hcw 0 (by omega)
              have q1 := hcw 1 (by omega)
              have q2 := hcw 2 (by omega)
              have q3 := hcw 3 (by omega)
              have q4 := hcw 4 (by omega)
              have q5 := hcw 5 (by omega)
              have q6 := hcw 6 (by omega)
              have q7 := hcw 7 (by omega)
              have q8 := hcw 8 (by omega)
              have hgl : g < wr.heap.size := by omega
              have hss := sumW_succ (fun c => 1 + c.2.1.length + Pu.wt k c.2.2) t.cases i hlt
              have hsl := sumW_le (fun c => 1 + c.2.1.length + Pu.wt k c.2.2) t.cases (i + 1)
              have hfl := freeR_length k t.cases[i].2.2
              have hpl := putAll_len t.cases[i].2.1 (Pu.freeR k t.cases[i].2.2) (Pu.putCases (Pu.freeR k) (t.cases.take i) ac1)
              have hps := putCases_succ (Pu.freeR k) t.cases ac1 i hlt
              obtain ⟨W3, hW3⟩ : ∃ W3, W3 = wr.alloc (.cells #[.int .i64 t.cases[i].1, .slice ag an ac, .int .i64 kd', .int .i64 n', .string x', .string y', .slice b0 n0 e0, .slice b1 n1 e1, .slice b2 n2 e2] 48) := ⟨_, rfl⟩
              have f3 : Fr No wr W3 := by rw [hW3]; exact (Fr.refl No wr).alloc _
              have h3s : W3.heap.size = wr.heap.size + 1 := by rw [hW3]; simp
              have h3b : W3.heap[wr.heap.size]? = some (.cells #[.int .i64 t.cases[i].1, .slice ag an ac, .int .i64 kd', .int .i64 n', .string x', .string y', .slice b0 n0 e0, .slice b1 n1 e1, .slice b2 n2 e2] 48 (0, 0)) := by rw [hW3]; exact heap_alloc_new _ _
              have SA : Hid (∀ w' : World, w'.heap[wr.heap.size]? = some (.cells #[.int .i64 t.cases[i].1, .slice ag an ac, .int .i64 kd', .int .i64 n', .string x', .string y', .slice b0 n0 e0, .slice b1 n1 e1, .slice b2 n2 e2] 48 (0, 0)) → (w'.cell? ⟨wr.heap.size, 1, none⟩ = some (.slice ag an ac) ∧ w'.cell? ⟨wr.heap.size, 2, none⟩ = some (.int .i64 kd') ∧ w'.cell? ⟨wr.heap.size, 3, none⟩ = some (.int .i64 n') ∧ w'.cell? ⟨wr.heap.size, 4, none⟩ = some (.string x') ∧ w'.cell? ⟨wr.heap.size, 5, none⟩ = some (.string y') ∧ w'.cell? ⟨wr.heap.size, 6, none⟩ = some (.slice b0 n0 e0) ∧ w'.cell? ⟨wr.heap.size, 7, none⟩ = some (.slice b1 n1 e1) ∧ w'.cell? ⟨wr.heap.size, 8, none⟩ = some (.slice b2 n2 e2))) := fun w' h => by
                have c := cell_of_heap h
                exact ⟨c 1, c 2, c 3, c 4, c 5, c 6, c 7, c 8⟩
              have A15 : Hid (∀ W, Fr No W3 W → Calls Try.prog 15 #[.agg #[.int .i64 kd', .int .i64 n', .string x', .string y', .slice b0 n0 e0, .slice b1 n1 e1, .slice b2 n2 e2]] W fun e w' => ∃ a2 n2' c2, e = .returned (.slice a2 n2' c2) ∧ Rsl W3 w' (Pu.freeR k t.cases[i].2.2) (.slice a2 n2' c2) ∧ (w'.cell? ⟨wr.heap.size, 1, none⟩ = some (.slice ag an ac) ∧ w'.cell? ⟨wr.heap.size, 2, none⟩ = some (.int .i64 kd') ∧ w'.cell? ⟨wr.heap.size, 3, none⟩ = some (.int .i64 n') ∧ w'.cell? ⟨wr.heap.size, 4, none⟩ = some (.string x') ∧ w'.cell? ⟨wr.heap.size, 5, none⟩ = some (.string y') ∧ w'.cell? ⟨wr.heap.size, 6, none⟩ = some (.slice b0 n0 e0) ∧ w'.cell? ⟨wr.heap.size, 7, none⟩ = some (.slice b1 n1 e1) ∧ w'.cell? ⟨wr.heap.size, 8, none⟩ = some (.slice b2 n2 e2))) := fun W hW => by
                refine (HS.out B W _ t.cases[i].2.2 (hrt.old (ho.trans ((f3.trans hW).old (by omega) (fun _ _ e => e))) (by have := hW.size; omega)) (by have := hW.size; omega) (by omega)).mono ?_
                rintro e w' ⟨v, rfl, h1, h2, h3⟩
                obtain ⟨a2, c2, rfl⟩ := row_form h2
                exact ⟨a2, _, c2, rfl, ⟨hW.trans h1, ⟨W.heap.size, hW.size, h2⟩, h3⟩, SA.out _ (fr_heap h3b (hW.trans h1) (fun e => e))⟩
              have A37 : Hid (∀ W a2 n2' c2, Rsl W3 W (Pu.freeR k t.cases[i].2.2) (.slice a2 n2' c2) → Calls Try.prog 37 #[.slice a2 n2' c2, .slice ag an ac, .pointer (some ⟨w.heap.size + 1, 0, none⟩)] W fun e w' => e = .returned (.tuple #[]) ∧ (∃ v', St w csv w' (Pu.putAll t.cases[i].2.1 (Pu.putCases (Pu.freeR k) (t.cases.take i) ac1) (Pu.freeR k t.cases[i].2.2)) v') ∧ (w'.cell? ⟨wr.heap.size, 1, none⟩ = some (.slice ag an ac) ∧ w'.cell? ⟨wr.heap.size, 2, none⟩ = some (.int .i64 kd') ∧ w'.cell? ⟨wr.heap.size, 3, none⟩ = some (.int .i64 n') ∧ w'.cell? ⟨wr.heap.size, 4, none⟩ = some (.string x') ∧ w'.cell? ⟨wr.heap.size, 5, none⟩ = some (.string y') ∧ w'.cell? ⟨wr.heap.size, 6, none⟩ = some (.slice b0 n0 e0) ∧ w'.cell? ⟨wr.heap.size, 7, none⟩ = some (.slice b1 n1 e1) ∧ w'.cell? ⟨wr.heap.size, 8, none⟩ = some (.slice b2 n2 e2))) := fun W a2 n2' c2 ⟨h1, ⟨m, h2, h3⟩, h4⟩ => by
                refine (HST.out.put' (w2 := W) (m := m) (B2 := B) (f3.trans h1) h3 (by omega) h4 (fun w' v' hm => hnm.fr (HST.out.mv (f3.trans h1) hm)) (by omega)).mono ?_
                rintro e w' ⟨he, v', hs', hm'⟩
                exact ⟨he, ⟨v', hs'⟩, SA.out _ (fr_heap (fr_heap h3b h1 (fun e => e)) hm'.1 (HST.out.notT (by omega)))⟩
              have D0 : Fr No W3 W3.drew := (Fr.refl No W3).drew
              have HZ := hide (SA.out W3.drew h3b)
              clear hcw hcell hrt hst ho hnm h3b f3 han
              have i1 : (i : Int) < (t.cases.length : Int) := by omega
              have i0 : (0 : Int) ≤ (i : Int) := by omega
              go_wp2_with fail
              rw [← hW3]
              clear hW3
              go_region_held3 (fun w' : World => w'.cell? ⟨wr.heap.size, 1, none⟩ = some (.slice ag an ac) ∧ w'.cell? ⟨wr.heap.size, 2, none⟩ = some (.int .i64 kd') ∧ w'.cell? ⟨wr.heap.size, 3, none⟩ = some (.int .i64 n') ∧ w'.cell? ⟨wr.heap.size, 4, none⟩ = some (.string x') ∧ w'.cell? ⟨wr.heap.size, 5, none⟩ = some (.string y') ∧ w'.cell? ⟨wr.heap.size, 6, none⟩ = some (.slice b0 n0 e0) ∧ w'.cell? ⟨wr.heap.size, 7, none⟩ = some (.slice b1 n1 e1) ∧ w'.cell? ⟨wr.heap.size, 8, none⟩ = some (.slice b2 n2 e2)) (first | with_reducible assumption | with_reducible exact HZ.out)
                (first
                  | (go_at_call 15; refine (A15.out _ ?_).mono ?_; (first | with_reducible assumption | exact D0); rintro e w5 ⟨a2', n2', c2', rfl, hr5, hz5⟩)
                  | (go_at_call 37; refine (A37.out _ _ _ _ ?_).mono ?_; (with_reducible assumption); rintro e w6 ⟨rfl, hr6, hz6⟩))
              have HR6 := hide hr6
              clear hr6 hz6 hr5 hz5
              go_wp2_with fail
              go_roundw
              case rel =>
                obtain ⟨v6, hs6⟩ := HR6.out
                exact ⟨i + 1, by omega, by go_num, v6, by rw [hps]; exact hs6, by rw [hps]; omega⟩
              case measure => simp [intOf]; omega
            · have hil : i = t.cases.length := by omega
              subst hil
              rw [List.take_length] at hst
              have k1 : wr.cell? ⟨w.heap.size + 1, 0, none⟩ = some vr := by rw [cell_of_heap hst.out.box]; rfl
              obtain ⟨a', c', hvr⟩ := row_form hst.out.row
              subst hvr
              have HST2 := hide hst
              clear hst HST
              go_wp2_with fail
              go_ret
              refine ⟨_, rfl, HST2.out.fr, ?_, ?_⟩
              · rw [HFIN.out, ← HAC1.out]; exact HST2.out.out.row
              · rw [HFIN.out, ← HAC1.out]; exact HST2.out.out.sh

theorem rfree_all : ∀ k, RFreeC k
  | 0 => fun _ _ _ _ h => h.elim
  | k + 1 => rfree_node k (rfree_all k)
end Go.Proofs.Ytmjpfiecgkoaeaa
