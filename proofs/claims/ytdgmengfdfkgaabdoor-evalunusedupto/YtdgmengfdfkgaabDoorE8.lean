/- Terms one by one: 'terms', walked. -/
import Derived.Test.YtdgmengfdfkgaabDoorE6E7
namespace Go.Proofs.YtdgmengfdfkgaabDoor
open Go.RowKit Go.Maps Go.WideMaps

/-- The runner: its functions, its fuel, the calls that there were, those that go on. -/
def St (rb : Nat) (fv : Value) (F d c : Nat) (w : World) : Prop := w.heap[rb]? = some (.cells #[fv, .int .i64 F, .int .i64 c, .int .i64 d] 65 (0, 0)) ∧ c ≤ F
/-- A set of blocks that values may lie in. -/
structure Good (S : Nat → Prop) (rb B : Nat) (w : World) : Prop where
  up : Up S w
  low : ∀ g, g < B → S g
  out : ∀ g, S g → g ≠ rb
theorem Good.but {S : Nat → Prop} {rb B r : Nat} {w W : World} (h : Good S rb B w) (hw : w.heap.size ≤ W.heap.size) (hr : r < W.heap.size) (hB : B ≤ r) : Good (But S r) rb B W :=
  ⟨up_but h.up hw hr, fun g hg => ⟨h.low g hg, by omega⟩, fun g hg => h.out g hg.1⟩
theorem Good.fr {S T : Nat → Prop} {rb B : Nat} {w W : World} (h : Good S rb B w) (hf : Fr T w W) : Good S rb B W := ⟨h.up.fr hf, h.low, h.out⟩
theorem Good.stays {S : Nat → Prop} {rb B : Nat} {w w0 W : World} (h : Good S rb B w0) (hf : Fr (· = rb) w W) : Stays S S w W := stays_fr hf (fun g hg _ e => h.out g hg e) (fun _ h => h)
theorem Good.staysBut {S : Nat → Prop} {rb B r : Nat} {w w0 W : World} (h : Good S rb B w0) (hf : Fr (· = rb) w W) (hr : w.heap.size ≤ r) : Stays S (But S r) w W := ⟨hf.size, fun g hg hl => ⟨⟨hg, by omega⟩, hf.block g hl (h.out g hg)⟩⟩
theorem St.fr {rb : Nat} {fv : Value} {F d c : Nat} {w w' : World} (h : St rb fv F d c w) {T : Nat → Prop} (hf : Fr T w w') (hT : ¬ T rb) : St rb fv F d c w' := ⟨fr_heap h.1 hf hT, h.2⟩
theorem old_rb {rb B : Nat} {w w' : World} (hf : Fr (· = rb) w w') (hB : B ≤ rb) (hr : rb < w.heap.size) : Old B w w' := hf.old (by omega) (fun i hi e => by have e : i = rb := e; omega)

/-- What 'term' does at terms of k levels, where d calls go on. -/
def TermC (K k B rb F d : Nat) (fv : Value) (l : List (Pu.Fn K)) (call : ByteArray → List Pu.V → Nat → Pu.Out) : Prop :=
  ∀ (S : Nat → Prop) (m : Nat) (w : World) (cs : List Value) (t : Pu.TT k) (kv : Value) (env : Pu.Env) (c : Nat), Good S rb B w → RT k B w cs t → KN S m w kv env → St rb fv F d c w → Fns K B w fv l → Pu.wt k t ≤ 1048576 →
    Calls Tryd.prog 52 #[.pointer (some ⟨rb, 0, none⟩), .agg cs.toArray, kv] w fun e w' => Ans S w' e (Pu.ev call k env t c).v (Pu.ev call k env t c).e ∧ Fr (· = rb) w w' ∧ St rb fv F d (Pu.ev call k env t c).c w'

theorem AV.tuple {S : Nat → Prop} {w : World} {cs : List Value} {v : Pu.V} (h : AV S w cs v) : ∃ a n c, cs = [.bool v.con, .int .i64 v.n, .slice a n c] := by
  obtain ⟨a, c, h⟩ := h.form
  exact ⟨a, _, c, h⟩

/-- How far terms have come. -/
def join (vs : List Pu.V) (r : List Pu.V × Int × Nat) : List Pu.V × Int × Nat := if r.2.1 = 0 then (vs ++ r.1, 0, r.2.2) else ([], r.2.1, r.2.2)
theorem join_join (vs : List Pu.V) (v : Pu.V) (r : List Pu.V × Int × Nat) : join vs (join [v] r) = join (vs ++ [v]) r := by
  unfold join
  by_cases h : r.2.1 = 0
  · simp [h]
  · simp [h]
theorem evL_cons {α : Type} (E : α → Nat → Pu.Out) (a : α) (l : List α) (c : Nat) : Pu.evL E (a :: l) c = if (E a c).e = 0 then join [(E a c).v] (Pu.evL E l (E a c).c) else ([], (E a c).e, (E a c).c) := rfl
def Far {α : Type} (E : α → Nat → Pu.Out) (args : List α) (c i : Nat) (vs : List Pu.V) (ci : Nat) : Prop := Pu.evL E args c = join vs (Pu.evL E (args.drop i) ci)

theorem evL_nil {α : Type} {E : α → Nat → Pu.Out} (l : List α) (c : Nat) (h : ¬ (Pu.evL E l c).2.1 = 0) : (Pu.evL E l c).1 = [] := by
  cases l with
  | nil => exact absurd rfl h
  | cons a l =>
    rw [evL_cons] at h ⊢
    by_cases h0 : (E a c).e = 0
    · rw [if_pos h0] at h ⊢
      unfold join at h ⊢
      by_cases h1 : (Pu.evL E l (E a c).c).2.1 = 0
      · rw [if_pos h1] at h; exact absurd rfl h
      · rw [if_neg h1]
    · rw [if_neg h0]
theorem Far.start {α : Type} (E : α → Nat → Pu.Out) (args : List α) (c : Nat) : Far E args c 0 [] c := by
  unfold Far join
  rw [List.drop_zero]
  have hp : Pu.evL E args c = ((Pu.evL E args c).1, (Pu.evL E args c).2.1, (Pu.evL E args c).2.2) := rfl
  by_cases h : (Pu.evL E args c).2.1 = 0
  · rw [if_pos h, List.nil_append]
    conv => lhs; rw [hp, h]
  · rw [if_neg h]
    conv => lhs; rw [hp, evL_nil _ _ h]
theorem Far.step {α : Type} {E : α → Nat → Pu.Out} {args : List α} {c i : Nat} {vs : List Pu.V} {ci : Nat} (h : Far E args c i vs ci) (hi : i < args.length) (h0 : (E args[i] ci).e = 0) : Far E args c (i + 1) (vs ++ [(E args[i] ci).v]) (E args[i] ci).c := by
  unfold Far at h ⊢
  rw [List.drop_eq_getElem_cons hi, evL_cons, if_pos h0, join_join] at h
  exact h
theorem Far.err {α : Type} {E : α → Nat → Pu.Out} {args : List α} {c i : Nat} {vs : List Pu.V} {ci : Nat} (h : Far E args c i vs ci) (hi : i < args.length) (h0 : ¬ (E args[i] ci).e = 0) : Pu.evL E args c = ([], (E args[i] ci).e, (E args[i] ci).c) := by
  unfold Far at h
  rw [List.drop_eq_getElem_cons hi, evL_cons, if_neg h0] at h
  rw [h]
  exact if_neg h0
theorem Far.end {α : Type} {E : α → Nat → Pu.Out} {args : List α} {c : Nat} {vs : List Pu.V} {ci : Nat} (h : Far E args c args.length vs ci) : Pu.evL E args c = (vs, 0, ci) := by
  unfold Far at h
  rw [List.drop_length] at h
  rw [h]
  show join vs ([], 0, ci) = _
  unfold join
  rw [if_pos rfl, List.append_nil]

set_option maxHeartbeats 1000000 in
theorem terms_any (K k B rb F d : Nat) (fv : Value) (l : List (Pu.Fn K)) (call : ByteArray → List Pu.V → Nat → Pu.Out) (hT : TermC K k B rb F d fv l call) (hBr : B ≤ rb)
    (S : Nat → Prop) (m : Nat) (w : World) (av : Value) (acs : List Value) (args : List (Pu.TT k)) (kv : Value) (env : Pu.Env) (c : Nat) (hS : Good S rb B w) (hr : Row B w av args.length acs) (he : Each 7 (RT k B w) acs args) (hk : KN S m w kv env) (hst : St rb fv F d c w) (hl : Fns K B w fv l) (hn : args.length ≤ 1048576) (hw : ∀ i (h : i < args.length), Pu.wt k args[i] ≤ 1048576) :
    Calls Tryd.prog 70 #[.pointer (some ⟨rb, 0, none⟩), av, kv] w fun e w' => ∃ a n cp, e = .returned (.tuple #[.slice a n cp, .int .i64 (Pu.evL (Pu.ev call k env) args c).2.1]) ∧ Vals S w' (.slice a n cp) (Pu.evL (Pu.ev call k env) args c).1 ∧ Fr (· = rb) w w' ∧ St rb fv F d (Pu.evL (Pu.ev call k env) args c).2.2 w' := by
  obtain ⟨a0, cp0, rfl, hcp1, hcp2⟩ := hr.form
  unfold maxLen at hcp2
  have hrb := lt_of_heap hst.1
  obtain ⟨i0, hi, hz0, hz1, hz2⟩ := info_parts Tryd.info29
  have hmk : ∀ u : World, (Instr.makeSlice 27 (.int .i64 (args.length : Int)) (.int .i64 (args.length : Int))).run Tryd.prog u =
      .ok (.slice (some ⟨u.heap.size, 0, none⟩) args.length args.length) (u.alloc (.cells (madeCells #[.bool false, .int .i64 0, .slice none 0 0] (args.length * 3)) 29)) := fun u => by
    have h := run_make (P := Tryd.prog) u 27 29 i0 _ Tryd.underlying27 hi hz0 .i64 .i64 (args.length : Int) (args.length : Int) (by omega) (Int.le_refl _) (by rw [hz2]; omega) (by omega)
    rw [Int.toNat_natCast] at h
    simpa [hz1, Value.cells] using h
  have f0 : Fr (· = rb) w (w.alloc (.cells (madeCells #[.bool false, .int .i64 0, .slice none 0 0] (args.length * 3)) 29)) := (Fr.refl _ w).alloc _
  have g0 := heap_alloc_new w (.cells (madeCells #[.bool false, .int .i64 0, .slice none 0 0] (args.length * 3)) 29)
  have st0 : St rb fv F d c (w.alloc (.cells (madeCells #[.bool false, .int .i64 0, .slice none 0 0] (args.length * 3)) 29)) := hst.fr ((Fr.refl No w).alloc _) (fun e => e)
  have HT := hide hT
  have HS := hide hS
  have HR := hide hr
  have HE := hide he
  have HK := hide hk
  have HL := hide hl
  have HW := hide hw
  have F0 := hide f0
  have G0 := hide g0
  have ST0 := hide st0
  clear hT hS hr he hk hst hl hw f0 g0 st0 hi hz0 hz1 hz2
  go_enter Tryd.func70, Tryd.ntmps70
  go_wp2_with fail
  clear hmk
  go_loopw [18] (fun q wr => ∃ i : Nat, i ≤ args.length ∧ q = .int .i64 i ∧ Fr (· = rb) w wr ∧ ∃ cur xs vs ci, wr.heap[w.heap.size]? = some (.cells cur 29 (0, 0)) ∧ cur.size = args.length * 3 ∧ xs.length = i * 3 ∧ (∀ j, j < i * 3 → cur[j]? = xs[j]?) ∧
      Each 3 (fun cs v => AV (But S w.heap.size) wr cs v) xs vs ∧ vs.length = i ∧ Far (Pu.ev call k env) args c i vs ci ∧ St rb fv F d ci wr) (fun q _ => args.length - (intOf q).toNat)
  case atStart => exact ⟨0, Nat.zero_le _, rfl, F0.out, _, [], [], c, G0.out, size_madeCells _ _, rfl, fun j hj => absurd hj (by omega), rfl, rfl, Far.start _ _ _, ST0.out⟩
  case round =>
    clear F0 G0 ST0
    obtain ⟨i, hi', rfl, hf, cur, xs, vs, ci, hg, hsz, hxl, hcur, hea, hvl, hfar, hst⟩ := hrel
    have hbs : w.heap.size < wr.heap.size := lt_of_heap hg
    by_cases hlt : i < args.length
    · have ho : Old B w wr := old_rb hf hBr hrb
      obtain ⟨g, o, cap, kd', n', x', y', b0, n0, e0, b1, n1, e1, b2, n2, e2, hav, hcap, hgB, hgw, hrt, hcell⟩ := args_at HR.out HE.out i hlt
      injection hav with hav1 _ hav2
      subst hav1 hav2
      have hcw : ∀ j, j < 7 → wr.cell? ⟨g, o + i * 7 + j, none⟩ = [Value.int .i64 kd', .int .i64 n', .string x', .string y', .slice b0 n0 e0, .slice b1 n1 e1, .slice b2 n2 e2][j]? := fun j hj => by
        rw [ho.cell (a := ⟨g, o + i * 7 + j, none⟩) hgB]; exact hcell j hj
      have q0 : wr.cell? ⟨g, o + i * 7, none⟩ = some (.int .i64 kd') := hcw 0 (by omega)
      have q1 := hcw 1 (by omega)
      have q2 := hcw 2 (by omega)
      have q3 := hcw 3 (by omega)
      have q4 := hcw 4 (by omega)
      have q5 := hcw 5 (by omega)
      have q6 := hcw 6 (by omega)
      have hgl : g < wr.heap.size := Nat.lt_of_lt_of_le hgw hf.size
      obtain ⟨out, hout⟩ : ∃ out, out = Pu.ev call k env args[i] ci := ⟨_, rfl⟩
      have CT : Hid (∀ W, Fr No wr W → Calls Tryd.prog 52 #[.pointer (some ⟨rb, 0, none⟩), .agg #[.int .i64 kd', .int .i64 n', .string x', .string y', .slice b0 n0 e0, .slice b1 n1 e1, .slice b2 n2 e2], kv] W fun e w' => Ans (But S w.heap.size) w' e out.v out.e ∧ Fr (· = rb) W w' ∧ St rb fv F d out.c w') := fun W hW => by
        rw [hout]
        have hfW : Fr (· = rb) w W := hf.no hW
        have hsW : w.heap.size < W.heap.size := Nat.lt_of_lt_of_le hbs hW.size
        exact HT.out (But S w.heap.size) m W _ args[i] kv env ci (HS.out.but hfW.size hsW (by omega)) (hrt.old (old_rb hfW hBr hrb) hfW.size) (HK.out.kept (HS.out.staysBut hfW (Nat.le_refl _))) (hst.fr hW (fun e => e)) (HL.out.old (old_rb hfW hBr hrb) hfW.size) (HW.out i hlt)
      have HOUT := hide hout
      have HF := hide hf
      have HG := hide hg
      have HCUR := hide hcur
      have HEA := hide hea
      have HFAR := hide hfar
      clear hcw hcell hrt hf hg hcur hea hfar hst ho hout
      have i1 : (i : Int) < (args.length : Int) := by omega
      have i00 : (0 : Int) ≤ (i : Int) := by omega
      have hsize : i * 3 + 3 ≤ cur.size := by omega
      go_wp2_with fail
      refine (CT.out _ ((Fr.refl No wr).alloc _)).mono ?_
      rintro e w1 ⟨⟨cs', rfl, hav1⟩, hf1, hst1⟩
      obtain ⟨p0, p1, p2, rfl⟩ := hav1.tuple
      have F1 : Fr (· = rb) wr w1 := ((Fr.refl _ wr).alloc _).trans hf1
      have g1 := fr_heap HG.out F1 (fun e => by have e : w.heap.size = rb := e; omega)
      obtain ⟨u0, hu0⟩ := some_at g1 (o := i * 3) (by omega)
      obtain ⟨u1, hu1⟩ := some_at g1 (o := i * 3 + 1) (by omega)
      obtain ⟨u2, hu2⟩ := some_at g1 (o := i * 3 + 2) (by omega)
      have z1 := frozen_of_heap g1
      have G1 := hide g1
      have HF1 := hide F1
      have hw1s : wr.heap.size < w1.heap.size := by have := hf1.size; simp at this; omega
      have hw1m : w.heap.size < w1.heap.size := by omega
      have HAV1 := hide hav1
      have HST1 := hide hst1
      clear g1 F1 hf1 hav1 hst1 CT q0 q1 q2 q3 q4 q5 q6
      by_cases he0 : out.e = 0
      · have HE0 := hide he0
        rw [he0]
        go_wp2_with fail
        go_roundw
        case rel =>
          obtain ⟨cur', k1, k2, k3, k4, k5⟩ := sets_heap w.heap.size 29 (0, 0) [.bool out.v.con, .int .i64 out.v.n, .slice p0 p1 p2] (i * 3) w1 cur G1.out (by simp; omega)
          have fa : Fr No (setsAt w1 w.heap.size (i * 3) [.bool out.v.con, .int .i64 out.v.n, .slice p0 p1 p2]) ((setsAt w1 w.heap.size (i * 3) [.bool out.v.con, .int .i64 out.v.n, .slice p0 p1 p2]).alloc (.cells #[.bool out.v.con, .int .i64 out.v.n, .slice p0 p1 p2] 29)) := (Fr.refl No _).alloc _
          have f1 : Fr (fun g => g = w.heap.size) w1 ((setsAt w1 w.heap.size (i * 3) [.bool out.v.con, .int .i64 out.v.n, .slice p0 p1 p2]).alloc (.cells #[.bool out.v.con, .int .i64 out.v.n, .slice p0 p1 p2] 29)) := k5.no fa
          refine ⟨i + 1, by omega, by go_num, (HF.out.trans HF1.out).trans' f1 (fun j hj e => by have e : j = w.heap.size := e; omega), cur', xs ++ [.bool out.v.con, .int .i64 out.v.n, .slice p0 p1 p2], vs ++ [out.v], out.c, fr_heap k1 fa (fun e => e), by omega, by simp [hxl]; omega, fun j hj => ?_, ?_, by simp [hvl], ?_, HST1.out.fr (T := fun g => g = w.heap.size) f1 (fun e => by have e : rb = w.heap.size := e; omega)⟩
          · by_cases hji : j < i * 3
            · rw [k3 j hji, HCUR.out j hji, List.getElem?_append_left (by omega)]
            · have := k4 (j - i * 3) (by simp; omega)
              rw [show i * 3 + (j - i * 3) = j by omega] at this
              rw [this, List.getElem?_append_right (by omega), hxl]
          · refine Each.snoc (n := 3) rfl ?_ ?_
            rotate_left
            · exact HEA.out.mono fun _ _ h => (h.kept (stays_fr HF1.out (fun g hg _ e => HS.out.out g hg.1 e) (fun _ h => h))).kept (stays_fr f1 (fun g hg _ e => hg.2 e) (fun _ h => h))
            · exact HAV1.out.kept (stays_fr f1 (fun g hg _ e => hg.2 e) (fun _ h => h))
          · rw [HOUT.out]
            exact HFAR.out.step hlt (by rw [← HOUT.out]; exact HE0.out)
        case measure => simp [intOf]; omega
      · have he0' : (out.e != 0) = true := by simpa using he0
        have HEV := hide (HFAR.out.err hlt (by rw [← HOUT.out]; exact he0))
        go_wp2_with fail
        go_ret2
        rw [HEV.out, ← HOUT.out]
        exact ⟨_, _, _, rfl, Vals.nil _ _, (HF.out.trans HF1.out).no ((Fr.refl No w1).alloc _), HST1.out.fr ((Fr.refl No w1).alloc _) (fun e => e)⟩
    · have hil : i = args.length := by omega
      subst hil
      have HEV := hide hfar.end
      obtain ⟨kk, hek⟩ := each_level (hea.mono fun _ _ h => h)
      have HV : Hid (Vals S wr (.slice (some ⟨w.heap.size, 0, none⟩) args.length args.length) vs) := by
        refine ⟨kk, xs, by omega, ⟨_, _, by rw [hvl], by omega, by unfold maxLen; omega, fun _ => ⟨_, _, rfl, HS.out.up _ (Nat.le_refl _), hbs, fun j hj => ?_⟩⟩, hek.mono fun _ _ h => h.kept ⟨Nat.le_refl _, fun g hg _ => ⟨hg.1, rfl⟩⟩⟩
        rw [cell_of_heap hg, Nat.zero_add]
        exact hcur j (by omega)
      have HF := hide hf
      have HST := hide hst
      clear hf hst hea hek hg hcur hfar
      go_wp2_with fail
      go_ret2
      rw [HEV.out]
      exact ⟨_, _, _, rfl, HV.out, HF.out, HST.out⟩
end Go.Proofs.YtdgmengfdfkgaabDoor
