/- 'term', walked. -/
import Derived.Test.YtdgmengfdfkgaabDoorE10
namespace Go.Proofs.YtdgmengfdfkgaabDoor
open Go.RowKit Go.Maps Go.WideMaps

/-- What 'call' does, where d calls go on. -/
def CallC (K B rb F d : Nat) (fv : Value) (l : List (Pu.Fn K)) (call : ByteArray → List Pu.V → Nat → Pu.Out) : Prop :=
  ∀ (S : Nat → Prop) (w : World) (x : ByteArray) (vv : Value) (vs : List Pu.V) (c : Nat), Good S rb B w → Vals S w vv vs → St rb fv F d c w → Fns K B w fv l →
    Calls Tryd.prog 31 #[.pointer (some ⟨rb, 0, none⟩), .string x, vv] w fun e w' => Ans S w' e (call x vs c).v (call x vs c).e ∧ Fr (· = rb) w w' ∧ St rb fv F d (call x vs c).c w'

theorem evPrim_c (p : Int) (vs : List Pu.V) (c : Nat) : (Pu.evPrim p vs c).c = c := by
  unfold Pu.evPrim
  split
  · split <;> rfl
  · rfl
theorem evPrim_kids (p : Int) (vs : List Pu.V) (c : Nat) : (Pu.evPrim p vs c).v.kids = [] := by
  unfold Pu.evPrim
  split
  · split
    · rfl
    · exact prim_kids _ _ _
  · rfl
theorem ev_1 {k : Nat} {call : ByteArray → List Pu.V → Nat → Pu.Out} {env : Pu.Env} {t : Pu.TT (k + 1)} {c : Nat} (h : Pu.Node.kind t = 1) : Pu.ev call (k + 1) env t c = ⟨(asked env (Pu.Node.name t)).1, (asked env (Pu.Node.name t)).2, c⟩ := by
  show Pu.evN call (Pu.ev call k) env t c = _
  unfold Pu.evN asked
  rw [if_pos h]
  cases env (Pu.Node.name t) <;> rfl
theorem ev_2 {k : Nat} {call : ByteArray → List Pu.V → Nat → Pu.Out} {env : Pu.Env} {t : Pu.TT (k + 1)} {c : Nat} (h : Pu.Node.kind t = 2) : Pu.ev call (k + 1) env t c = ⟨⟨false, Pu.Node.n t, []⟩, 0, c⟩ := by
  show Pu.evN call (Pu.ev call k) env t c = _
  unfold Pu.evN
  rw [if_neg (by omega), if_pos h]
theorem ev_6 {k : Nat} {call : ByteArray → List Pu.V → Nat → Pu.Out} {env : Pu.Env} {t : Pu.TT (k + 1)} {c : Nat} (h : Pu.Node.kind t = 6) : Pu.ev call (k + 1) env t c = Pu.evLet (Pu.ev call k) env (Pu.Node.name t) (Pu.Node.args t) c := by
  show Pu.evN call (Pu.ev call k) env t c = _
  unfold Pu.evN
  rw [if_neg (by omega), if_neg (by omega), if_pos h]
theorem ev_o {k : Nat} {call : ByteArray → List Pu.V → Nat → Pu.Out} {env : Pu.Env} {t : Pu.TT (k + 1)} {c : Nat} (h1 : ¬ Pu.Node.kind t = 1) (h2 : ¬ Pu.Node.kind t = 2) (h6 : ¬ Pu.Node.kind t = 6) : Pu.ev call (k + 1) env t c = Pu.evOf call (Pu.ev call k) env t (Pu.evL (Pu.ev call k env) (Pu.Node.args t) c) := by
  show Pu.evN call (Pu.ev call k) env t c = _
  unfold Pu.evN
  rw [if_neg h1, if_neg h2, if_neg h6]

set_option maxHeartbeats 4000000 in
theorem term_node (K k B rb F d : Nat) (fv : Value) (l : List (Pu.Fn K)) (call : ByteArray → List Pu.V → Nat → Pu.Out) (hT : TermC K k B rb F d fv l call) (hC : CallC K B rb F d fv l call) (hBr : B ≤ rb) : TermC K (k + 1) B rb F d fv l call := by
  intro S m w cs t kv env c hS ht hk hst hl hwt
  have hwa := wt_args t
  have hwn := wt_argsLen t
  have hwc := wt_cases t
  have ht0 := ht
  obtain ⟨vv, av, cv, acs, ccs, rfl, hxs, _, hvv, hr, he, hrc, hec⟩ := ht
  obtain ⟨va, vc, rfl, _⟩ := hvv.1.form
  obtain ⟨aa, ac, rfl, hac1, hac2⟩ := hr.form
  obtain ⟨ca, cc, rfl, _⟩ := hrc.form
  unfold maxLen at hac2
  have hrb := lt_of_heap hst.1
  have elet := ev_6 (call := call) (env := env) (t := t) (c := c)
  have evar := ev_1 (call := call) (env := env) (t := t) (c := c)
  have eint := ev_2 (call := call) (env := env) (t := t) (c := c)
  have eoth := ev_o (call := call) (env := env) (t := t) (c := c)
  obtain ⟨out, hout⟩ : ∃ out, out = Pu.ev call (k + 1) env t c := ⟨_, rfl⟩
  rw [← hout] at elet evar eint eoth ⊢
  have HLET : Hid (∀ W, Good (But S (w.heap.size + 1)) rb B W → Fr No w W → Calls Tryd.prog 69 #[.pointer (some ⟨rb, 0, none⟩), .agg #[.int .i64 (Pu.Node.kind t), .int .i64 (Pu.Node.n t), .string (Pu.Node.name t), .string (Pu.Node.token t), .slice va (Pu.Node.vars t).length vc, .slice aa (Pu.Node.args t).length ac, .slice ca (Pu.Node.cases t).length cc], kv] W fun e w' => Ans (But S (w.heap.size + 1)) w' e (Pu.evLet (Pu.ev call k) env (Pu.Node.name t) (Pu.Node.args t) c).v (Pu.evLet (Pu.ev call k) env (Pu.Node.name t) (Pu.Node.args t) c).e ∧ Fr (· = rb) W w' ∧ St rb fv F d (Pu.evLet (Pu.ev call k) env (Pu.Node.name t) (Pu.Node.args t) c).c w') := fun W hG hW =>
    let_any K k B rb F d fv l call hT hBr (But S (w.heap.size + 1)) m W _ t kv env c hG (RT.old ht0 (hW.old (by omega) (fun _ _ e => e)) hW.size) (hk.kept (hS.staysBut (hW.mono (fun _ _ e => e.elim)) (by omega))) (hst.fr hW (fun e => e)) (hl.old (hW.old (by omega) (fun _ _ e => e)) hW.size) hwt
  clear ht0
  obtain ⟨kind, tn, x, tok, vars, args, cases⟩ := t
  simp only at *
  have HT := hide hT
  have HC := hide hC
  have HS := hide hS
  have HK := hide hk
  have HST := hide hst
  have HL := hide hl
  have HR := hide hr
  have HE := hide he
  have HRC := hide hrc
  have HEC := hide hec
  have HVA := hide hwa
  have HVC : Hid (∀ a ∈ cases, Pu.wt k a.2.2 ≤ 1048576) := fun a ha => Nat.le_of_lt (Nat.lt_of_lt_of_le (hwc a ha) hwt)
  have EVAR := hide evar
  have EINT := hide eint
  have ELET := hide elet
  have EOTH := hide eoth
  clear hT hC hS hk hst hl hr he hrc hec hwa hwc evar eint elet eoth hout hvv
  have P0 : ∀ kd : Int, ∀ W0, W0 = (w.alloc (.cells #[.int .i64 kd, .int .i64 tn, .string x, .string tok, .slice va vars.length vc, .slice aa args.length ac, .slice ca cases.length cc] 38)).alloc (.cells #[.bool false, .int .i64 0, .slice none 0 0] 29) → Fr No w W0 ∧ W0.heap[w.heap.size]? = some (.cells #[.int .i64 kd, .int .i64 tn, .string x, .string tok, .slice va vars.length vc, .slice aa args.length ac, .slice ca cases.length cc] 38 (0, 0)) ∧ W0.heap[w.heap.size + 1]? = some (.cells #[.bool false, .int .i64 0, .slice none 0 0] 29 (0, 0)) ∧ Good (But S (w.heap.size + 1)) rb B W0 ∧ Stays S (But S (w.heap.size + 1)) w W0 ∧ Old B w W0 := by
    intro kd W0 hW0
    have f0 : Fr No w W0 := by rw [hW0]; exact ((Fr.refl No w).alloc _).alloc _
    have z1 : W0.heap[w.heap.size + 1]? = some (.cells #[.bool false, .int .i64 0, .slice none 0 0] 29 (0, 0)) := by
      have h := heap_alloc_new (w.alloc (.cells #[.int .i64 kd, .int .i64 tn, .string x, .string tok, .slice va vars.length vc, .slice aa args.length ac, .slice ca cases.length cc] 38)) (.cells #[.bool false, .int .i64 0, .slice none 0 0] 29)
      rw [World.size_alloc] at h
      rw [hW0]; exact h
    refine ⟨f0, by rw [hW0]; exact fr_heap (heap_alloc_new w _) ((Fr.refl No _).alloc _) (fun e => e), z1, HS.out.but f0.size (lt_of_heap z1) (by omega), HS.out.staysBut (f0.mono (fun _ _ e => e.elim)) (by omega), f0.old (by omega) (fun _ _ e => e)⟩
  show Calls Tryd.prog 52 #[.pointer (some ⟨rb, 0, none⟩), .agg #[.int .i64 kind, .int .i64 tn, .string x, .string tok, .slice va vars.length vc, .slice aa args.length ac, .slice ca cases.length cc], kv] w _
  by_cases h1 : kind = 1
  · subst h1
    obtain ⟨W0, hW0⟩ : ∃ W0, W0 = (w.alloc (.cells #[.int .i64 1, .int .i64 tn, .string x, .string tok, .slice va vars.length vc, .slice aa args.length ac, .slice ca cases.length cc] 38)).alloc (.cells #[.bool false, .int .i64 0, .slice none 0 0] 29) := ⟨_, rfl⟩
    obtain ⟨f0, z0, z1, g0, sb0, o0⟩ := P0 1 W0 hW0
    rw [EVAR.out rfl]
    have hkb := HK.out.kept sb0
    have HW0 := hide hW0
    have F0 := hide f0
    have Z1 := hide z1
    have G0 := hide g0
    clear hW0 f0 z0 z1 g0 sb0 o0 P0
    obtain ⟨an, han⟩ : ∃ an, an = asked env x := ⟨_, rfl⟩
    rw [← han]
    cases m with
    | zero =>
      obtain ⟨rfl, he0⟩ := HK.out
      have CN : Hid (Calls Tryd.prog 53 #[.string x] W0 fun e w' => Ans (But S (w.heap.size + 1)) w' e an.1 an.2 ∧ Fr No W0 w') := (nothing_any x W0).mono fun e w' ⟨he, hf⟩ => by
        have : an = (Pu.V.zero, 6) := by rw [han, he0]; rfl
        rw [this]
        exact ⟨Ans.told he rfl, hf⟩
      clear he0 hkb han
      go_enter Tryd.func52, Tryd.ntmps52
      go_wp2_with fail
      rw [← HW0.out]
      refine CN.out.mono ?_
      rintro e w1 ⟨⟨cs1, rfl, hav1⟩, hf1⟩
      obtain ⟨q0, q1, q2, rfl⟩ := hav1.tuple
      have g1 := fr_heap Z1.out hf1 (fun e => e)
      have G1' := hide g1
      have c1 := cell_of_heap g1
      have z1 := frozen_of_heap g1
      have hl1 := lt_of_heap g1
      have FX := hide (F0.out.trans hf1)
      have HAVX := hide hav1
      clear g1 hf1 hav1 CN
      go_wp2_with fail
      obtain ⟨s1, s2⟩ := set3 G1'.out (.bool an.1.con) (.int .i64 an.1.n) (.slice q0 q1 q2)
      refine bodyPost_ret (ret2 rfl _ _ (w.heap.size + 1) (.bool an.1.con) (.int .i64 an.1.n) (.slice q0 q1 q2) (.int .i64 an.2) (0, 0) rfl rfl s1) rfl ⟨⟨[.bool an.1.con, .int .i64 an.1.n, .slice q0 q1 q2], rfl, HAVX.out.shut s2⟩, ?_, ?_⟩
      · exact (FX.out.mono (fun _ _ e => e.elim)).trans' s2 (fun j hj e => by have e : j = w.heap.size + 1 := e; omega)
      · exact (HST.out.fr FX.out (fun e => e)).fr s2 (fun e => by have e : rb = w.heap.size + 1 := e; omega)
    | succ m =>
      obtain ⟨p1, p2, p3, hkv⟩ : ∃ p1 p2 p3, kv = .func (.func 73) #[] #[.pointer (some ⟨p1, 0, none⟩), .pointer (some ⟨p2, 0, none⟩), .pointer (some ⟨p3, 0, none⟩)] := by
        obtain ⟨p1, p2, p3, _, _, _, _, _, _, h, _⟩ := HK.out
        exact ⟨p1, p2, p3, h⟩
      subst hkv
      have CN : Hid (Calls Tryd.prog 73 #[.string x, .pointer (some ⟨p1, 0, none⟩), .pointer (some ⟨p2, 0, none⟩), .pointer (some ⟨p3, 0, none⟩)] W0 fun e w' => Ans (But S (w.heap.size + 1)) w' e an.1 an.2 ∧ Fr No W0 w') := by
        rw [han]
        exact known_any m _ W0 p1 p2 p3 env x G0.out.up hkb
      clear hkb han
      go_enter Tryd.func52, Tryd.ntmps52
      go_wp2_with fail
      rw [← HW0.out]
      refine CN.out.mono ?_
      rintro e w1 ⟨⟨cs1, rfl, hav1⟩, hf1⟩
      obtain ⟨q0, q1, q2, rfl⟩ := hav1.tuple
      have g1 := fr_heap Z1.out hf1 (fun e => e)
      have G1' := hide g1
      have c1 := cell_of_heap g1
      have z1 := frozen_of_heap g1
      have hl1 := lt_of_heap g1
      have FX := hide (F0.out.trans hf1)
      have HAVX := hide hav1
      clear g1 hf1 hav1 CN
      go_wp2_with fail
      obtain ⟨s1, s2⟩ := set3 G1'.out (.bool an.1.con) (.int .i64 an.1.n) (.slice q0 q1 q2)
      refine bodyPost_ret (ret2 rfl _ _ (w.heap.size + 1) (.bool an.1.con) (.int .i64 an.1.n) (.slice q0 q1 q2) (.int .i64 an.2) (0, 0) rfl rfl s1) rfl ⟨⟨[.bool an.1.con, .int .i64 an.1.n, .slice q0 q1 q2], rfl, HAVX.out.shut s2⟩, ?_, ?_⟩
      · exact (FX.out.mono (fun _ _ e => e.elim)).trans' s2 (fun j hj e => by have e : j = w.heap.size + 1 := e; omega)
      · exact (HST.out.fr FX.out (fun e => e)).fr s2 (fun e => by have e : rb = w.heap.size + 1 := e; omega)
  by_cases h2 : kind = 2
  · subst h2
    obtain ⟨W0, hW0⟩ : ∃ W0, W0 = (w.alloc (.cells #[.int .i64 2, .int .i64 tn, .string x, .string tok, .slice va vars.length vc, .slice aa args.length ac, .slice ca cases.length cc] 38)).alloc (.cells #[.bool false, .int .i64 tn, .slice none 0 0] 29) := ⟨_, rfl⟩
    have f0 : Fr No w W0 := by rw [hW0]; exact ((Fr.refl No w).alloc _).alloc _
    have z1 : W0.heap[w.heap.size + 1]? = some (.cells #[.bool false, .int .i64 tn, .slice none 0 0] 29 (0, 0)) := by
      have h := heap_alloc_new (w.alloc (.cells #[.int .i64 2, .int .i64 tn, .string x, .string tok, .slice va vars.length vc, .slice aa args.length ac, .slice ca cases.length cc] 38)) (.cells #[.bool false, .int .i64 tn, .slice none 0 0] 29)
      rw [World.size_alloc] at h
      rw [hW0]; exact h
    rw [EINT.out rfl]
    have HW0 := hide hW0
    have F0 := hide f0
    have Z1 := hide z1
    clear hW0 f0 z1 P0
    go_enter Tryd.func52, Tryd.ntmps52
    go_wp2_with fail
    rw [← HW0.out]
    refine bodyPost_ret (ret2 rfl _ _ (w.heap.size + 1) (.bool false) (.int .i64 tn) (.slice none 0 0) (.int .i64 0) (0, 0) rfl rfl Z1.out) rfl ⟨Ans.told rfl rfl, F0.out.mono (fun _ _ e => e.elim), HST.out.fr F0.out (fun e => e)⟩
  by_cases h6 : kind = 6
  · subst h6
    obtain ⟨W0, hW0⟩ : ∃ W0, W0 = (w.alloc (.cells #[.int .i64 6, .int .i64 tn, .string x, .string tok, .slice va vars.length vc, .slice aa args.length ac, .slice ca cases.length cc] 38)).alloc (.cells #[.bool false, .int .i64 0, .slice none 0 0] 29) := ⟨_, rfl⟩
    obtain ⟨f0, z0, z1, g0, sb0, o0⟩ := P0 6 W0 hW0
    have CL := HLET.out W0 g0 f0
    have e6 := ELET.out rfl
    rw [← e6] at CL
    have HCL := hide CL
    have HW0 := hide hW0
    have F0 := hide f0
    have Z1 := hide z1
    clear hW0 f0 z0 z1 g0 sb0 o0 P0 CL e6 HLET
    go_enter Tryd.func52, Tryd.ntmps52
    go_wp2_with fail
    rw [← HW0.out]
    refine HCL.out.mono ?_
    rintro e w1 ⟨⟨cs1, rfl, hav1⟩, hfx, hstx⟩
    obtain ⟨p0, p1, p2, rfl⟩ := hav1.tuple
    have g1 := fr_heap Z1.out hfx (fun e => by have e : w.heap.size + 1 = rb := e; omega)
    have G1' := hide g1
    have c1 := cell_of_heap g1
    have z1 := frozen_of_heap g1
    have hl1 := lt_of_heap g1
    have FX := hide hfx
    have HSTX := hide hstx
    have HAVX := hide hav1
    clear g1 hfx hstx hav1
    go_wp2_with fail
    obtain ⟨s1, s2⟩ := set3 G1'.out (.bool out.v.con) (.int .i64 out.v.n) (.slice p0 p1 p2)
    refine bodyPost_ret (ret2 rfl _ _ (w.heap.size + 1) (.bool out.v.con) (.int .i64 out.v.n) (.slice p0 p1 p2) (.int .i64 out.e) (0, 0) rfl rfl s1) rfl ⟨⟨[.bool out.v.con, .int .i64 out.v.n, .slice p0 p1 p2], rfl, HAVX.out.shut s2⟩, ?_, ?_⟩
    · exact ((F0.out.mono (fun _ _ e => e.elim)).trans FX.out).trans' s2 (fun j hj e => by have e : j = w.heap.size + 1 := e; omega)
    · exact HSTX.out.fr s2 (fun e => by have e : rb = w.heap.size + 1 := e; omega)
  have EO := hide (EOTH.out h1 h2 h6)
  obtain ⟨W0, hW0⟩ : ∃ W0, W0 = (w.alloc (.cells #[.int .i64 kind, .int .i64 tn, .string x, .string tok, .slice va vars.length vc, .slice aa args.length ac, .slice ca cases.length cc] 38)).alloc (.cells #[.bool false, .int .i64 0, .slice none 0 0] 29) := ⟨_, rfl⟩
  obtain ⟨f0, z0, z1, g0, sb0, o0⟩ := P0 kind W0 hW0
  obtain ⟨rs, hrs⟩ : ∃ rs, rs = Pu.evL (Pu.ev call k env) args c := ⟨_, rfl⟩
  have CT : Hid (Calls Tryd.prog 70 #[.pointer (some ⟨rb, 0, none⟩), .slice aa args.length ac, kv] W0 fun e w' => ∃ a n cp, e = .returned (.tuple #[.slice a n cp, .int .i64 rs.2.1]) ∧ Vals (But S (w.heap.size + 1)) w' (.slice a n cp) rs.1 ∧ Fr (· = rb) W0 w' ∧ St rb fv F d rs.2.2 w') := by
    rw [hrs]
    exact terms_any K k B rb F d fv l call HT.out hBr (But S (w.heap.size + 1)) m W0 _ acs args kv env c g0 (HR.out.old o0 f0.size) (args_old HE.out o0 f0.size) (HK.out.kept sb0) (HST.out.fr f0 (fun e => e)) (HL.out.old o0 f0.size) (by omega) (fun i h => by have := HVA.out _ (List.getElem_mem h); omega)
  rw [← hrs] at EO
  have HW0 := hide hW0
  have F0 := hide f0
  have Z0 := hide z0
  have Z1 := hide z1
  have G0 := hide g0
  have SB0 := hide sb0
  have O0 := hide o0
  clear hW0 f0 z0 z1 g0 sb0 o0 P0 hrs HLET ELET EVAR EINT EOTH hwn hwt hxs
  have h1' : (kind == 1) = false := by simpa using h1
  by_cases he0 : rs.2.1 = 0
  rotate_left
  · have eo : out = ⟨Pu.V.zero, rs.2.1, rs.2.2⟩ := by rw [EO.out]; exact if_neg he0
    rw [eo]
    clear eo EO
    have he0' : (rs.2.1 != 0) = true := by simpa using he0
    go_enter Tryd.func52, Tryd.ntmps52
    go_wp2_with fail
    rw [← HW0.out]
    refine CT.out.mono ?_
    rintro e w1 ⟨a, n2, cp, rfl, _, hf1, hst1⟩
    have g1 := fr_heap Z1.out hf1 (fun e => by have e : w.heap.size + 1 = rb := e; omega)
    have G1 := hide g1
    have F1 := hide ((F0.out.mono (fun _ _ e => e.elim)).trans hf1)
    have HST1 := hide hst1
    have r0 := cell_of_heap g1
    have rz := frozen_of_heap g1
    have hl1 := lt_of_heap g1
    clear g1 hf1 hst1 CT
    go_wp2_with fail
    obtain ⟨s1, s2⟩ := set3 G1.out (.bool false) (.int .i64 0) (.slice none 0 0)
    refine bodyPost_ret (ret2 rfl _ _ (w.heap.size + 1) (.bool false) (.int .i64 0) (.slice none 0 0) (.int .i64 rs.2.1) (0, 0) rfl rfl s1) rfl ⟨Ans.told rfl rfl, ?_, ?_⟩
    · exact F1.out.trans' s2 (fun j hj e => by have e : j = w.heap.size + 1 := e; omega)
    · exact HST1.out.fr s2 (fun e => by have e : rb = w.heap.size + 1 := e; omega)
  rw [he0] at CT
  by_cases h3 : kind = 3
  · subst h3
    have eo : out = ⟨⟨true, tn, rs.1⟩, 0, rs.2.2⟩ := by rw [EO.out]; unfold Pu.evOf; rw [if_pos he0, if_pos rfl]
    rw [eo]
    clear EO eo h1 h2 h6
    go_enter Tryd.func52, Tryd.ntmps52
    go_wp2_with fail
    rw [← HW0.out]
    refine CT.out.mono ?_
    rintro e w1 ⟨a, n2, cp, rfl, hv1, hf1, hst1⟩
    have g0 := fr_heap Z0.out hf1 (fun e => by have e : w.heap.size = rb := e; omega)
    have g1 := fr_heap Z1.out hf1 (fun e => by have e : w.heap.size + 1 = rb := e; omega)
    have G1 := hide g1
    have f01 := (F0.out.mono (fun _ _ e => e.elim)).trans hf1
    have F1 := hide f01
    have HST1 := hide hst1
    have HV1 := hide hv1
    have gd1 := G0.out.fr hf1
    have k0 := cell_of_heap g0
    have r0 := cell_of_heap g1
    have rz := frozen_of_heap g1
    have hl0 := lt_of_heap g0
    have hl1 := lt_of_heap g1
    clear g0 g1 hf1 hst1 hv1 f01 gd1 CT
    go_wp2_with fail
    obtain ⟨s1, s2⟩ := set3 G1.out (.bool true) (.int .i64 tn) (.slice a n2 cp)
    refine bodyPost_ret (ret2 rfl _ _ (w.heap.size + 1) (.bool true) (.int .i64 tn) (.slice a n2 cp) (.int .i64 0) (0, 0) rfl rfl s1) rfl ⟨⟨[.bool true, .int .i64 tn, .slice a n2 cp], rfl, (AV.con HV1.out tn).shut s2⟩, ?_, ?_⟩
    · exact F1.out.trans' s2 (fun j hj e => by have e : j = w.heap.size + 1 := e; omega)
    · exact HST1.out.fr s2 (fun e => by have e : rb = w.heap.size + 1 := e; omega)
  by_cases h4 : kind = 4
  · subst h4
    have eo : out = call x rs.1 rs.2.2 := by rw [EO.out]; unfold Pu.evOf; rw [if_pos he0, if_neg (show ¬ (4 : Int) = 3 by decide), if_pos rfl]
    have HEO := hide eo
    clear EO eo h1 h2 h6
    go_enter Tryd.func52, Tryd.ntmps52
    go_wp2_with fail
    rw [← HW0.out]
    refine CT.out.mono ?_
    rintro e w1 ⟨a, n2, cp, rfl, hv1, hf1, hst1⟩
    have g0 := fr_heap Z0.out hf1 (fun e => by have e : w.heap.size = rb := e; omega)
    have g1 := fr_heap Z1.out hf1 (fun e => by have e : w.heap.size + 1 = rb := e; omega)
    have G1 := hide g1
    have f01 := (F0.out.mono (fun _ _ e => e.elim)).trans hf1
    have F1 := hide f01
    have HST1 := hide hst1
    have HV1 := hide hv1
    have gd1 := G0.out.fr hf1
    have k0 := cell_of_heap g0
    have r0 := cell_of_heap g1
    have rz := frozen_of_heap g1
    have hl0 := lt_of_heap g0
    have hl1 := lt_of_heap g1
    have CC : Hid (Calls Tryd.prog 31 #[.pointer (some ⟨rb, 0, none⟩), .string x, .slice a n2 cp] w1 fun e w' => Ans (But S (w.heap.size + 1)) w' e out.v out.e ∧ Fr (· = rb) w1 w' ∧ St rb fv F d out.c w') := by
      rw [HEO.out]
      exact HC.out (But S (w.heap.size + 1)) w1 x _ rs.1 rs.2.2 gd1 hv1 hst1 (HL.out.old (old_rb f01 hBr hrb) f01.size)
    clear g0 g1 hf1 hst1 hv1 f01 gd1 CT
    go_wp2_with fail
    refine CC.out.mono ?_
    clear k0 r0 rz CC
    rintro e w2 ⟨⟨cs1, rfl, hav1⟩, hfx, hstx⟩
    obtain ⟨p0, p1, p2, rfl⟩ := hav1.tuple
    have g1 := fr_heap G1.out hfx (fun e => by have e : w.heap.size + 1 = rb := e; omega)
    have G1' := hide g1
    have c1 := cell_of_heap g1
    have z1 := frozen_of_heap g1
    have hl1 := lt_of_heap g1
    have FX := hide hfx
    have HSTX := hide hstx
    have HAVX := hide hav1
    clear g1 hfx hstx hav1
    go_wp2_with fail
    obtain ⟨s1, s2⟩ := set3 G1'.out (.bool out.v.con) (.int .i64 out.v.n) (.slice p0 p1 p2)
    refine bodyPost_ret (ret2 rfl _ _ (w.heap.size + 1) (.bool out.v.con) (.int .i64 out.v.n) (.slice p0 p1 p2) (.int .i64 out.e) (0, 0) rfl rfl s1) rfl ⟨⟨[.bool out.v.con, .int .i64 out.v.n, .slice p0 p1 p2], rfl, HAVX.out.shut s2⟩, ?_, ?_⟩
    · exact (F1.out.trans FX.out).trans' s2 (fun j hj e => by have e : j = w.heap.size + 1 := e; omega)
    · exact HSTX.out.fr s2 (fun e => by have e : rb = w.heap.size + 1 := e; omega)
  by_cases h5 : kind = 5
  · subst h5
    have eo : out = Pu.evPrim tn rs.1 rs.2.2 := by rw [EO.out]; unfold Pu.evOf; rw [if_pos he0, if_neg (show ¬ (5 : Int) = 3 by decide), if_neg (show ¬ (5 : Int) = 4 by decide), if_pos rfl]
    have HEO := hide eo
    have hoc : out.c = rs.2.2 := by rw [eo]; exact evPrim_c _ _ _
    have hok : out.v.kids = [] := by rw [eo]; exact evPrim_kids _ _ _
    have HOC := hide hoc
    have HOK := hide hok
    clear EO eo h1 h2 h6 hoc hok
    go_enter Tryd.func52, Tryd.ntmps52
    go_wp2_with fail
    rw [← HW0.out]
    refine CT.out.mono ?_
    rintro e w1 ⟨a, n2, cp, rfl, hv1, hf1, hst1⟩
    have g0 := fr_heap Z0.out hf1 (fun e => by have e : w.heap.size = rb := e; omega)
    have g1 := fr_heap Z1.out hf1 (fun e => by have e : w.heap.size + 1 = rb := e; omega)
    have G1 := hide g1
    have f01 := (F0.out.mono (fun _ _ e => e.elim)).trans hf1
    have F1 := hide f01
    have HST1 := hide hst1
    have HV1 := hide hv1
    have gd1 := G0.out.fr hf1
    have k0 := cell_of_heap g0
    have r0 := cell_of_heap g1
    have rz := frozen_of_heap g1
    have hl0 := lt_of_heap g0
    have hl1 := lt_of_heap g1
    have CC : Hid (Calls Tryd.prog 71 #[.int .i64 tn, .slice a n2 cp] w1 fun e w' => Ans (But S (w.heap.size + 1)) w' e out.v out.e ∧ Fr (· = rb) w1 w' ∧ St rb fv F d out.c w') := by
      refine (evprim_any tn _ rs.1 (But S (w.heap.size + 1)) rs.2.2 w1 hv1).mono ?_
      rintro e w' ⟨he, hf⟩
      rw [← HEO.out] at he
      exact ⟨Ans.told he HOK.out, hf.mono (fun _ _ e => e.elim), by rw [HOC.out]; exact hst1.fr hf (fun e => e)⟩
    clear g0 g1 hf1 hst1 hv1 f01 gd1 CT
    go_wp2_with fail
    refine CC.out.mono ?_
    clear k0 r0 rz CC
    rintro e w2 ⟨⟨cs1, rfl, hav1⟩, hfx, hstx⟩
    obtain ⟨p0, p1, p2, rfl⟩ := hav1.tuple
    have g1 := fr_heap G1.out hfx (fun e => by have e : w.heap.size + 1 = rb := e; omega)
    have G1' := hide g1
    have c1 := cell_of_heap g1
    have z1 := frozen_of_heap g1
    have hl1 := lt_of_heap g1
    have FX := hide hfx
    have HSTX := hide hstx
    have HAVX := hide hav1
    clear g1 hfx hstx hav1
    go_wp2_with fail
    obtain ⟨s1, s2⟩ := set3 G1'.out (.bool out.v.con) (.int .i64 out.v.n) (.slice p0 p1 p2)
    refine bodyPost_ret (ret2 rfl _ _ (w.heap.size + 1) (.bool out.v.con) (.int .i64 out.v.n) (.slice p0 p1 p2) (.int .i64 out.e) (0, 0) rfl rfl s1) rfl ⟨⟨[.bool out.v.con, .int .i64 out.v.n, .slice p0 p1 p2], rfl, HAVX.out.shut s2⟩, ?_, ?_⟩
    · exact (F1.out.trans FX.out).trans' s2 (fun j hj e => by have e : j = w.heap.size + 1 := e; omega)
    · exact HSTX.out.fr s2 (fun e => by have e : rb = w.heap.size + 1 := e; omega)
  by_cases h7 : kind = 7
  · subst h7
    have eo : out = Pu.evMatch (Pu.ev call k) env cases rs.1 rs.2.2 := by rw [EO.out]; unfold Pu.evOf; rw [if_pos he0, if_neg (show ¬ (7 : Int) = 3 by decide), if_neg (show ¬ (7 : Int) = 4 by decide), if_neg (show ¬ (7 : Int) = 5 by decide), if_pos rfl]
    have HEO := hide eo
    clear EO eo h1 h2 h6
    go_enter Tryd.func52, Tryd.ntmps52
    go_wp2_with fail
    rw [← HW0.out]
    refine CT.out.mono ?_
    rintro e w1 ⟨a, n2, cp, rfl, hv1, hf1, hst1⟩
    have g0 := fr_heap Z0.out hf1 (fun e => by have e : w.heap.size = rb := e; omega)
    have g1 := fr_heap Z1.out hf1 (fun e => by have e : w.heap.size + 1 = rb := e; omega)
    have G1 := hide g1
    have f01 := (F0.out.mono (fun _ _ e => e.elim)).trans hf1
    have F1 := hide f01
    have HST1 := hide hst1
    have HV1 := hide hv1
    have gd1 := G0.out.fr hf1
    have k0 := cell_of_heap g0
    have r0 := cell_of_heap g1
    have rz := frozen_of_heap g1
    have hl0 := lt_of_heap g0
    have hl1 := lt_of_heap g1
    have CC : Hid (Calls Tryd.prog 72 #[.pointer (some ⟨rb, 0, none⟩), .slice a n2 cp, .slice ca cases.length cc, kv] w1 fun e w' => Ans (But S (w.heap.size + 1)) w' e out.v out.e ∧ Fr (· = rb) w1 w' ∧ St rb fv F d out.c w') := by
      rw [HEO.out]
      exact match_any K k B rb F d fv l call HT.out hBr (But S (w.heap.size + 1)) m w1 _ _ rs.1 ccs cases kv env rs.2.2 gd1 hv1 (HRC.out.old (old_rb f01 hBr hrb) f01.size) (cases_old HEC.out (old_rb f01 hBr hrb) f01.size) ((HK.out.kept SB0.out).kept (G0.out.stays hf1)) hst1 (HL.out.old (old_rb f01 hBr hrb) f01.size) HVC.out
    clear g0 g1 hf1 hst1 hv1 f01 gd1 CT
    go_wp2_with fail
    refine CC.out.mono ?_
    clear k0 r0 rz CC
    rintro e w2 ⟨⟨cs1, rfl, hav1⟩, hfx, hstx⟩
    obtain ⟨p0, p1, p2, rfl⟩ := hav1.tuple
    have g1 := fr_heap G1.out hfx (fun e => by have e : w.heap.size + 1 = rb := e; omega)
    have G1' := hide g1
    have c1 := cell_of_heap g1
    have z1 := frozen_of_heap g1
    have hl1 := lt_of_heap g1
    have FX := hide hfx
    have HSTX := hide hstx
    have HAVX := hide hav1
    clear g1 hfx hstx hav1
    go_wp2_with fail
    obtain ⟨s1, s2⟩ := set3 G1'.out (.bool out.v.con) (.int .i64 out.v.n) (.slice p0 p1 p2)
    refine bodyPost_ret (ret2 rfl _ _ (w.heap.size + 1) (.bool out.v.con) (.int .i64 out.v.n) (.slice p0 p1 p2) (.int .i64 out.e) (0, 0) rfl rfl s1) rfl ⟨⟨[.bool out.v.con, .int .i64 out.v.n, .slice p0 p1 p2], rfl, HAVX.out.shut s2⟩, ?_, ?_⟩
    · exact (F1.out.trans FX.out).trans' s2 (fun j hj e => by have e : j = w.heap.size + 1 := e; omega)
    · exact HSTX.out.fr s2 (fun e => by have e : rb = w.heap.size + 1 := e; omega)
  have eo : out = ⟨Pu.V.zero, 1, rs.2.2⟩ := by rw [EO.out]; unfold Pu.evOf; rw [if_pos he0, if_neg h3, if_neg h4, if_neg h5, if_neg h7]
  rw [eo]
  clear EO eo
  go_enter Tryd.func52, Tryd.ntmps52
  go_wp2_with fail
  rw [← HW0.out]
  refine CT.out.mono ?_
  rintro e w1 ⟨a, n2, cp, rfl, hv1, hf1, hst1⟩
  have g0 := fr_heap Z0.out hf1 (fun e => by have e : w.heap.size = rb := e; omega)
  have g1 := fr_heap Z1.out hf1 (fun e => by have e : w.heap.size + 1 = rb := e; omega)
  have G1 := hide g1
  have f01 := (F0.out.mono (fun _ _ e => e.elim)).trans hf1
  have F1 := hide f01
  have HST1 := hide hst1
  have HV1 := hide hv1
  have gd1 := G0.out.fr hf1
  have k0 := cell_of_heap g0
  have r0 := cell_of_heap g1
  have rz := frozen_of_heap g1
  have hl0 := lt_of_heap g0
  have hl1 := lt_of_heap g1
  clear g0 g1 hf1 hst1 hv1 f01 gd1 CT
  go_wp2_with fail
  obtain ⟨s1, s2⟩ := set3 G1.out (.bool false) (.int .i64 0) (.slice none 0 0)
  refine bodyPost_ret (ret2 rfl _ _ (w.heap.size + 1) (.bool false) (.int .i64 0) (.slice none 0 0) (.int .i64 1) (0, 0) rfl rfl s1) rfl ⟨Ans.told rfl rfl, ?_, ?_⟩
  · exact F1.out.trans' s2 (fun j hj e => by have e : j = w.heap.size + 1 := e; omega)
  · exact HST1.out.fr s2 (fun e => by have e : rb = w.heap.size + 1 := e; omega)
end Go.Proofs.YtdgmengfdfkgaabDoor

/- 'call', walked; all levels. -/
namespace Go.Proofs.YtdgmengfdfkgaabDoor
open Go.RowKit Go.Maps Go.WideMaps

theorem term_all (K B rb F d : Nat) (fv : Value) (l : List (Pu.Fn K)) (call : ByteArray → List Pu.V → Nat → Pu.Out) (hC : CallC K B rb F d fv l call) (hBr : B ≤ rb) : ∀ k, TermC K k B rb F d fv l call
  | 0 => fun _ _ _ _ _ _ _ _ _ h => h.elim
  | k + 1 => term_node K k B rb F d fv l call (term_all K B rb F d fv l call hC hBr k) hC hBr

theorem call_none {K F D : Nat} {l : List (Pu.Fn K)} {x : ByteArray} {vs : List Pu.V} {c : Nat} (h : Pu.pick l x vs.length = none) : Pu.call l F D x vs c = ⟨Pu.V.zero, 6, c⟩ := by
  cases D <;> simp only [Pu.call, h]
theorem call_fuel {K F D : Nat} {l : List (Pu.Fn K)} {x : ByteArray} {vs : List Pu.V} {c : Nat} {f : Pu.Fn K} (h : Pu.pick l x vs.length = some f) (hc : F ≤ c) : Pu.call l F D x vs c = ⟨Pu.V.zero, 12, c⟩ := by
  cases D <;> simp only [Pu.call, h, if_pos hc]
theorem call_deep {K F : Nat} {l : List (Pu.Fn K)} {x : ByteArray} {vs : List Pu.V} {c : Nat} {f : Pu.Fn K} (h : Pu.pick l x vs.length = some f) (hc : ¬ F ≤ c) : Pu.call l F 0 x vs c = ⟨Pu.V.zero, 9, c⟩ := by
  simp only [Pu.call, h, if_neg hc]
theorem call_some {K F D : Nat} {l : List (Pu.Fn K)} {x : ByteArray} {vs : List Pu.V} {c : Nat} {f : Pu.Fn K} (h : Pu.pick l x vs.length = some f) (hc : ¬ F ≤ c) : Pu.call l F (D + 1) x vs c = Pu.ev (Pu.call l F D) K (Pu.noEnv.bind f.2.1 vs) f.2.2 (c + 1) := by
  simp only [Pu.call, h, if_neg hc]

/-- What 'call' has laid ahead. -/
structure Ahead (w W : World) (x : ByteArray) (a : Option Addr) (n cp : Nat) : Prop where
  fr : Fr No w W
  nb : W.heap[w.heap.size]? = some (.cells #[.string x] 9 (0, 0))
  ab : W.heap[w.heap.size + 1]? = some (.cells #[.slice a n cp] 27 (0, 0))
  rs : W.heap[w.heap.size + 1 + 1]? = some (.cells #[.bool false, .int .i64 0, .slice none 0 0] 29 (0, 0))
theorem Ahead.no {w W W' : World} {x : ByteArray} {a : Option Addr} {n cp : Nat} (h : Ahead w W x a n cp) (hf : Fr No W W') : Ahead w W' x a n cp :=
  ⟨h.fr.trans hf, fr_heap h.nb hf (fun e => e), fr_heap h.ab hf (fun e => e), fr_heap h.rs hf (fun e => e)⟩
theorem ahead_new (w : World) (x : ByteArray) (a : Option Addr) (n cp : Nat) : Ahead w (((w.alloc (.cells #[.string x] 9)).alloc (.cells #[.slice a n cp] 27)).alloc (.cells #[.bool false, .int .i64 0, .slice none 0 0] 29)) x a n cp := by
  refine ⟨(((Fr.refl No w).alloc _).alloc _).alloc _, fr_heap (heap_alloc_new w _) (((Fr.refl No _).alloc _).alloc _) (fun e => e), ?_, ?_⟩
  · have h := heap_alloc_new (w.alloc (.cells #[.string x] 9)) (.cells #[.slice a n cp] 27)
    rw [World.size_alloc] at h
    exact fr_heap h ((Fr.refl No _).alloc _) (fun e => e)
  · have h := heap_alloc_new ((w.alloc (.cells #[.string x] 9)).alloc (.cells #[.slice a n cp] 27)) (.cells #[.bool false, .int .i64 0, .slice none 0 0] 29)
    rw [World.size_alloc, World.size_alloc] at h
    exact h

theorem set2 {w : World} {g : Nat} {x0 x1 x2 x3 : Value} {t : TypeId} {z : Nat × Nat} (h : w.heap[g]? = some (.cells #[x0, x1, x2, x3] t z)) (u2 u3 : Value) :
    ((w.setCell ⟨g, 2, none⟩ u2).setCell ⟨g, 3, none⟩ u3).heap[g]? = some (.cells #[x0, x1, u2, u3] t z) ∧ Fr (· = g) w ((w.setCell ⟨g, 2, none⟩ u2).setCell ⟨g, 3, none⟩ u3) :=
  ⟨by simp [World.setCell, Array.getElem?_modify, h], ((Fr.refl (· = g) w).setCell (p := ⟨g, 2, none⟩) (.inl rfl) u2).setCell (p := ⟨g, 3, none⟩) (.inl rfl) u3⟩
theorem set1 {w : World} {g : Nat} {x0 x1 x2 x3 : Value} {t : TypeId} {z : Nat × Nat} (h : w.heap[g]? = some (.cells #[x0, x1, x2, x3] t z)) (u3 : Value) :
    (w.setCell ⟨g, 3, none⟩ u3).heap[g]? = some (.cells #[x0, x1, x2, u3] t z) ∧ Fr (· = g) w (w.setCell ⟨g, 3, none⟩ u3) :=
  ⟨by simp [World.setCell, Array.getElem?_modify, h], (Fr.refl (· = g) w).setCell (p := ⟨g, 3, none⟩) (.inl rfl) u3⟩

set_option maxHeartbeats 4000000 in
theorem call_node (K B rb F d D : Nat) (fv : Value) (l : List (Pu.Fn K)) (hd : d + D = 40) (hF : F ≤ 300) (hBr : B ≤ rb) (hwl : ∀ f ∈ l, Pu.wt K f.2.2 ≤ 1048576)
    (ih : ∀ D', D = D' + 1 → TermC K K B rb F (d + 1) fv l (Pu.call l F D')) : CallC K B rb F d fv l (Pu.call l F D) := by
  intro S w x vv vs c hS hv hst hl
  obtain ⟨a, cp, rfl, _⟩ := hv.form
  obtain ⟨fa, fc, rfl, hfc1, hfc2⟩ : ∃ a cap, fv = .slice a l.length cap ∧ l.length ≤ cap ∧ cap ≤ maxLen := by obtain ⟨acs, hr, _⟩ := hl; exact hr.form
  unfold maxLen at hfc2
  have hrb := lt_of_heap hst.1
  have hcF := hst.2
  obtain ⟨W0, hW0⟩ : ∃ W0, W0 = ((w.alloc (.cells #[.string x] 9)).alloc (.cells #[.slice a vs.length cp] 27)).alloc (.cells #[.bool false, .int .i64 0, .slice none 0 0] 29) := ⟨_, rfl⟩
  have a0 : Ahead w W0 x a vs.length cp := by rw [hW0]; exact ahead_new w x a vs.length cp
  have CI : Hid (Calls Tryd.prog 50 #[.slice fa l.length fc, .func (.func 51) #[] #[.pointer (some ⟨w.heap.size, 0, none⟩), .pointer (some ⟨w.heap.size + 1, 0, none⟩)]] W0 fun e w' => e = .returned (.int .i64 (placeInt (pickAt l x vs.length))) ∧ Fr No W0 w') :=
    indexFns_any K B _ l w.heap.size (w.heap.size + 1) x a vs.length cp W0 (hl.old (a0.fr.old (by omega) (fun _ _ e => e)) a0.fr.size) a0.nb a0.ab
  have hmf : ∀ (fn : Fn) (first cap : Array Value) (w : World), (Instr.makeFunc fn first cap).run Tryd.prog w = .ok (.func fn first cap) w := fun _ _ _ _ => rfl
  have b0 : (((w.alloc (.cells #[.string x] 9)).alloc (.cells #[.slice a vs.length cp] 27)).alloc (.cells #[.bool false, .int .i64 0, .slice none 0 0] 29)).cell? ⟨rb, 0, none⟩ = some (.slice fa l.length fc) := by
    rw [← hW0]; exact cell_of_heap (fr_heap hst.1 a0.fr (fun e => e)) 0
  have HW0 := hide hW0
  have A0 := hide a0
  have HST := hide hst
  have HS := hide hS
  have HV := hide hv
  have HL := hide hl
  have HIH := hide ih
  have HD := hide hd
  have HF300 := hide hF
  have HWL := hide hwl
  clear hW0 a0 hst hS hv hl ih hwl hd hF
  cases hp : pickAt l x vs.length with
  | none =>
    rw [hp] at CI
    rw [call_none (pick_none hp)]
    simp only [placeInt] at CI ⊢
    clear hp
    go_enter Tryd.func31, Tryd.ntmps31
    go_wp2_with fail
    rw [← HW0.out]
    clear b0
    refine CI.out.mono ?_
    rintro e w1 ⟨rfl, hf1⟩
    have a1 := A0.out.no hf1
    have A1 := hide a1
    have r0 := cell_of_heap a1.rs
    have rz := frozen_of_heap a1.rs
    have hl0 := lt_of_heap a1.rs
    clear CI hf1 a1
    go_wp2_with fail
    obtain ⟨s1, s2⟩ := set3 A1.out.rs (.bool false) (.int .i64 0) (.slice none 0 0)
    refine bodyPost_ret (ret2 rfl _ _ (w.heap.size + 1 + 1) (.bool false) (.int .i64 0) (.slice none 0 0) (.int .i64 6) (0, 0) rfl rfl s1) rfl ⟨Ans.told rfl rfl, ?_, ?_⟩
    · exact (A1.out.fr.mono (fun _ _ e => e.elim)).trans' s2 (fun j hj e => by have e : j = w.heap.size + 1 + 1 := e; omega)
    · exact (HST.out.fr A1.out.fr (fun e => e)).fr s2 (fun e => by have e : rb = w.heap.size + 1 + 1 := e; omega)
  | some i =>
    obtain ⟨hi, hpick, hnm1, hnm2⟩ := pick_at hp
    rw [hp] at CI
    simp only [placeInt] at CI
    have i1 : (i : Int) < (l.length : Int) := by omega
    have i0 : (0 : Int) ≤ (i : Int) := by omega
    clear hp
    by_cases hc : F ≤ c
    · rw [call_fuel hpick hc]
      have hcc : c = F := by omega
      subst hcc
      clear hpick hnm1 hnm2 hcF
      go_enter Tryd.func31, Tryd.ntmps31
      go_wp2_with fail
      rw [← HW0.out]
      clear b0
      refine CI.out.mono ?_
      rintro e w1 ⟨rfl, hf1⟩
      have a1 := A0.out.no hf1
      have A1 := hide a1
      have r0 := cell_of_heap a1.rs
      have rz := frozen_of_heap a1.rs
      have hl0 := lt_of_heap a1.rs
      have st1 := (HST.out.fr a1.fr (fun e => e)).1
      have k1 := cell_of_heap st1 1
      have k2 := cell_of_heap st1 2
      have hrb1 := lt_of_heap st1
      clear CI hf1 a1 st1
      go_wp2_with fail
      go_quiet (fail)
      go_wp2_with fail
      have f2 : Fr No w (w1.drewN nq) := A1.out.fr.drewN nq
      obtain ⟨s1, s2⟩ := set3 (fr_heap A1.out.rs ((Fr.refl No w1).drewN nq) (fun e => e)) (.bool false) (.int .i64 0) (.slice none 0 0)
      refine bodyPost_ret (ret2 rfl _ _ (w.heap.size + 1 + 1) (.bool false) (.int .i64 0) (.slice none 0 0) (.int .i64 12) (0, 0) rfl rfl s1) rfl ⟨Ans.told rfl rfl, ?_, ?_⟩
      · exact (f2.mono (fun _ _ e => e.elim)).trans' s2 (fun j hj e => by have e : j = w.heap.size + 1 + 1 := e; omega)
      · exact (HST.out.fr f2 (fun e => e)).fr s2 (fun e => by have e : rb = w.heap.size + 1 + 1 := e; omega)
    have hcI : ¬ (F : Int) ≤ (c : Int) := by omega
    have hc300 : (c : Int) ≤ 300 := by have := HF300.out; omega
    cases D with
    | zero =>
      have hd40 : d = 40 := by have := HD.out; omega
      subst hd40
      clear HD
      rw [call_deep hpick hc]
      clear hpick hnm1 hnm2
      go_enter Tryd.func31, Tryd.ntmps31
      go_wp2_with fail
      rw [← HW0.out]
      clear b0
      refine CI.out.mono ?_
      rintro e w1 ⟨rfl, hf1⟩
      have a1 := A0.out.no hf1
      have A1 := hide a1
      have r0 := cell_of_heap a1.rs
      have rz := frozen_of_heap a1.rs
      have hl0 := lt_of_heap a1.rs
      have st1 := (HST.out.fr a1.fr (fun e => e)).1
      have k1 := cell_of_heap st1 1
      have k2 := cell_of_heap st1 2
      have k3 := cell_of_heap st1 3
      have hrb1 := lt_of_heap st1
      clear CI hf1 a1 st1
      go_wp2_with fail
      go_quiet (fail)
      go_wp2_with fail
      have f2 : Fr No w (w1.drewN nq) := A1.out.fr.drewN nq
      obtain ⟨s1, s2⟩ := set3 (fr_heap A1.out.rs ((Fr.refl No w1).drewN nq) (fun e => e)) (.bool false) (.int .i64 0) (.slice none 0 0)
      refine bodyPost_ret (ret2 rfl _ _ (w.heap.size + 1 + 1) (.bool false) (.int .i64 0) (.slice none 0 0) (.int .i64 9) (0, 0) rfl rfl s1) rfl ⟨Ans.told rfl rfl, ?_, ?_⟩
      · exact (f2.mono (fun _ _ e => e.elim)).trans' s2 (fun j hj e => by have e : j = w.heap.size + 1 + 1 := e; omega)
      · exact (HST.out.fr f2 (fun e => e)).fr s2 (fun e => by have e : rb = w.heap.size + 1 + 1 := e; omega)
    | succ D =>
      have hdI : ¬ (40 : Int) ≤ (d : Int) := by have := HD.out; omega
      rw [call_some hpick hc]
      obtain ⟨g, o, cap, ag, an, ac, kd, n, x1, y1, b0', m0, e0, b1, m1, e1, b2, m2, e2, hav, hcap, hgB, hgw, hnm, han, hxn, hrt, hcell⟩ := fns_at HL.out i hi
      injection hav with hav1 _ hav2
      subst hav1 hav2
      have hwi := HWL.out _ (List.getElem_mem hi)
      obtain ⟨f, hfd⟩ : ∃ f, f = l[i] := ⟨_, rfl⟩
      rw [← hfd] at hnm han hrt hcell hnm1 hnm2 hwi ⊢
      obtain ⟨ob, hob⟩ : ∃ ob, ob = Pu.ev (Pu.call l F D) K (Pu.noEnv.bind f.2.1 vs) f.2.2 (c + 1) := ⟨_, rfl⟩
      rw [← hob]
      have HOB := hide hob
      have HNM := hide hnm
      have HRT := hide hrt
      have HLEN : Hid (f.2.1.length = vs.length) := hnm2
      have SA0 : Hid (∀ W, Fr (· = rb) w W → (∀ j, j < 9 → W.cell? ⟨g, o + i * 9 + j, none⟩ = [Value.string f.1, .slice ag an ac, .int .i64 kd, .int .i64 n, .string x1, .string y1, .slice b0' m0 e0, .slice b1 m1 e1, .slice b2 m2 e2][j]?)) := fun W hW j hj => by
        rw [(old_rb hW hBr hrb).cell (a := ⟨g, o + i * 9 + j, none⟩) hgB]; exact hcell j hj
      clear hpick hnm1 hnm2 hcell hrt hnm hfd hob han
      go_enter Tryd.func31, Tryd.ntmps31
      go_wp2_with fail
      rw [← HW0.out]
      clear b0
      refine CI.out.mono ?_
      rintro e w1 ⟨rfl, hf1⟩
      have a1 := A0.out.no hf1
      have A1 := hide a1
      have hl0 := lt_of_heap a1.rs
      have st1 := (HST.out.fr a1.fr (fun e => e)).1
      have ST1 := hide st1
      have k0 := cell_of_heap st1 0
      have k1 := cell_of_heap st1 1
      have k2 := cell_of_heap st1 2
      have k3 := cell_of_heap st1 3
      have kz := frozen_of_heap st1
      have hrb1 := lt_of_heap st1
      have p := SA0.out w1 (a1.fr.mono (fun _ _ e => e.elim))
      have p0 : w1.cell? ⟨g, o + i * 9, none⟩ = some (.string f.1) := p 0 (by omega)
      have p1 := p 1 (by omega)
      have p2 := p 2 (by omega)
      have p3 := p 3 (by omega)
      have p4 := p 4 (by omega)
      have p5 := p 5 (by omega)
      have p6 := p 6 (by omega)
      have p7 := p 7 (by omega)
      have p8 := p 8 (by omega)
      have hgl : g < w1.heap.size := Nat.lt_of_lt_of_le hgw a1.fr.size
      have hgne : g ≠ rb := by omega
      clear CI hf1 a1 st1 p
      go_wp2_with fail
      go_quiet (fail)
      go_wp2_with fail
      clear k0 k1 k2 k3 kz p0 p1 p2 p3 p4 p5 p6 p7 p8
      obtain ⟨t1, t2⟩ := set2 (w := w1.drewN nq) ST1.out (.int .i64 ((c : Int) + 1)) (.int .i64 ((d : Int) + 1))
      obtain ⟨w2, hw2⟩ : ∃ w2, w2 = ((w1.drewN nq).setCell ⟨rb, 2, none⟩ (.int .i64 ((c : Int) + 1))).setCell ⟨rb, 3, none⟩ (.int .i64 ((d : Int) + 1)) := ⟨_, rfl⟩
      rw [← hw2] at t1 t2 ⊢
      have hs12 : w2.heap.size = w1.heap.size := by rw [hw2]; simp [World.setCell]
      clear hw2
      obtain ⟨w3, hw3⟩ : ∃ w3, w3 = w2.alloc (.cells #[.string f.1, .slice ag an ac, .int .i64 kd, .int .i64 n, .string x1, .string y1, .slice b0' m0 e0, .slice b1 m1 e1, .slice b2 m2 e2] 40) := ⟨_, rfl⟩
      rw [← hw3]
      have f12 : Fr (· = rb) w1 w2 := ((Fr.refl No w1).drewN nq |>.mono (fun _ _ e => e.elim)).trans t2
      have f23 : Fr No w2 w3 := by rw [hw3]; exact (Fr.refl No w2).alloc _
      have f13 : Fr (· = rb) w1 w3 := f12.no f23
      have fw3 : Fr (· = rb) w w3 := (A1.out.fr.mono (fun _ _ e => e.elim)).trans f13
      have gf : w3.heap[w1.heap.size]? = some (.cells #[.string f.1, .slice ag an ac, .int .i64 kd, .int .i64 n, .string x1, .string y1, .slice b0' m0 e0, .slice b1 m1 e1, .slice b2 m2 e2] 40 (0, 0)) := by rw [hw3, ← hs12]; exact heap_alloc_new _ _
      have ga : w3.heap[w.heap.size + 1]? = some (.cells #[.slice a vs.length cp] 27 (0, 0)) := fr_heap A1.out.ab f13 (fun e => by have e : w.heap.size + 1 = rb := e; omega)
      have gr : w3.heap[w.heap.size + 1 + 1]? = some (.cells #[.bool false, .int .i64 0, .slice none 0 0] 29 (0, 0)) := fr_heap A1.out.rs f13 (fun e => by have e : w.heap.size + 1 + 1 = rb := e; omega)
      have st3 : St rb (.slice (some ⟨g, o, none⟩) l.length fc) F (d + 1) (c + 1) w3 := ⟨fr_heap t1 f23 (fun e => e), by omega⟩
      have hs3 : w1.heap.size < w3.heap.size := lt_of_heap gf
      have HOUT : Hid (∀ g, S g → g ≠ rb) := HS.out.out
      have FRB : Hid (rb < w3.heap.size) := hide (by have := fw3.size; omega)
      clear hw3 t1 t2 f12 f23 hs12
      have SA : Hid (∀ W, Fr (· = rb) w3 W → (W.cell? ⟨w.heap.size + 1, 0, none⟩ = some (.slice a vs.length cp) ∧ W.cell? ⟨w1.heap.size, 1, none⟩ = some (.slice ag an ac) ∧ W.cell? ⟨w1.heap.size, 2, none⟩ = some (.int .i64 kd) ∧ W.cell? ⟨w1.heap.size, 3, none⟩ = some (.int .i64 n) ∧ W.cell? ⟨w1.heap.size, 4, none⟩ = some (.string x1) ∧ W.cell? ⟨w1.heap.size, 5, none⟩ = some (.string y1) ∧ W.cell? ⟨w1.heap.size, 6, none⟩ = some (.slice b0' m0 e0) ∧ W.cell? ⟨w1.heap.size, 7, none⟩ = some (.slice b1 m1 e1) ∧ W.cell? ⟨w1.heap.size, 8, none⟩ = some (.slice b2 m2 e2))) := fun W hW => by
        have g1 := fr_heap gf hW (fun e => by have e : w1.heap.size = rb := e; omega)
        exact ⟨cell_of_heap (fr_heap ga hW (fun e => by have e : w.heap.size + 1 = rb := e; omega)) 0, cell_of_heap g1 1, cell_of_heap g1 2, cell_of_heap g1 3, cell_of_heap g1 4, cell_of_heap g1 5, cell_of_heap g1 6, cell_of_heap g1 7, cell_of_heap g1 8⟩
      have KA : Hid (∀ (W : World) (oo : Obj), (W.cell? ⟨w.heap.size + 1, 0, none⟩ = some (.slice a vs.length cp) ∧ W.cell? ⟨w1.heap.size, 1, none⟩ = some (.slice ag an ac) ∧ W.cell? ⟨w1.heap.size, 2, none⟩ = some (.int .i64 kd) ∧ W.cell? ⟨w1.heap.size, 3, none⟩ = some (.int .i64 n) ∧ W.cell? ⟨w1.heap.size, 4, none⟩ = some (.string x1) ∧ W.cell? ⟨w1.heap.size, 5, none⟩ = some (.string y1) ∧ W.cell? ⟨w1.heap.size, 6, none⟩ = some (.slice b0' m0 e0) ∧ W.cell? ⟨w1.heap.size, 7, none⟩ = some (.slice b1 m1 e1) ∧ W.cell? ⟨w1.heap.size, 8, none⟩ = some (.slice b2 m2 e2)) → ((W.alloc oo).cell? ⟨w.heap.size + 1, 0, none⟩ = some (.slice a vs.length cp) ∧ (W.alloc oo).cell? ⟨w1.heap.size, 1, none⟩ = some (.slice ag an ac) ∧ (W.alloc oo).cell? ⟨w1.heap.size, 2, none⟩ = some (.int .i64 kd) ∧ (W.alloc oo).cell? ⟨w1.heap.size, 3, none⟩ = some (.int .i64 n) ∧ (W.alloc oo).cell? ⟨w1.heap.size, 4, none⟩ = some (.string x1) ∧ (W.alloc oo).cell? ⟨w1.heap.size, 5, none⟩ = some (.string y1) ∧ (W.alloc oo).cell? ⟨w1.heap.size, 6, none⟩ = some (.slice b0' m0 e0) ∧ (W.alloc oo).cell? ⟨w1.heap.size, 7, none⟩ = some (.slice b1 m1 e1) ∧ (W.alloc oo).cell? ⟨w1.heap.size, 8, none⟩ = some (.slice b2 m2 e2))) := fun W oo ⟨h0, h1, h2, h3, h4, h5, h6, h7, h8⟩ => ⟨cell_alloc oo h0, cell_alloc oo h1, cell_alloc oo h2, cell_alloc oo h3, cell_alloc oo h4, cell_alloc oo h5, cell_alloc oo h6, cell_alloc oo h7, cell_alloc oo h8⟩
      have gw3 : Good (But S (w.heap.size + 1 + 1)) rb B w3 := HS.out.but fw3.size (lt_of_heap gr) (by omega)
      have sb3 : Stays S (But S (w.heap.size + 1 + 1)) w w3 := HS.out.staysBut fw3 (by omega)
      have AW : Hid (∀ W, Fr No w3 W → Calls Tryd.prog 54 #[.func (.func 53) #[] #[], .slice ag an ac, .slice a vs.length cp] W fun e w' => ∃ nb vb kb, e = .returned (.func (.func 73) #[] #[.pointer (some ⟨nb, 0, none⟩), .pointer (some ⟨vb, 0, none⟩), .pointer (some ⟨kb, 0, none⟩)]) ∧ Fr No w3 w' ∧ KN (But S (w.heap.size + 1 + 1)) 1 w' (.func (.func 73) #[] #[.pointer (some ⟨nb, 0, none⟩), .pointer (some ⟨vb, 0, none⟩), .pointer (some ⟨kb, 0, none⟩)]) (Pu.noEnv.bind f.2.1 vs) ∧ (w'.cell? ⟨w.heap.size + 1, 0, none⟩ = some (.slice a vs.length cp) ∧ w'.cell? ⟨w1.heap.size, 1, none⟩ = some (.slice ag an ac) ∧ w'.cell? ⟨w1.heap.size, 2, none⟩ = some (.int .i64 kd) ∧ w'.cell? ⟨w1.heap.size, 3, none⟩ = some (.int .i64 n) ∧ w'.cell? ⟨w1.heap.size, 4, none⟩ = some (.string x1) ∧ w'.cell? ⟨w1.heap.size, 5, none⟩ = some (.string y1) ∧ w'.cell? ⟨w1.heap.size, 6, none⟩ = some (.slice b0' m0 e0) ∧ w'.cell? ⟨w1.heap.size, 7, none⟩ = some (.slice b1 m1 e1) ∧ w'.cell? ⟨w1.heap.size, 8, none⟩ = some (.slice b2 m2 e2))) := fun W hW => by
        refine (with_any (But S (w.heap.size + 1 + 1)) 0 _ _ _ _ f.2.1 vs Pu.noEnv (gw3.fr hW).up ⟨rfl, rfl⟩ (((HNM.out.low HS.out).kept sb3).kept (stays_no hW)) ((HV.out.kept sb3).kept (stays_no hW)) HLEN.out).mono ?_
        rintro e w' ⟨nb, vb, kb, he, h1, h2⟩
        exact ⟨nb, vb, kb, he, hW.trans h1, h2, SA.out w' ((hW.trans h1).mono (fun _ _ e => e.elim))⟩
      have AWB : Hid (Calls Tryd.prog 54 #[.func (.func 53) #[] #[], .slice ag an ac, .slice a vs.length cp] (w3.alloc (.cells #[.bool false, .int .i64 0, .slice none 0 0] 29)).drew fun e w' => ∃ nb vb kb, e = .returned (.func (.func 73) #[] #[.pointer (some ⟨nb, 0, none⟩), .pointer (some ⟨vb, 0, none⟩), .pointer (some ⟨kb, 0, none⟩)]) ∧ Fr No w3 w' ∧ w'.heap[w3.heap.size]? = some (.cells #[.bool false, .int .i64 0, .slice none 0 0] 29 (0, 0)) ∧ KN (But (But S (w.heap.size + 1 + 1)) w3.heap.size) 1 w' (.func (.func 73) #[] #[.pointer (some ⟨nb, 0, none⟩), .pointer (some ⟨vb, 0, none⟩), .pointer (some ⟨kb, 0, none⟩)]) (Pu.noEnv.bind f.2.1 vs) ∧ (w'.cell? ⟨w.heap.size + 1, 0, none⟩ = some (.slice a vs.length cp) ∧ w'.cell? ⟨w1.heap.size, 1, none⟩ = some (.slice ag an ac) ∧ w'.cell? ⟨w1.heap.size, 2, none⟩ = some (.int .i64 kd) ∧ w'.cell? ⟨w1.heap.size, 3, none⟩ = some (.int .i64 n) ∧ w'.cell? ⟨w1.heap.size, 4, none⟩ = some (.string x1) ∧ w'.cell? ⟨w1.heap.size, 5, none⟩ = some (.string y1) ∧ w'.cell? ⟨w1.heap.size, 6, none⟩ = some (.slice b0' m0 e0) ∧ w'.cell? ⟨w1.heap.size, 7, none⟩ = some (.slice b1 m1 e1) ∧ w'.cell? ⟨w1.heap.size, 8, none⟩ = some (.slice b2 m2 e2))) := by
        have hW : Fr No w3 (w3.alloc (.cells #[.bool false, .int .i64 0, .slice none 0 0] 29)).drew := ((Fr.refl No w3).alloc _).drew
        have hz : (w3.alloc (.cells #[.bool false, .int .i64 0, .slice none 0 0] 29)).drew.heap[w3.heap.size]? = some (.cells #[.bool false, .int .i64 0, .slice none 0 0] 29 (0, 0)) := heap_alloc_new w3 _
        refine (with_any (But (But S (w.heap.size + 1 + 1)) w3.heap.size) 0 _ _ _ _ f.2.1 vs Pu.noEnv (up_but gw3.up hW.size (lt_of_heap hz)) ⟨rfl, rfl⟩ (((HNM.out.low HS.out).kept sb3).kept (stays_but hW)) ((HV.out.kept sb3).kept (stays_but hW)) HLEN.out).mono ?_
        rintro e w' ⟨nb, vb, kb, he, h1, h2⟩
        exact ⟨nb, vb, kb, he, hW.trans h1, fr_heap hz h1 (fun e => e), h2, SA.out w' ((hW.trans h1).mono (fun _ _ e => e.elim))⟩
      have AT0 : Hid (∀ S' W nb vb kb, (∀ g, S' g → But S (w.heap.size + 1 + 1) g) → Up S' W → (∀ g, g < B → S' g) → Fr No w3 W → KN S' 1 W (.func (.func 73) #[] #[.pointer (some ⟨nb, 0, none⟩), .pointer (some ⟨vb, 0, none⟩), .pointer (some ⟨kb, 0, none⟩)]) (Pu.noEnv.bind f.2.1 vs) → Calls Tryd.prog 52 #[.pointer (some ⟨rb, 0, none⟩), .agg #[.int .i64 kd, .int .i64 n, .string x1, .string y1, .slice b0' m0 e0, .slice b1 m1 e1, .slice b2 m2 e2], (.func (.func 73) #[] #[.pointer (some ⟨nb, 0, none⟩), .pointer (some ⟨vb, 0, none⟩), .pointer (some ⟨kb, 0, none⟩)])] W fun e w' => ∃ p0 p1 p2, e = .returned (.tuple #[.agg #[.bool ob.v.con, .int .i64 ob.v.n, .slice p0 p1 p2], .int .i64 ob.e]) ∧ AV S' w' [.bool ob.v.con, .int .i64 ob.v.n, .slice p0 p1 p2] ob.v ∧ Fr (· = rb) w3 w' ∧ Fr (· = rb) W w' ∧ St rb (.slice (some ⟨g, o, none⟩) l.length fc) F (d + 1) ob.c w' ∧ (w'.cell? ⟨w.heap.size + 1, 0, none⟩ = some (.slice a vs.length cp) ∧ w'.cell? ⟨w1.heap.size, 1, none⟩ = some (.slice ag an ac) ∧ w'.cell? ⟨w1.heap.size, 2, none⟩ = some (.int .i64 kd) ∧ w'.cell? ⟨w1.heap.size, 3, none⟩ = some (.int .i64 n) ∧ w'.cell? ⟨w1.heap.size, 4, none⟩ = some (.string x1) ∧ w'.cell? ⟨w1.heap.size, 5, none⟩ = some (.string y1) ∧ w'.cell? ⟨w1.heap.size, 6, none⟩ = some (.slice b0' m0 e0) ∧ w'.cell? ⟨w1.heap.size, 7, none⟩ = some (.slice b1 m1 e1) ∧ w'.cell? ⟨w1.heap.size, 8, none⟩ = some (.slice b2 m2 e2))) := fun S' W nb vb kb hS' hup hlow hW hKN => by
        rw [HOB.out]
        have hfW : Fr (· = rb) w W := fw3.no hW
        refine (HIH.out D rfl S' 1 W _ f.2.2 _ _ (c + 1) ⟨hup, hlow, fun g hg => gw3.out g (hS' g hg)⟩ (HRT.out.old (old_rb hfW hBr hrb) hfW.size) hKN (st3.fr hW (fun e => e)) (HL.out.old (old_rb hfW hBr hrb) hfW.size) hwi).mono ?_
        rintro e w' ⟨⟨cs, he, hav⟩, h1, h2⟩
        obtain ⟨p0, p1, p2, rfl⟩ := hav.tuple
        have f1 : Fr (· = rb) w3 w' := (hW.mono (fun _ _ e => e.elim)).trans h1
        exact ⟨p0, p1, p2, he, hav, f1, h1, h2, SA.out w' f1⟩
      have K3 : Hid (∀ (W : World) (r : Nat) (u0 u1 u2 : Value), w3.heap.size ≤ r → (W.cell? ⟨w.heap.size + 1, 0, none⟩ = some (.slice a vs.length cp) ∧ W.cell? ⟨w1.heap.size, 1, none⟩ = some (.slice ag an ac) ∧ W.cell? ⟨w1.heap.size, 2, none⟩ = some (.int .i64 kd) ∧ W.cell? ⟨w1.heap.size, 3, none⟩ = some (.int .i64 n) ∧ W.cell? ⟨w1.heap.size, 4, none⟩ = some (.string x1) ∧ W.cell? ⟨w1.heap.size, 5, none⟩ = some (.string y1) ∧ W.cell? ⟨w1.heap.size, 6, none⟩ = some (.slice b0' m0 e0) ∧ W.cell? ⟨w1.heap.size, 7, none⟩ = some (.slice b1 m1 e1) ∧ W.cell? ⟨w1.heap.size, 8, none⟩ = some (.slice b2 m2 e2)) → ((((W.setCell ⟨r, 0, none⟩ u0).setCell ⟨r, 1, none⟩ u1).setCell ⟨r, 2, none⟩ u2).cell? ⟨w.heap.size + 1, 0, none⟩ = some (.slice a vs.length cp) ∧ (((W.setCell ⟨r, 0, none⟩ u0).setCell ⟨r, 1, none⟩ u1).setCell ⟨r, 2, none⟩ u2).cell? ⟨w1.heap.size, 1, none⟩ = some (.slice ag an ac) ∧ (((W.setCell ⟨r, 0, none⟩ u0).setCell ⟨r, 1, none⟩ u1).setCell ⟨r, 2, none⟩ u2).cell? ⟨w1.heap.size, 2, none⟩ = some (.int .i64 kd) ∧ (((W.setCell ⟨r, 0, none⟩ u0).setCell ⟨r, 1, none⟩ u1).setCell ⟨r, 2, none⟩ u2).cell? ⟨w1.heap.size, 3, none⟩ = some (.int .i64 n) ∧ (((W.setCell ⟨r, 0, none⟩ u0).setCell ⟨r, 1, none⟩ u1).setCell ⟨r, 2, none⟩ u2).cell? ⟨w1.heap.size, 4, none⟩ = some (.string x1) ∧ (((W.setCell ⟨r, 0, none⟩ u0).setCell ⟨r, 1, none⟩ u1).setCell ⟨r, 2, none⟩ u2).cell? ⟨w1.heap.size, 5, none⟩ = some (.string y1) ∧ (((W.setCell ⟨r, 0, none⟩ u0).setCell ⟨r, 1, none⟩ u1).setCell ⟨r, 2, none⟩ u2).cell? ⟨w1.heap.size, 6, none⟩ = some (.slice b0' m0 e0) ∧ (((W.setCell ⟨r, 0, none⟩ u0).setCell ⟨r, 1, none⟩ u1).setCell ⟨r, 2, none⟩ u2).cell? ⟨w1.heap.size, 7, none⟩ = some (.slice b1 m1 e1) ∧ (((W.setCell ⟨r, 0, none⟩ u0).setCell ⟨r, 1, none⟩ u1).setCell ⟨r, 2, none⟩ u2).cell? ⟨w1.heap.size, 8, none⟩ = some (.slice b2 m2 e2))) := fun W r u0 u1 u2 hr ⟨h0, h1, h2, h3, h4, h5, h6, h7, h8⟩ =>
        ⟨(keep3 u0 u1 u2 (by omega)).trans h0, (keep3 u0 u1 u2 (by omega)).trans h1, (keep3 u0 u1 u2 (by omega)).trans h2, (keep3 u0 u1 u2 (by omega)).trans h3, (keep3 u0 u1 u2 (by omega)).trans h4, (keep3 u0 u1 u2 (by omega)).trans h5, (keep3 u0 u1 u2 (by omega)).trans h6, (keep3 u0 u1 u2 (by omega)).trans h7, (keep3 u0 u1 u2 (by omega)).trans h8⟩
      have D0 : Fr No w3 w3.drew := (Fr.refl No w3).drew
      have HZ := hide (SA.out w3.drew (D0.mono (fun _ _ e => e.elim)))
      have HZA := hide (SA.out (w3.alloc (.cells #[.bool false, .int .i64 0, .slice none 0 0] 29)).drew ((((Fr.refl No w3).alloc _).drew).mono (fun _ _ e => e.elim)))
      have TA : Hid (∀ W nb vb kb, Fr No w3 W → KN (But S (w.heap.size + 1 + 1)) 1 W (.func (.func 73) #[] #[.pointer (some ⟨nb, 0, none⟩), .pointer (some ⟨vb, 0, none⟩), .pointer (some ⟨kb, 0, none⟩)]) (Pu.noEnv.bind f.2.1 vs) → Calls Tryd.prog 52 #[.pointer (some ⟨rb, 0, none⟩), .agg #[.int .i64 kd, .int .i64 n, .string x1, .string y1, .slice b0' m0 e0, .slice b1 m1 e1, .slice b2 m2 e2], (.func (.func 73) #[] #[.pointer (some ⟨nb, 0, none⟩), .pointer (some ⟨vb, 0, none⟩), .pointer (some ⟨kb, 0, none⟩)])] W fun e w' => ∃ p0 p1 p2, e = .returned (.tuple #[.agg #[.bool ob.v.con, .int .i64 ob.v.n, .slice p0 p1 p2], .int .i64 ob.e]) ∧ AV (But S (w.heap.size + 1 + 1)) w' [.bool ob.v.con, .int .i64 ob.v.n, .slice p0 p1 p2] ob.v ∧ Fr (· = rb) w3 w' ∧ St rb (.slice (some ⟨g, o, none⟩) l.length fc) F (d + 1) ob.c w' ∧ (w'.cell? ⟨w.heap.size + 1, 0, none⟩ = some (.slice a vs.length cp) ∧ w'.cell? ⟨w1.heap.size, 1, none⟩ = some (.slice ag an ac) ∧ w'.cell? ⟨w1.heap.size, 2, none⟩ = some (.int .i64 kd) ∧ w'.cell? ⟨w1.heap.size, 3, none⟩ = some (.int .i64 n) ∧ w'.cell? ⟨w1.heap.size, 4, none⟩ = some (.string x1) ∧ w'.cell? ⟨w1.heap.size, 5, none⟩ = some (.string y1) ∧ w'.cell? ⟨w1.heap.size, 6, none⟩ = some (.slice b0' m0 e0) ∧ w'.cell? ⟨w1.heap.size, 7, none⟩ = some (.slice b1 m1 e1) ∧ w'.cell? ⟨w1.heap.size, 8, none⟩ = some (.slice b2 m2 e2))) := fun W nb vb kb hW hk =>
        (AT0.out (But S (w.heap.size + 1 + 1)) W nb vb kb (fun _ h => h) (gw3.fr hW).up gw3.low hW hk).mono fun e w' ⟨p0, p1, p2, h1, h2, h3, _, h4, h5⟩ => ⟨p0, p1, p2, h1, h2, h3, h4, h5⟩
      have TR : Hid (∀ W nb vb kb r, Fr No w3 W → w3.heap.size ≤ r → W.heap[r]? = some (.cells #[.bool false, .int .i64 0, .slice none 0 0] 29 (0, 0)) → KN (But (But S (w.heap.size + 1 + 1)) r) 1 W (.func (.func 73) #[] #[.pointer (some ⟨nb, 0, none⟩), .pointer (some ⟨vb, 0, none⟩), .pointer (some ⟨kb, 0, none⟩)]) (Pu.noEnv.bind f.2.1 vs) → Calls Tryd.prog 52 #[.pointer (some ⟨rb, 0, none⟩), .agg #[.int .i64 kd, .int .i64 n, .string x1, .string y1, .slice b0' m0 e0, .slice b1 m1 e1, .slice b2 m2 e2], (.func (.func 73) #[] #[.pointer (some ⟨nb, 0, none⟩), .pointer (some ⟨vb, 0, none⟩), .pointer (some ⟨kb, 0, none⟩)])] W fun e w' => ∃ p0 p1 p2, e = .returned (.tuple #[.agg #[.bool ob.v.con, .int .i64 ob.v.n, .slice p0 p1 p2], .int .i64 ob.e]) ∧ AV (But (But S (w.heap.size + 1 + 1)) r) w' [.bool ob.v.con, .int .i64 ob.v.n, .slice p0 p1 p2] ob.v ∧ Fr (· = rb) w3 w' ∧ St rb (.slice (some ⟨g, o, none⟩) l.length fc) F (d + 1) ob.c w' ∧ (w'.cell? ⟨w.heap.size + 1, 0, none⟩ = some (.slice a vs.length cp) ∧ w'.cell? ⟨w1.heap.size, 1, none⟩ = some (.slice ag an ac) ∧ w'.cell? ⟨w1.heap.size, 2, none⟩ = some (.int .i64 kd) ∧ w'.cell? ⟨w1.heap.size, 3, none⟩ = some (.int .i64 n) ∧ w'.cell? ⟨w1.heap.size, 4, none⟩ = some (.string x1) ∧ w'.cell? ⟨w1.heap.size, 5, none⟩ = some (.string y1) ∧ w'.cell? ⟨w1.heap.size, 6, none⟩ = some (.slice b0' m0 e0) ∧ w'.cell? ⟨w1.heap.size, 7, none⟩ = some (.slice b1 m1 e1) ∧ w'.cell? ⟨w1.heap.size, 8, none⟩ = some (.slice b2 m2 e2)) ∧ w'.heap[r]? = some (.cells #[.bool false, .int .i64 0, .slice none 0 0] 29 (0, 0)) ∧ w'.cell? ⟨r, 0, none⟩ = some (.bool false) ∧ w'.cell? ⟨r, 1, none⟩ = some (.int .i64 0) ∧ w'.cell? ⟨r, 2, none⟩ = some (.slice none 0 0) ∧ (∀ o, w'.frozen? ⟨r, o, none⟩ = false)) := fun W nb vb kb r hW hr hz hk =>
        (AT0.out (But (But S (w.heap.size + 1 + 1)) r) W nb vb kb (fun _ h => h.1) (up_but gw3.up hW.size (lt_of_heap hz)) (fun q hq => ⟨gw3.low q hq, by omega⟩) hW hk).mono fun e w' ⟨p0, p1, p2, h1, h2, h3, h3', h4, h5⟩ => by
          have hz' := fr_heap hz h3' (fun e => by have e : r = rb := e; have := FRB.out; omega)
          exact ⟨p0, p1, p2, h1, h2, h3, h4, h5, hz', cell_of_heap hz' 0, cell_of_heap hz' 1, cell_of_heap hz' 2, frozen_of_heap hz'⟩
      have GR := hide gr
      have FW3 := hide fw3
      clear gf ga gr fw3 f13 gw3 sb3 st3 HNM HRT HV HS HST HL HIH HWL A1 A0 SA0 ST1 hwi AT0
      go_region_held3 (fun w' : World => w'.cell? ⟨w.heap.size + 1, 0, none⟩ = some (.slice a vs.length cp) ∧ w'.cell? ⟨w1.heap.size, 1, none⟩ = some (.slice ag an ac) ∧ w'.cell? ⟨w1.heap.size, 2, none⟩ = some (.int .i64 kd) ∧ w'.cell? ⟨w1.heap.size, 3, none⟩ = some (.int .i64 n) ∧ w'.cell? ⟨w1.heap.size, 4, none⟩ = some (.string x1) ∧ w'.cell? ⟨w1.heap.size, 5, none⟩ = some (.string y1) ∧ w'.cell? ⟨w1.heap.size, 6, none⟩ = some (.slice b0' m0 e0) ∧ w'.cell? ⟨w1.heap.size, 7, none⟩ = some (.slice b1 m1 e1) ∧ w'.cell? ⟨w1.heap.size, 8, none⟩ = some (.slice b2 m2 e2)) (first | with_reducible assumption | with_reducible exact HZ.out | with_reducible exact HZA.out | with_reducible exact KA.out _ _ (by with_reducible assumption) | with_reducible exact K3.out _ _ _ _ _ (Nat.le_refl _) (by with_reducible assumption) | with_reducible exact K3.out _ _ _ _ _ HS4.out (by with_reducible assumption))
        (first
          | (go_at_call 54; refine (AW.out _ ?_).mono ?_; (first | with_reducible assumption | exact D0); rintro e w4 ⟨nb, vb, kb, rfl, hf4, hk4, hz4⟩; have HF4 := hide hf4; have HK4 := hide hk4; have HS4 := hide hf4.size; clear hf4 hk4)
          | (go_at_call 54; refine AWB.out.mono ?_; rintro e w4 ⟨nb, vb, kb, rfl, hf4, hgz4, hk4, hz4⟩; have HF4 := hide hf4; have HKB := hide hk4; have HGZ := hide hgz4; clear hf4 hk4 hgz4)
          | (go_at_call 52; refine (TR.out _ _ _ _ _ HF4.out (Nat.le_refl _) HGZ.out HKB.out).mono ?_; rintro e w5 ⟨p0, p1, p2, rfl, hav5, hf5, hst5, hz5, hg5, r0, r1, r2, rz⟩; have HAV5 := hide hav5; have HF5 := hide hf5; have HST5 := hide hst5; have HG5 := hide hg5; clear hav5 hf5 hst5 hg5)
          | (go_at_call 52; refine (TA.out _ _ _ _ HF4.out HK4.out).mono ?_; rintro e w5 ⟨p0, p1, p2, rfl, hav5, hf5, hst5, hz5⟩; have HAV5 := hide hav5; have HF5 := hide hf5; have HST5 := hide hst5; clear hav5 hf5 hst5)
          | (go_at_call 52; refine (TR.out _ _ _ _ _ (HF4.out.alloc _) HS4.out (heap_alloc_new _ _) (HK4.out.kept (stays_but ((Fr.refl No _).alloc _)))).mono ?_; rintro e w5 ⟨p0, p1, p2, rfl, hav5, hf5, hst5, hz5, hg5, r0, r1, r2, rz⟩; have HAV5 := hide hav5; have HF5 := hide hf5; have HST5 := hide hst5; have HG5 := hide hg5; clear hav5 hf5 hst5 hg5))
      rotate_left
      · obtain ⟨s1, s2⟩ := set3 HG5.out (.bool ob.v.con) (.int .i64 ob.v.n) (.slice p0 p1 p2)
        have hr4 : w3.heap.size ≤ w4.heap.size := HS4.out
        have st6 := HST5.out.fr s2 (fun e => by have e : rb = w4.heap.size := e; have := FRB.out; omega)
        have av6 := HAV5.out.shut s2
        have gr6 := fr_heap (fr_heap GR.out HF5.out (fun e => by have e : w.heap.size + 1 + 1 = rb := e; omega)) s2 (fun e => by have e : w.heap.size + 1 + 1 = w4.heap.size := e; omega)
        have f6 := (FW3.out.trans HF5.out).trans' s2 (fun j hj e => by have e : j = w4.heap.size := e; have := FW3.out.size; omega)
        have STX := hide st6
        have AVX := hide av6
        have GRX := hide gr6
        have FX := hide f6
        have v0 := cell_of_heap s1
        have hvl := lt_of_heap s1
        have k3 := cell_of_heap st6.1 3
        have kz := frozen_of_heap st6.1
        have hrbx := lt_of_heap st6.1
        have y0 := cell_of_heap gr6
        have yz := frozen_of_heap gr6
        have hrl := lt_of_heap gr6
        have hne1 : w4.heap.size ≠ rb := by have := FRB.out; omega
        have hne2 : w.heap.size + 1 + 1 ≠ rb := by omega
        generalize hWX : (((w5.setCell ⟨w4.heap.size, 0, none⟩ (.bool ob.v.con)).setCell ⟨w4.heap.size, 1, none⟩ (.int .i64 ob.v.n)).setCell ⟨w4.heap.size, 2, none⟩ (.slice p0 p1 p2)) = W6 at *
        clear s1 s2 st6 av6 gr6 f6 hWX
        clear AW AWB TA TR SA KA K3 HZ HZA hz4 hz5 r0 r1 r2 rz
        go_wp2_with fail
        obtain ⟨q1, q2⟩ := set1 STX.out.1 (.int .i64 (d : Int))
        obtain ⟨s1, s2⟩ := set3 (fr_heap GRX.out q2 hne2) (.bool ob.v.con) (.int .i64 ob.v.n) (.slice p0 p1 p2)
        refine bodyPost_ret (ret2 rfl _ _ (w.heap.size + 1 + 1) (.bool ob.v.con) (.int .i64 ob.v.n) (.slice p0 p1 p2) (.int .i64 ob.e) (0, 0) rfl rfl s1) rfl ⟨⟨[.bool ob.v.con, .int .i64 ob.v.n, .slice p0 p1 p2], rfl, (AVX.out.kept (stays_fr q2 (fun g hg _ e => HOUT.out g hg.1 e) (fun _ h => h))).shut s2⟩, ?_, ?_⟩
        · exact (FX.out.trans q2).trans' s2 (fun j hj e => by have e : j = w.heap.size + 1 + 1 := e; omega)
        · exact ⟨fr_heap q1 s2 (fun e => by have e : rb = w.heap.size + 1 + 1 := e; omega), STX.out.2⟩
      · obtain ⟨s1, s2⟩ := set3 HG5.out (.bool ob.v.con) (.int .i64 ob.v.n) (.slice p0 p1 p2)
        have hr4 : w3.heap.size ≤ w3.heap.size := Nat.le_refl _
        have st6 := HST5.out.fr s2 (fun e => by have e : rb = w3.heap.size := e; have := FRB.out; omega)
        have av6 := HAV5.out.shut s2
        have gr6 := fr_heap (fr_heap GR.out HF5.out (fun e => by have e : w.heap.size + 1 + 1 = rb := e; omega)) s2 (fun e => by have e : w.heap.size + 1 + 1 = w3.heap.size := e; omega)
        have f6 := (FW3.out.trans HF5.out).trans' s2 (fun j hj e => by have e : j = w3.heap.size := e; have := FW3.out.size; omega)
        have STX := hide st6
        have AVX := hide av6
        have GRX := hide gr6
        have FX := hide f6
        have v0 := cell_of_heap s1
        have hvl := lt_of_heap s1
        have k3 := cell_of_heap st6.1 3
        have kz := frozen_of_heap st6.1
        have hrbx := lt_of_heap st6.1
        have y0 := cell_of_heap gr6
        have yz := frozen_of_heap gr6
        have hrl := lt_of_heap gr6
        have hne1 : w3.heap.size ≠ rb := by have := FRB.out; omega
        have hne2 : w.heap.size + 1 + 1 ≠ rb := by omega
        generalize hWX : (((w5.setCell ⟨w3.heap.size, 0, none⟩ (.bool ob.v.con)).setCell ⟨w3.heap.size, 1, none⟩ (.int .i64 ob.v.n)).setCell ⟨w3.heap.size, 2, none⟩ (.slice p0 p1 p2)) = W6 at *
        clear s1 s2 st6 av6 gr6 f6 hWX
        clear AW AWB TA TR SA KA K3 HZ HZA hz4 hz5 r0 r1 r2 rz
        go_wp2_with fail
        obtain ⟨q1, q2⟩ := set1 STX.out.1 (.int .i64 (d : Int))
        obtain ⟨s1, s2⟩ := set3 (fr_heap GRX.out q2 hne2) (.bool ob.v.con) (.int .i64 ob.v.n) (.slice p0 p1 p2)
        refine bodyPost_ret (ret2 rfl _ _ (w.heap.size + 1 + 1) (.bool ob.v.con) (.int .i64 ob.v.n) (.slice p0 p1 p2) (.int .i64 ob.e) (0, 0) rfl rfl s1) rfl ⟨⟨[.bool ob.v.con, .int .i64 ob.v.n, .slice p0 p1 p2], rfl, (AVX.out.kept (stays_fr q2 (fun g hg _ e => HOUT.out g hg.1 e) (fun _ h => h))).shut s2⟩, ?_, ?_⟩
        · exact (FX.out.trans q2).trans' s2 (fun j hj e => by have e : j = w.heap.size + 1 + 1 := e; omega)
        · exact ⟨fr_heap q1 s2 (fun e => by have e : rb = w.heap.size + 1 + 1 := e; omega), STX.out.2⟩
      · have s1 := heap_alloc_new w5 (.cells #[.bool ob.v.con, .int .i64 ob.v.n, .slice p0 p1 p2] 29)
        have s2 : Fr No w5 (w5.alloc (.cells #[.bool ob.v.con, .int .i64 ob.v.n, .slice p0 p1 p2] 29)) := (Fr.refl No w5).alloc _
        have st6 := HST5.out.fr s2 (fun e => e)
        have av6 := HAV5.out.kept (stays_no s2)
        have gr6 := fr_heap (fr_heap GR.out HF5.out (fun e => by have e : w.heap.size + 1 + 1 = rb := e; omega)) s2 (fun e => e)
        have f6 : Fr (· = rb) w (w5.alloc (.cells #[.bool ob.v.con, .int .i64 ob.v.n, .slice p0 p1 p2] 29)) := (FW3.out.trans HF5.out).no s2
        have hr4 : w3.heap.size ≤ w5.heap.size := HF5.out.size
        have STX := hide st6
        have AVX := hide av6
        have GRX := hide gr6
        have FX := hide f6
        have v0 := cell_of_heap s1
        have hvl := lt_of_heap s1
        have k3 := cell_of_heap st6.1 3
        have kz := frozen_of_heap st6.1
        have hrbx := lt_of_heap st6.1
        have y0 := cell_of_heap gr6
        have yz := frozen_of_heap gr6
        have hrl := lt_of_heap gr6
        have hne1 : w5.heap.size ≠ rb := by have := FRB.out; omega
        have hne2 : w.heap.size + 1 + 1 ≠ rb := by omega
        generalize hWX : (w5.alloc (.cells #[.bool ob.v.con, .int .i64 ob.v.n, .slice p0 p1 p2] 29)) = W6 at *
        clear s1 s2 st6 av6 gr6 f6 hWX
        clear AW AWB TA TR SA KA K3 HZ HZA hz4 hz5 
        go_wp2_with fail
        obtain ⟨q1, q2⟩ := set1 STX.out.1 (.int .i64 (d : Int))
        obtain ⟨s1, s2⟩ := set3 (fr_heap GRX.out q2 hne2) (.bool ob.v.con) (.int .i64 ob.v.n) (.slice p0 p1 p2)
        refine bodyPost_ret (ret2 rfl _ _ (w.heap.size + 1 + 1) (.bool ob.v.con) (.int .i64 ob.v.n) (.slice p0 p1 p2) (.int .i64 ob.e) (0, 0) rfl rfl s1) rfl ⟨⟨[.bool ob.v.con, .int .i64 ob.v.n, .slice p0 p1 p2], rfl, (AVX.out.kept (stays_fr q2 (fun g hg _ e => HOUT.out g hg.1 e) (fun _ h => h))).shut s2⟩, ?_, ?_⟩
        · exact (FX.out.trans q2).trans' s2 (fun j hj e => by have e : j = w.heap.size + 1 + 1 := e; omega)
        · exact ⟨fr_heap q1 s2 (fun e => by have e : rb = w.heap.size + 1 + 1 := e; omega), STX.out.2⟩

theorem call_all (K B rb F : Nat) (fv : Value) (l : List (Pu.Fn K)) (hF : F ≤ 300) (hBr : B ≤ rb) (hwl : ∀ f ∈ l, Pu.wt K f.2.2 ≤ 1048576) : ∀ (D d : Nat), d + D = 40 → CallC K B rb F d fv l (Pu.call l F D)
  | 0, d, h => call_node K B rb F d 0 fv l h hF hBr hwl (fun D' e => by omega)
  | D + 1, d, h => call_node K B rb F d (D + 1) fv l h hF hBr hwl (fun D' e => by
    have e : D = D' := by omega
    subst e
    exact term_all K B rb F (d + 1) fv l _ (call_all K B rb F fv l hF hBr hwl D (d + 1) (by omega)) hBr K)
end Go.Proofs.YtdgmengfdfkgaabDoor
