/- 'let', walked. -/
import Derived.Test.YtdgmengfdfkgaabDoorE8
namespace Go.Proofs.YtdgmengfdfkgaabDoor
open Go.RowKit Go.Maps Go.WideMaps

theorem cell_alloc {W : World} {g o : Nat} {u : Value} (ob : Obj) (h : W.cell? ⟨g, o, none⟩ = some u) : (W.alloc ob).cell? ⟨g, o, none⟩ = some u := by
  have hg := World.block_lt_of_cell? W ⟨g, o, none⟩ h
  have hb : (W.alloc ob).heap[g]? = W.heap[g]? := heap_alloc_old W ob hg
  rw [← h]
  simp only [World.cell?, hb]
theorem Names.low {S : Nat → Prop} {rb B : Nat} {w w0 : World} {v : Value} {l : List ByteArray} (h : Names B w v l) (hS : Good S rb B w0) : NamesS S w v l := by
  obtain ⟨⟨a, cap, h1, h2, h3, h4⟩, h5⟩ := h
  refine ⟨⟨a, cap, h1, h2, h3, fun hn => ?_⟩, h5⟩
  obtain ⟨g, o, h6, h7, h8, h9⟩ := h4 hn
  exact ⟨g, o, h6, hS.low g h7, h8, h9⟩
theorem name_new {S : Nat → Prop} {w : World} {b : Nat} {x : ByteArray} (h : w.heap[b]? = some (.cells #[.string x] 9 (0, 0))) (hS : S b) (hx : x.size ≤ maxLen) : NamesS S w (.slice (some ⟨b, 0, none⟩) 1 1) [x] := by
  refine ⟨⟨_, _, rfl, Nat.le_refl _, by unfold maxLen; decide, fun _ => ⟨_, _, rfl, hS, lt_of_heap h, fun i hi => ?_⟩⟩, fun y hy => by simp at hy; rw [hy]; exact hx⟩
  simp at hi
  subst hi
  rw [cell_of_heap h]; rfl
theorem row_first {k B : Nat} {w : World} {av : Value} {acs : List Value} {a b : Pu.TT k} (hr : Row B w av 2 acs) (he : Each 7 (RT k B w) acs [a, b]) :
    ∃ g o cap, av = .slice (some ⟨g, o, none⟩) 2 cap ∧ 2 ≤ cap ∧ cap ≤ maxLen ∧ g < B ∧ g < w.heap.size ∧ ∃ acs', Row B w (.slice (some ⟨g, o, none⟩) 1 cap) 1 acs' ∧ Each 7 (RT k B w) acs' [a] := by
  obtain ⟨a1, cap, rfl, h2, h3, h4⟩ := hr
  obtain ⟨g, o, rfl, h5, h6, h7⟩ := h4 (by omega)
  obtain ⟨ck, rest, h8, h9, h10, h11⟩ := he
  refine ⟨g, o, cap, rfl, h2, h3, h5, h6, ck, ⟨_, _, rfl, by omega, h3, fun _ => ⟨g, o, rfl, h5, h6, fun i hi => ?_⟩⟩, ⟨ck, [], by simp, h9, h10, rfl⟩⟩
  rw [h7 i (by rw [h8, List.length_append]; omega), h8, List.getElem?_append_left hi]
theorem wt_mem {α : Type} (f : α → Nat) : ∀ (l : List α) (a : α), a ∈ l → f a ≤ (l.map f).sum
  | b :: l, a, h => by
    simp only [List.map_cons, List.sum_cons]
    rcases List.mem_cons.1 h with rfl | h
    · omega
    · have := wt_mem f l a h; omega
theorem wt_pos : ∀ (k : Nat) (t : Pu.TT k), 1 ≤ Pu.wt k t
  | 0, t => nomatch t
  | k + 1, t => by show 1 ≤ 1 + _ + _ + _; omega
theorem wt_len {k : Nat} : ∀ (l : List (Pu.TT k)), l.length ≤ (l.map (Pu.wt k)).sum
  | [] => Nat.zero_le _
  | a :: l => by
    simp only [List.map_cons, List.sum_cons, List.length_cons]
    have := wt_pos k a
    have := wt_len l
    omega
theorem wt_args {k : Nat} (t : Pu.TT (k + 1)) : ∀ a ∈ Pu.Node.args t, Pu.wt k a < Pu.wt (k + 1) t := fun a ha => by
  have := wt_mem (Pu.wt k) (Pu.Node.args t) a ha
  show _ < 1 + (Pu.Node.vars t).length + ((Pu.Node.args t).map (Pu.wt k)).sum + _
  omega
theorem wt_argsLen {k : Nat} (t : Pu.TT (k + 1)) : (Pu.Node.args t).length < Pu.wt (k + 1) t := by
  have := wt_len (Pu.Node.args t)
  show _ < 1 + (Pu.Node.vars t).length + ((Pu.Node.args t).map (Pu.wt k)).sum + _
  omega
theorem wt_cases {k : Nat} (t : Pu.TT (k + 1)) : ∀ a ∈ Pu.Node.cases t, Pu.wt k a.2.2 < Pu.wt (k + 1) t := fun a ha => by
  have h : 1 + a.2.1.length + Pu.wt k a.2.2 ≤ _ := wt_mem (fun c : Int × List ByteArray × Pu.TT k => 1 + c.2.1.length + Pu.wt k c.2.2) (Pu.Node.cases t) a ha
  show _ < 1 + (Pu.Node.vars t).length + ((Pu.Node.args t).map (Pu.wt k)).sum + ((Pu.Node.cases t).map fun c => 1 + c.2.1.length + Pu.wt k c.2.2).sum
  omega
theorem evL_one {α : Type} (E : α → Nat → Pu.Out) (a : α) (c : Nat) : Pu.evL E [a] c = if (E a c).e = 0 then ([(E a c).v], 0, (E a c).c) else ([], (E a c).e, (E a c).c) := rfl

set_option maxHeartbeats 2000000 in
theorem let_any (K k B rb F d : Nat) (fv : Value) (l : List (Pu.Fn K)) (call : ByteArray → List Pu.V → Nat → Pu.Out) (hT : TermC K k B rb F d fv l call) (hBr : B ≤ rb)
    (S : Nat → Prop) (m : Nat) (w : World) (cs : List Value) (t : Pu.TT (k + 1)) (kv : Value) (env : Pu.Env) (c : Nat) (hS : Good S rb B w) (ht : RT (k + 1) B w cs t) (hk : KN S m w kv env) (hst : St rb fv F d c w) (hl : Fns K B w fv l) (hwt : Pu.wt (k + 1) t ≤ 1048576) :
    Calls Tryd.prog 69 #[.pointer (some ⟨rb, 0, none⟩), .agg cs.toArray, kv] w fun e w' => Ans S w' e (Pu.evLet (Pu.ev call k) env (Pu.Node.name t) (Pu.Node.args t) c).v (Pu.evLet (Pu.ev call k) env (Pu.Node.name t) (Pu.Node.args t) c).e ∧ Fr (· = rb) w w' ∧ St rb fv F d (Pu.evLet (Pu.ev call k) env (Pu.Node.name t) (Pu.Node.args t) c).c w' := by
  have hwa := wt_args t
  obtain ⟨vv, av, cv, acs, ccs, rfl, hxs, _, hvv, hr, he, hrc, _⟩ := ht
  obtain ⟨kind, tn, x, tok, vars, args, cases⟩ := t
  simp only at *
  obtain ⟨va, vc, rfl, _⟩ := hvv.1.form
  obtain ⟨ca, cc, rfl, _⟩ := hrc.form
  have hrb := lt_of_heap hst.1
  have hrs : S (w.heap.size + 1) := hS.up _ (by omega)
  by_cases h2 : args.length = 2
  rotate_left
  · have e : Pu.evLet (Pu.ev call k) env x args c = ⟨Pu.V.zero, 5, c⟩ := by
      unfold Pu.evLet
      split
      · exact absurd rfl h2
      · rfl
    rw [e]
    clear e
    obtain ⟨aa, ac, rfl, _⟩ := hr.form
    have h2' : ((args.length : Int) != 2) = true := by simp; omega
    have z1 := heap_alloc_new (w.alloc (.cells #[.int .i64 kind, .int .i64 tn, .string x, .string tok, .slice va vars.length vc, .slice aa args.length ac, .slice ca cases.length cc] 38)) (.cells #[.bool false, .int .i64 0, .slice none 0 0] 29)
    rw [World.size_alloc] at z1
    have Z1 := hide z1
    have HST := hide hst
    clear hr he h2 hk hS hst hl hT z1 hvv hrc hxs hwa hwt
    show Calls Tryd.prog 69 #[.pointer (some ⟨rb, 0, none⟩), .agg #[.int .i64 kind, .int .i64 tn, .string x, .string tok, .slice va vars.length vc, .slice aa args.length ac, .slice ca cases.length cc], kv] w _
    go_enter Tryd.func69, Tryd.ntmps69
    go_wp2_with fail
    refine bodyPost_ret (ret2 rfl _ _ (w.heap.size + 1) (.bool false) (.int .i64 0) (.slice none 0 0) (.int .i64 5) (0, 0) rfl rfl Z1.out) rfl ⟨Ans.told rfl rfl, ((Fr.refl _ w).alloc _).alloc _, HST.out.fr (((Fr.refl No w).alloc _).alloc _) (fun e => e)⟩
  obtain ⟨ta, tb, rfl⟩ : ∃ ta tb, args = [ta, tb] := by
    match args, h2 with
    | [ta, tb], _ => exact ⟨ta, tb, rfl⟩
  simp only [List.length_cons, List.length_nil, Nat.zero_add, Nat.reduceAdd] at hr
  have hwta : Pu.wt k ta ≤ 1048576 := by have := hwa ta (by simp); omega
  have hwtb : Pu.wt k tb ≤ 1048576 := by have := hwa tb (by simp); omega
  obtain ⟨g, o, cap, hav, hcap1, hcap2, hgB, hgw, acs', hr1, he1⟩ := row_first hr he
  subst hav
  obtain ⟨g', o', cap', kd, n, x1, y1, b0, m0, e0, b1, m1, e1, b2, m2, e2, hav, _, _, _, hrt, hcell⟩ := args_at (args := [ta, tb]) hr he 1 (by simp)
  injection hav with hav1 _ hav2
  injection hav1 with hav1
  injection hav1 with hgg hoo _
  subst hgg hoo hav2
  unfold maxLen at hcap2
  simp only [List.getElem_cons_succ, List.getElem_cons_zero, Nat.one_mul] at hrt hcell
  have elet : Pu.evLet (Pu.ev call k) env x [ta, tb] c = if (Pu.ev call k env ta c).e = 0 then Pu.ev call k (env.bind [x] [(Pu.ev call k env ta c).v]) tb (Pu.ev call k env ta c).c else ⟨Pu.V.zero, (Pu.ev call k env ta c).e, (Pu.ev call k env ta c).c⟩ := rfl
  rw [elet]
  have eone := evL_one (Pu.ev call k env) ta c
  obtain ⟨oa, hoa⟩ : ∃ oa, oa = Pu.ev call k env ta c := ⟨_, rfl⟩
  rw [← hoa] at eone ⊢
  clear hoa
  obtain ⟨W0, hW0⟩ : ∃ W0, W0 = (w.alloc (.cells #[.int .i64 kind, .int .i64 tn, .string x, .string tok, .slice va vars.length vc, .slice (some ⟨g, o, none⟩) 2 cap, .slice ca cases.length cc] 38)).alloc (.cells #[.bool false, .int .i64 0, .slice none 0 0] 29) := ⟨_, rfl⟩
  have f0 : Fr No w W0 := by rw [hW0]; exact ((Fr.refl No w).alloc _).alloc _
  have z0 : W0.heap[w.heap.size]? = some (.cells #[.int .i64 kind, .int .i64 tn, .string x, .string tok, .slice va vars.length vc, .slice (some ⟨g, o, none⟩) 2 cap, .slice ca cases.length cc] 38 (0, 0)) := by rw [hW0]; exact fr_heap (heap_alloc_new w _) ((Fr.refl No _).alloc _) (fun e => e)
  have z1 : W0.heap[w.heap.size + 1]? = some (.cells #[.bool false, .int .i64 0, .slice none 0 0] 29 (0, 0)) := by
    have h := heap_alloc_new (w.alloc (.cells #[.int .i64 kind, .int .i64 tn, .string x, .string tok, .slice va vars.length vc, .slice (some ⟨g, o, none⟩) 2 cap, .slice ca cases.length cc] 38)) (.cells #[.bool false, .int .i64 0, .slice none 0 0] 29)
    rw [World.size_alloc] at h
    rw [hW0]; exact h
  have hW0s : w.heap.size + 1 < W0.heap.size := lt_of_heap z1
  have gb0 : Good (But S (w.heap.size + 1)) rb B W0 := hS.but f0.size hW0s (by omega)
  have sb0 : Stays S (But S (w.heap.size + 1)) w W0 := hS.staysBut (f0.mono (fun _ _ e => e.elim)) (by omega)
  have CT : Hid (Calls Tryd.prog 70 #[.pointer (some ⟨rb, 0, none⟩), .slice (some ⟨g, o, none⟩) 1 cap, kv] W0 fun e w' => ∃ a n cp, e = .returned (.tuple #[.slice a n cp, .int .i64 (Pu.evL (Pu.ev call k env) [ta] c).2.1]) ∧ Vals (But S (w.heap.size + 1)) w' (.slice a n cp) (Pu.evL (Pu.ev call k env) [ta] c).1 ∧ Fr (· = rb) W0 w' ∧ St rb fv F d (Pu.evL (Pu.ev call k env) [ta] c).2.2 w') :=
    terms_any K k B rb F d fv l call hT hBr (But S (w.heap.size + 1)) m W0 _ acs' [ta] kv env c gb0 (hr1.old (f0.old (by omega) (fun _ _ e => e)) f0.size) (args_old he1 (f0.old (by omega) (fun _ _ e => e)) f0.size) (hk.kept sb0) (hst.fr f0 (fun e => e)) (hl.old (f0.old (by omega) (fun _ _ e => e)) f0.size) (by simp) (fun i h => by
      have : i = 0 := by simpa using h
      subst this; exact hwta)
  rw [eone] at CT
  have HW0 := hide hW0
  have F0 := hide f0
  have Z0 := hide z0
  have Z1 := hide z1
  have HT := hide hT
  have HS := hide hS
  have HK := hide (hk.kept sb0)
  have HL := hide hl
  have HRT := hide hrt
  have HCELL := hide hcell
  have HXS := hide hxs
  have GB0 := hide gb0
  clear hW0 f0 z0 z1 hT hS hk hl hrt hcell hst hr he hr1 he1 hvv hrc gb0 sb0 h2 elet eone hwa hwt hxs
  show Calls Tryd.prog 69 #[.pointer (some ⟨rb, 0, none⟩), .agg #[.int .i64 kind, .int .i64 tn, .string x, .string tok, .slice va vars.length vc, .slice (some ⟨g, o, none⟩) 2 cap, .slice ca cases.length cc], kv] w _
  by_cases he0 : oa.e = 0
  rotate_left
  · rw [if_neg he0] at CT ⊢
    simp only at CT ⊢
    have he0' : (oa.e != 0) = true := by simpa using he0
    go_enter Tryd.func69, Tryd.ntmps69
    go_wp2_with fail
    rw [← HW0.out]
    refine CT.out.mono ?_
    rintro e w1 ⟨a, n2, cp, rfl, _, hf1, hst1⟩
    have g1 := fr_heap Z1.out hf1 (fun e => by have e : w.heap.size + 1 = rb := e; omega)
    have G1 := hide g1
    have F1 := hide ((F0.out.mono (fun _ _ e => e.elim)).trans hf1)
    have HST1 := hide hst1
    have r0 := cell_of_heap g1
    have rz := frozen_of_heap g1
    have hl1 := lt_of_heap g1
    clear g1 hf1 hst1 CT
    go_wp2_with fail
    obtain ⟨s1, s2⟩ := set3 G1.out (.bool false) (.int .i64 0) (.slice none 0 0)
    refine bodyPost_ret (ret2 rfl _ _ (w.heap.size + 1) (.bool false) (.int .i64 0) (.slice none 0 0) (.int .i64 oa.e) (0, 0) rfl rfl s1) rfl ⟨Ans.told rfl rfl, ?_, ?_⟩
    · exact F1.out.trans' s2 (fun j hj e => by have e : j = w.heap.size + 1 := e; omega)
    · exact HST1.out.fr s2 (fun e => by have e : rb = w.heap.size + 1 := e; omega)
  · rw [if_pos he0] at CT ⊢
    simp only at CT ⊢
    obtain ⟨ob, hob⟩ : ∃ ob, ob = Pu.ev call k (env.bind [x] [oa.v]) tb oa.c := ⟨_, rfl⟩
    rw [← hob]
    have HOB := hide hob
    clear hob
    go_enter Tryd.func69, Tryd.ntmps69
    go_wp2_with fail
    rw [← HW0.out]
    refine CT.out.mono ?_
    rintro e w1 ⟨a, n2, cp, rfl, hv1, hf1, hst1⟩
    have hn2 : n2 = 1 := by obtain ⟨_, _, h, _⟩ := hv1.form; injection h
    subst hn2
    have hf01 : Fr (· = rb) w w1 := (F0.out.mono (fun _ _ e => e.elim)).trans hf1
    have g1 := fr_heap Z1.out hf1 (fun e => by have e : w.heap.size + 1 = rb := e; omega)
    have g0 := fr_heap Z0.out hf1 (fun e => by have e : w.heap.size = rb := e; omega)
    have hl1 := lt_of_heap g1
    have SA : Hid (∀ W, Fr (· = rb) w1 W → (W.cell? ⟨w.heap.size, 2, none⟩ = some (.string x) ∧ W.cell? ⟨w.heap.size, 5, none⟩ = some (.slice (some ⟨g, o, none⟩) 2 cap) ∧ W.cell? ⟨g, o + 7, none⟩ = some (.int .i64 kd) ∧ W.cell? ⟨g, o + 7 + 1, none⟩ = some (.int .i64 n) ∧ W.cell? ⟨g, o + 7 + 2, none⟩ = some (.string x1) ∧ W.cell? ⟨g, o + 7 + 3, none⟩ = some (.string y1) ∧ W.cell? ⟨g, o + 7 + 4, none⟩ = some (.slice b0 m0 e0) ∧ W.cell? ⟨g, o + 7 + 5, none⟩ = some (.slice b1 m1 e1) ∧ W.cell? ⟨g, o + 7 + 6, none⟩ = some (.slice b2 m2 e2))) := fun W hW => by
      have hg : ∀ j, j < 7 → W.cell? ⟨g, o + 7 + j, none⟩ = [Value.int .i64 kd, .int .i64 n, .string x1, .string y1, .slice b0 m0 e0, .slice b1 m1 e1, .slice b2 m2 e2][j]? := fun j hj => by
        rw [(old_rb (hf01.trans hW) hBr hrb).cell (a := ⟨g, o + 7 + j, none⟩) hgB]; exact HCELL.out j hj
      have g0' := fr_heap g0 hW (fun e => by have e : w.heap.size = rb := e; omega)
      exact ⟨cell_of_heap g0' 2, cell_of_heap g0' 5, hg 0 (by omega), hg 1 (by omega), hg 2 (by omega), hg 3 (by omega), hg 4 (by omega), hg 5 (by omega), hg 6 (by omega)⟩
    have KA : Hid (∀ (W : World) (oo : Obj), (W.cell? ⟨w.heap.size, 2, none⟩ = some (.string x) ∧ W.cell? ⟨w.heap.size, 5, none⟩ = some (.slice (some ⟨g, o, none⟩) 2 cap) ∧ W.cell? ⟨g, o + 7, none⟩ = some (.int .i64 kd) ∧ W.cell? ⟨g, o + 7 + 1, none⟩ = some (.int .i64 n) ∧ W.cell? ⟨g, o + 7 + 2, none⟩ = some (.string x1) ∧ W.cell? ⟨g, o + 7 + 3, none⟩ = some (.string y1) ∧ W.cell? ⟨g, o + 7 + 4, none⟩ = some (.slice b0 m0 e0) ∧ W.cell? ⟨g, o + 7 + 5, none⟩ = some (.slice b1 m1 e1) ∧ W.cell? ⟨g, o + 7 + 6, none⟩ = some (.slice b2 m2 e2)) → ((W.alloc oo).cell? ⟨w.heap.size, 2, none⟩ = some (.string x) ∧ (W.alloc oo).cell? ⟨w.heap.size, 5, none⟩ = some (.slice (some ⟨g, o, none⟩) 2 cap) ∧ (W.alloc oo).cell? ⟨g, o + 7, none⟩ = some (.int .i64 kd) ∧ (W.alloc oo).cell? ⟨g, o + 7 + 1, none⟩ = some (.int .i64 n) ∧ (W.alloc oo).cell? ⟨g, o + 7 + 2, none⟩ = some (.string x1) ∧ (W.alloc oo).cell? ⟨g, o + 7 + 3, none⟩ = some (.string y1) ∧ (W.alloc oo).cell? ⟨g, o + 7 + 4, none⟩ = some (.slice b0 m0 e0) ∧ (W.alloc oo).cell? ⟨g, o + 7 + 5, none⟩ = some (.slice b1 m1 e1) ∧ (W.alloc oo).cell? ⟨g, o + 7 + 6, none⟩ = some (.slice b2 m2 e2))) := fun W oo ⟨h0, h1, h2, h3, h4, h5, h6, h7, h8⟩ => ⟨cell_alloc oo h0, cell_alloc oo h1, cell_alloc oo h2, cell_alloc oo h3, cell_alloc oo h4, cell_alloc oo h5, cell_alloc oo h6, cell_alloc oo h7, cell_alloc oo h8⟩
    have K3 : Hid (∀ (W : World) (u0 u1 u2 : Value), (W.cell? ⟨w.heap.size, 2, none⟩ = some (.string x) ∧ W.cell? ⟨w.heap.size, 5, none⟩ = some (.slice (some ⟨g, o, none⟩) 2 cap) ∧ W.cell? ⟨g, o + 7, none⟩ = some (.int .i64 kd) ∧ W.cell? ⟨g, o + 7 + 1, none⟩ = some (.int .i64 n) ∧ W.cell? ⟨g, o + 7 + 2, none⟩ = some (.string x1) ∧ W.cell? ⟨g, o + 7 + 3, none⟩ = some (.string y1) ∧ W.cell? ⟨g, o + 7 + 4, none⟩ = some (.slice b0 m0 e0) ∧ W.cell? ⟨g, o + 7 + 5, none⟩ = some (.slice b1 m1 e1) ∧ W.cell? ⟨g, o + 7 + 6, none⟩ = some (.slice b2 m2 e2)) → ((((W.setCell ⟨w.heap.size + 1, 0, none⟩ u0).setCell ⟨w.heap.size + 1, 1, none⟩ u1).setCell ⟨w.heap.size + 1, 2, none⟩ u2).cell? ⟨w.heap.size, 2, none⟩ = some (.string x) ∧ (((W.setCell ⟨w.heap.size + 1, 0, none⟩ u0).setCell ⟨w.heap.size + 1, 1, none⟩ u1).setCell ⟨w.heap.size + 1, 2, none⟩ u2).cell? ⟨w.heap.size, 5, none⟩ = some (.slice (some ⟨g, o, none⟩) 2 cap) ∧ (((W.setCell ⟨w.heap.size + 1, 0, none⟩ u0).setCell ⟨w.heap.size + 1, 1, none⟩ u1).setCell ⟨w.heap.size + 1, 2, none⟩ u2).cell? ⟨g, o + 7, none⟩ = some (.int .i64 kd) ∧ (((W.setCell ⟨w.heap.size + 1, 0, none⟩ u0).setCell ⟨w.heap.size + 1, 1, none⟩ u1).setCell ⟨w.heap.size + 1, 2, none⟩ u2).cell? ⟨g, o + 7 + 1, none⟩ = some (.int .i64 n) ∧ (((W.setCell ⟨w.heap.size + 1, 0, none⟩ u0).setCell ⟨w.heap.size + 1, 1, none⟩ u1).setCell ⟨w.heap.size + 1, 2, none⟩ u2).cell? ⟨g, o + 7 + 2, none⟩ = some (.string x1) ∧ (((W.setCell ⟨w.heap.size + 1, 0, none⟩ u0).setCell ⟨w.heap.size + 1, 1, none⟩ u1).setCell ⟨w.heap.size + 1, 2, none⟩ u2).cell? ⟨g, o + 7 + 3, none⟩ = some (.string y1) ∧ (((W.setCell ⟨w.heap.size + 1, 0, none⟩ u0).setCell ⟨w.heap.size + 1, 1, none⟩ u1).setCell ⟨w.heap.size + 1, 2, none⟩ u2).cell? ⟨g, o + 7 + 4, none⟩ = some (.slice b0 m0 e0) ∧ (((W.setCell ⟨w.heap.size + 1, 0, none⟩ u0).setCell ⟨w.heap.size + 1, 1, none⟩ u1).setCell ⟨w.heap.size + 1, 2, none⟩ u2).cell? ⟨g, o + 7 + 5, none⟩ = some (.slice b1 m1 e1) ∧ (((W.setCell ⟨w.heap.size + 1, 0, none⟩ u0).setCell ⟨w.heap.size + 1, 1, none⟩ u1).setCell ⟨w.heap.size + 1, 2, none⟩ u2).cell? ⟨g, o + 7 + 6, none⟩ = some (.slice b2 m2 e2))) := fun W u0 u1 u2 ⟨h0, h1, h2, h3, h4, h5, h6, h7, h8⟩ =>
      ⟨(keep3 u0 u1 u2 (by omega)).trans h0, (keep3 u0 u1 u2 (by omega)).trans h1, (keep3 u0 u1 u2 (by omega)).trans h2, (keep3 u0 u1 u2 (by omega)).trans h3, (keep3 u0 u1 u2 (by omega)).trans h4, (keep3 u0 u1 u2 (by omega)).trans h5, (keep3 u0 u1 u2 (by omega)).trans h6, (keep3 u0 u1 u2 (by omega)).trans h7, (keep3 u0 u1 u2 (by omega)).trans h8⟩
    have gw1 : Good (But S (w.heap.size + 1)) rb B w1 := GB0.out.fr hf1
    have AW : Hid (Calls Tryd.prog 54 #[kv, .slice (some ⟨w1.heap.size, 0, none⟩) 1 1, .slice a 1 cp] (w1.alloc (.cells #[.string x] 9)).drew fun e w' => ∃ nb vb kb, e = .returned (.func (.func 73) #[] #[.pointer (some ⟨nb, 0, none⟩), .pointer (some ⟨vb, 0, none⟩), .pointer (some ⟨kb, 0, none⟩)]) ∧ Fr No w1 w' ∧ KN (But S (w.heap.size + 1)) (m + 1) w' (.func (.func 73) #[] #[.pointer (some ⟨nb, 0, none⟩), .pointer (some ⟨vb, 0, none⟩), .pointer (some ⟨kb, 0, none⟩)]) (env.bind [x] [oa.v]) ∧ (w'.cell? ⟨w.heap.size, 2, none⟩ = some (.string x) ∧ w'.cell? ⟨w.heap.size, 5, none⟩ = some (.slice (some ⟨g, o, none⟩) 2 cap) ∧ w'.cell? ⟨g, o + 7, none⟩ = some (.int .i64 kd) ∧ w'.cell? ⟨g, o + 7 + 1, none⟩ = some (.int .i64 n) ∧ w'.cell? ⟨g, o + 7 + 2, none⟩ = some (.string x1) ∧ w'.cell? ⟨g, o + 7 + 3, none⟩ = some (.string y1) ∧ w'.cell? ⟨g, o + 7 + 4, none⟩ = some (.slice b0 m0 e0) ∧ w'.cell? ⟨g, o + 7 + 5, none⟩ = some (.slice b1 m1 e1) ∧ w'.cell? ⟨g, o + 7 + 6, none⟩ = some (.slice b2 m2 e2))) := by
      have fa : Fr No w1 (w1.alloc (.cells #[.string x] 9)).drew := ((Fr.refl No w1).alloc _).drew
      have hup : Up (But S (w.heap.size + 1)) w1 := gw1.up
      refine (with_any (But S (w.heap.size + 1)) m _ kv _ _ [x] [oa.v] env (gw1.fr fa).up ((HK.out.kept (GB0.out.stays hf1)).kept (stays_no fa)) (name_new (w := (w1.alloc (.cells #[.string x] 9)).drew) (heap_alloc_new w1 _) (hup _ (Nat.le_refl _)) HXS.out) (hv1.kept (stays_no fa)) rfl).mono ?_
      rintro e w' ⟨nb, vb, kb, he, h1, h2⟩
      exact ⟨nb, vb, kb, he, fa.trans h1, h2, SA.out w' ((fa.trans h1).mono (fun _ _ e => e.elim))⟩
    have AT : Hid (∀ W nb vb kb, Fr No w1 W → KN (But S (w.heap.size + 1)) (m + 1) W (.func (.func 73) #[] #[.pointer (some ⟨nb, 0, none⟩), .pointer (some ⟨vb, 0, none⟩), .pointer (some ⟨kb, 0, none⟩)]) (env.bind [x] [oa.v]) → Calls Tryd.prog 52 #[.pointer (some ⟨rb, 0, none⟩), .agg #[.int .i64 kd, .int .i64 n, .string x1, .string y1, .slice b0 m0 e0, .slice b1 m1 e1, .slice b2 m2 e2], (.func (.func 73) #[] #[.pointer (some ⟨nb, 0, none⟩), .pointer (some ⟨vb, 0, none⟩), .pointer (some ⟨kb, 0, none⟩)])] W fun e w' => ∃ p0 p1 p2, e = .returned (.tuple #[.agg #[.bool ob.v.con, .int .i64 ob.v.n, .slice p0 p1 p2], .int .i64 ob.e]) ∧ AV (But S (w.heap.size + 1)) w' [.bool ob.v.con, .int .i64 ob.v.n, .slice p0 p1 p2] ob.v ∧ Fr (· = rb) w1 w' ∧ St rb fv F d ob.c w' ∧ (w'.cell? ⟨w.heap.size, 2, none⟩ = some (.string x) ∧ w'.cell? ⟨w.heap.size, 5, none⟩ = some (.slice (some ⟨g, o, none⟩) 2 cap) ∧ w'.cell? ⟨g, o + 7, none⟩ = some (.int .i64 kd) ∧ w'.cell? ⟨g, o + 7 + 1, none⟩ = some (.int .i64 n) ∧ w'.cell? ⟨g, o + 7 + 2, none⟩ = some (.string x1) ∧ w'.cell? ⟨g, o + 7 + 3, none⟩ = some (.string y1) ∧ w'.cell? ⟨g, o + 7 + 4, none⟩ = some (.slice b0 m0 e0) ∧ w'.cell? ⟨g, o + 7 + 5, none⟩ = some (.slice b1 m1 e1) ∧ w'.cell? ⟨g, o + 7 + 6, none⟩ = some (.slice b2 m2 e2)) ∧ w'.cell? ⟨w.heap.size + 1, 0, none⟩ = some (.bool false) ∧ w'.cell? ⟨w.heap.size + 1, 1, none⟩ = some (.int .i64 0) ∧ w'.cell? ⟨w.heap.size + 1, 2, none⟩ = some (.slice none 0 0) ∧ (∀ o, w'.frozen? ⟨w.heap.size + 1, o, none⟩ = false)) := fun W nb vb kb hW hKN => by
      rw [HOB.out]
      have hfW : Fr (· = rb) w W := hf01.no hW
      refine (HT.out (But S (w.heap.size + 1)) (m + 1) W _ tb _ _ oa.c (gw1.fr hW) (HRT.out.old (old_rb hfW hBr hrb) hfW.size) hKN (hst1.fr hW (fun e => e)) (HL.out.old (old_rb hfW hBr hrb) hfW.size) hwtb).mono ?_
      rintro e w' ⟨⟨cs, he, hav⟩, h1, h2⟩
      obtain ⟨p0, p1, p2, rfl⟩ := hav.tuple
      have f1 : Fr (· = rb) w1 w' := (hW.mono (fun _ _ e => e.elim)).trans h1
      have g1' := fr_heap g1 f1 (fun e => by have e : w.heap.size + 1 = rb := e; omega)
      exact ⟨p0, p1, p2, he, hav, f1, h2, SA.out w' f1, cell_of_heap g1' 0, cell_of_heap g1' 1, cell_of_heap g1' 2, frozen_of_heap g1'⟩
    have D0 : Fr No w1 w1.drew := (Fr.refl No w1).drew
    have HZ := hide (SA.out w1.drew (D0.mono (fun _ _ e => e.elim)))
    have HZA := hide (SA.out (w1.alloc (.cells #[.string x] 9)).drew ((((Fr.refl No w1).alloc _).drew).mono (fun _ _ e => e.elim)))
    have G1 := hide g1
    have HF01 := hide hf01
    clear hv1 hf1 hst1 hf01 g1 g0 gw1 CT HK HT HL HRT HCELL GB0 HS
    go_wp2_with fail
    go_region_held3 (fun w' : World => w'.cell? ⟨w.heap.size, 2, none⟩ = some (.string x) ∧ w'.cell? ⟨w.heap.size, 5, none⟩ = some (.slice (some ⟨g, o, none⟩) 2 cap) ∧ w'.cell? ⟨g, o + 7, none⟩ = some (.int .i64 kd) ∧ w'.cell? ⟨g, o + 7 + 1, none⟩ = some (.int .i64 n) ∧ w'.cell? ⟨g, o + 7 + 2, none⟩ = some (.string x1) ∧ w'.cell? ⟨g, o + 7 + 3, none⟩ = some (.string y1) ∧ w'.cell? ⟨g, o + 7 + 4, none⟩ = some (.slice b0 m0 e0) ∧ w'.cell? ⟨g, o + 7 + 5, none⟩ = some (.slice b1 m1 e1) ∧ w'.cell? ⟨g, o + 7 + 6, none⟩ = some (.slice b2 m2 e2)) (first | with_reducible assumption | with_reducible exact HZ.out | with_reducible exact HZA.out | with_reducible exact K3.out _ _ _ _ (by with_reducible assumption))
      (first
        | (go_at_call 54; refine AW.out.mono ?_; rintro e w2 ⟨nb, vb, kb, rfl, hf2, hk2, hz2⟩; have HF2 := hide hf2; have HK2 := hide hk2; clear hf2 hk2)
        | (go_at_call 52; refine (AT.out _ _ _ _ HF2.out HK2.out).mono ?_; rintro e w3 ⟨p0, p1, p2, rfl, hav3, hf3, hst3, hz3, r0, r1, r2, rz⟩; have HAV3 := hide hav3; have HF3 := hide hf3; have HST3 := hide hst3; clear hav3 hf3 hst3))
    have g3 := fr_heap G1.out HF3.out (fun e => by have e : w.heap.size + 1 = rb := e; omega)
    obtain ⟨s1, s2⟩ := set3 g3 (.bool ob.v.con) (.int .i64 ob.v.n) (.slice p0 p1 p2)
    clear r0 r1 r2 rz hz2 hz3 AW AT SA KA K3 HZ HZA g3
    go_wp2_with fail
    refine bodyPost_ret (ret2 rfl _ _ (w.heap.size + 1) (.bool ob.v.con) (.int .i64 ob.v.n) (.slice p0 p1 p2) (.int .i64 ob.e) (0, 0) rfl rfl s1) rfl ⟨⟨[.bool ob.v.con, .int .i64 ob.v.n, .slice p0 p1 p2], rfl, HAV3.out.shut s2⟩, ?_, ?_⟩
    · exact (HF01.out.trans HF3.out).trans' s2 (fun j hj e => by have e : j = w.heap.size + 1 := e; omega)
    · exact HST3.out.fr s2 (fun e => by have e : rb = w.heap.size + 1 := e; omega)
end Go.Proofs.YtdgmengfdfkgaabDoor
