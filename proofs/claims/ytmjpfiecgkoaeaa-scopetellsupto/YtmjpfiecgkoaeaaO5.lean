/- 'Own' and 'Fns', walked. -/
import Derived.Test.YtmjpfiecgkoaeaaO4
namespace Go.Proofs.Ytmjpfiecgkoaeaa
open Go.RowKit Go.Maps Go.WideMaps

theorem wt_get {α : Type} (f : α → Nat) (l : List α) (i : Nat) (h : i < l.length) : f l[i] ≤ (l.map f).sum := by
  have h1 := sumW_succ f l i h
  have h2 := sumW_le f l (i + 1)
  omega
theorem len_le {α : Type} (f : α → Nat) (hf : ∀ a, 1 ≤ f a) : ∀ l : List α, l.length ≤ (l.map f).sum
  | [] => Nat.zero_le _
  | a :: l => by have := len_le f hf l; have := hf a; simp only [List.length_cons, List.map_cons, List.sum_cons]; omega
theorem wt_pos : ∀ (k : Nat) (t : Pu.TT k), 1 ≤ Pu.wt k t
  | 0, t => nomatch t
  | k + 1, t => by show 1 ≤ Pu.wN _ _; unfold Pu.wN; omega

theorem heap_set {w : World} {R o : Nat} {cur : Array Value} {t : TypeId} {z : Nat × Nat} {u : Value} (h : w.heap[R]? = some (.cells cur t z)) : (w.setCell ⟨R, o, none⟩ u).heap[R]? = some (.cells (cur.setIfInBounds o u) t z) := by
  simp [World.setCell, Array.getElem?_modify, h]

set_option maxHeartbeats 4000000 in
theorem own_node (k : Nat) (hO : OwnC k) : OwnC (k + 1) := by
  intro B w cs t ht hB hw
  obtain ⟨vv, av, cv, acs, ccs, rfl, hx, hn, hvars, hr, he, hq, hf⟩ := ht
  obtain ⟨a0, d0, rfl, _⟩ := hvars.1.form
  obtain ⟨a1, d1, rfl, hd1, hd1'⟩ := hr.form
  obtain ⟨a2, d2, rfl, hd2, hd2'⟩ := hq.form
  have hwt : Pu.wt (k + 1) t = 1 + t.vars.length + (t.args.map (Pu.wt k)).sum + (t.cases.map fun c => 1 + c.2.1.length + Pu.wt k c.2.2).sum := rfl
  have hla := len_le (Pu.wt k) (wt_pos k) t.args
  have hlc := len_le (fun c : Int × List ByteArray × Pu.TT k => 1 + c.2.1.length + Pu.wt k c.2.2) (fun c => by omega) t.cases
  have C22 : Hid (∀ W, Fr No w W → Calls Try.prog 22 #[.slice a0 t.vars.length d0, .func (.func 23) #[] #[]] W fun e w' => ∃ a c, e = .returned (.slice a t.vars.length c) ∧ Fr No W w' ∧ NamesS (New W w') w' (.slice a t.vars.length c) t.vars) := fun W hW =>
    copyNames_any B _ t.vars W (hvars.kept (hW.old hB (fun _ _ e => e)) (Nat.le_refl _) hW.size) (by omega)
  have C24 : Hid (∀ W, Fr No w W → Calls Try.prog 24 #[.slice a1 t.args.length d1, .func (.func 7) #[] #[]] W fun e w' => ∃ a c, e = .returned (.slice a t.args.length c) ∧ Fr No W w' ∧ ∃ acs', RowS (New W w') w' (.slice a t.args.length c) t.args.length acs' ∧ Each 7 (RTS k (New W w') w') acs' t.args) := fun W hW =>
    copyTerms_any k hO B _ acs t.args W (hr.old (hW.old hB (fun _ _ e => e)) hW.size) (args_old he (hW.old hB (fun _ _ e => e)) hW.size) (Nat.le_trans hB hW.size) (by omega) (fun i h => by have := wt_get (Pu.wt k) t.args i h; omega)
  have C25 : Hid (∀ W, Fr No w W → Calls Try.prog 25 #[.slice a2 t.cases.length d2, .func (.func 26) #[] #[]] W fun e w' => ∃ a c, e = .returned (.slice a t.cases.length c) ∧ Fr No W w' ∧ ∃ acs', RowS (New W w') w' (.slice a t.cases.length c) t.cases.length acs' ∧ Each 9 (RCS (RTS k (New W w') w') (New W w') w') acs' t.cases) := fun W hW =>
    copyCases_any k hO B _ ccs t.cases W (hq.old (hW.old hB (fun _ _ e => e)) hW.size) (cases_old hf (hW.old hB (fun _ _ e => e)) hW.size) (Nat.le_trans hB hW.size) (by omega) (fun i h => by have := wt_get (fun c : Int × List ByteArray × Pu.TT k => 1 + c.2.1.length + Pu.wt k c.2.2) t.cases i h; omega)
  have HX := hide hx
  have HN := hide hn
  clear hx hn hvars hr he hq hf hO hwt hla hlc
  obtain ⟨w0, hw0⟩ : ∃ w0, w0 = (w.alloc (.cells #[.int .i64 t.kind, .int .i64 t.n, .string t.name, .string t.token, .slice a0 t.vars.length d0, .slice a1 t.args.length d1, .slice a2 t.cases.length d2] 27)).alloc (.cells #[.int .i64 0, .int .i64 0, .string ⟨#[]⟩, .string ⟨#[]⟩, .slice none 0 0, .slice none 0 0, .slice none 0 0] 27) := ⟨_, rfl⟩
  have f0 : Fr No w w0 := by rw [hw0]; exact ((Fr.refl No w).alloc _).alloc _
  have hs0 : w0.heap.size = w.heap.size + 2 := by rw [hw0]; simp
  have g0 : w0.heap[w.heap.size]? = some (.cells #[.int .i64 t.kind, .int .i64 t.n, .string t.name, .string t.token, .slice a0 t.vars.length d0, .slice a1 t.args.length d1, .slice a2 t.cases.length d2] 27 (0, 0)) := by
    rw [hw0]; exact fr_heap (heap_alloc_new _ _) ((Fr.refl No _).alloc _) (fun e => e)
  have g1 : w0.heap[w.heap.size + 1]? = some (.cells #[.int .i64 0, .int .i64 0, .string ⟨#[]⟩, .string ⟨#[]⟩, .slice none 0 0, .slice none 0 0, .slice none 0 0] 27 (0, 0)) := by
    rw [hw0]
    have := heap_alloc_new (w.alloc (.cells #[.int .i64 t.kind, .int .i64 t.n, .string t.name, .string t.token, .slice a0 t.vars.length d0, .slice a1 t.args.length d1, .slice a2 t.cases.length d2] 27)) (.cells #[.int .i64 0, .int .i64 0, .string ⟨#[]⟩, .string ⟨#[]⟩, .slice none 0 0, .slice none 0 0, .slice none 0 0] 27)
    rw [World.size_alloc] at this; exact this
  have F0 := hide f0
  have HS0 := hide hs0
  have G0 := hide g0
  have G1 := hide g1
  rw [hw0] at F0 HS0 G0 G1
  clear f0 hs0 g0 g1 hw0
  show Calls Try.prog 7 #[.agg #[.int .i64 t.kind, .int .i64 t.n, .string t.name, .string t.token, .slice a0 t.vars.length d0, .slice a1 t.args.length d1, .slice a2 t.cases.length d2]] w _
  go_enter Try.func7, Try.ntmps7
  go_wp2_with fail
  refine (C22.out _ F0.out).mono ?_
  rintro e w1 ⟨va, vc, rfl, hf1, hn1⟩
  have g01 := fr_heap G0.out hf1 (fun e => e)
  have g11 := fr_heap G1.out hf1 (fun e => e)
  have b0 := cell_of_heap g01
  have z0 := frozen_of_heap g01
  have F1 := hide (F0.out.trans hf1)
  have N1 := hide hn1
  have G01 := hide g01
  have G11 := hide g11
  have S1 := hide (Nat.le_trans (Nat.le_of_eq HS0.out.symm) hf1.size)
  clear hf1 hn1 g01 g11 C22
  go_wp2_with fail
  obtain ⟨X1, hX1⟩ : ∃ X1, X1 = w1.setCell ⟨w.heap.size, 4, none⟩ (.slice va t.vars.length vc) := ⟨_, rfl⟩
  rw [← hX1]
  have fx1 : Fr (· = w.heap.size) w1 X1 := by rw [hX1]; exact (Fr.refl (· = w.heap.size) w1).setCell (.inl rfl) _
  have gx1 : X1.heap[w.heap.size]? = some (.cells #[.int .i64 t.kind, .int .i64 t.n, .string t.name, .string t.token, .slice va t.vars.length vc, .slice a1 t.args.length d1, .slice a2 t.cases.length d2] 27 (0, 0)) := by rw [hX1]; exact heap_set G01.out
  have hx1 : X1.heap[w.heap.size + 1]? = some (.cells #[.int .i64 0, .int .i64 0, .string ⟨#[]⟩, .string ⟨#[]⟩, .slice none 0 0, .slice none 0 0, .slice none 0 0] 27 (0, 0)) := fr_heap G11.out fx1 (fun e => by have e : w.heap.size + 1 = w.heap.size := e; omega)
  have FX1 := hide (F1.out.trans' fx1 (fun i hi e => by have e : i = w.heap.size := e; omega))
  have NX1 := hide (N1.out.kept (stays_fr (S' := fun g => w.heap.size + 2 ≤ g ∧ g < X1.heap.size) fx1 (fun g hg _ e => by have e : g = w.heap.size := e; have := hg.1; rw [HS0.out] at this; omega) (fun g hg => ⟨by have := hg.1; rw [HS0.out] at this; exact this, Nat.lt_of_lt_of_le hg.2 fx1.size⟩)))
  have hsx1 : w.heap.size + 2 ≤ X1.heap.size := Nat.le_trans S1.out fx1.size
  have GX1 := hide gx1
  have HX1 := hide hx1
  clear hX1 fx1 gx1 hx1 b0 z0 G01 G11 N1 F1 S1
  refine (C24.out _ FX1.out).mono ?_
  rintro e w2 ⟨ua, uc, rfl, hf2, acs', hrow2, hea2⟩
  have g02 := fr_heap GX1.out hf2 (fun e => e)
  have g12 := fr_heap HX1.out hf2 (fun e => e)
  have b0 := cell_of_heap g02
  have z0 := frozen_of_heap g02
  have F2 := hide (FX1.out.trans hf2)
  have N2 := hide (NX1.out.kept (stays_fr (S' := fun g => w.heap.size + 2 ≤ g ∧ g < w2.heap.size) hf2 (fun _ _ _ e => e) (fun g hg => ⟨hg.1, Nat.lt_of_lt_of_le hg.2 hf2.size⟩)))
  have st2 : Stays (New X1 w2) (fun g => w.heap.size + 2 ≤ g ∧ g < w2.heap.size) w2 w2 := ⟨Nat.le_refl _, fun g hg _ => ⟨⟨Nat.le_trans hsx1 hg.1, hg.2⟩, rfl⟩⟩
  have R2 := hide (hrow2.kept st2)
  have E2 := hide (hea2.mono fun _ _ h => RTS.kept st2 h)
  have hsx2 : w.heap.size + 2 ≤ w2.heap.size := Nat.le_trans hsx1 hf2.size
  have G02 := hide g02
  have G12 := hide g12
  clear hf2 g02 g12 hrow2 hea2 st2 NX1 GX1 HX1 FX1 C24 hsx1
  go_wp2_with fail
  obtain ⟨X2, hX2⟩ : ∃ X2, X2 = w2.setCell ⟨w.heap.size, 5, none⟩ (.slice ua t.args.length uc) := ⟨_, rfl⟩
  rw [← hX2]
  have fx2 : Fr (· = w.heap.size) w2 X2 := by rw [hX2]; exact (Fr.refl (· = w.heap.size) w2).setCell (.inl rfl) _
  have gx2 : X2.heap[w.heap.size]? = some (.cells #[.int .i64 t.kind, .int .i64 t.n, .string t.name, .string t.token, .slice va t.vars.length vc, .slice ua t.args.length uc, .slice a2 t.cases.length d2] 27 (0, 0)) := by rw [hX2]; exact heap_set G02.out
  have hx2 : X2.heap[w.heap.size + 1]? = some (.cells #[.int .i64 0, .int .i64 0, .string ⟨#[]⟩, .string ⟨#[]⟩, .slice none 0 0, .slice none 0 0, .slice none 0 0] 27 (0, 0)) := fr_heap G12.out fx2 (fun e => by have e : w.heap.size + 1 = w.heap.size := e; omega)
  have FX2 := hide (F2.out.trans' fx2 (fun i hi e => by have e : i = w.heap.size := e; omega))
  have st2 : Stays (fun g => w.heap.size + 2 ≤ g ∧ g < w2.heap.size) (fun g => w.heap.size + 2 ≤ g ∧ g < X2.heap.size) w2 X2 := stays_fr fx2 (fun g hg _ e => by have e : g = w.heap.size := e; omega) (fun g hg => ⟨hg.1, Nat.lt_of_lt_of_le hg.2 fx2.size⟩)
  have NX2 := hide (N2.out.kept st2)
  have RX2 := hide (R2.out.kept st2)
  have EX2 := hide (E2.out.mono fun _ _ h => RTS.kept st2 h)
  have hsx3 : w.heap.size + 2 ≤ X2.heap.size := Nat.le_trans hsx2 fx2.size
  have GX2 := hide gx2
  have HX2 := hide hx2
  clear hX2 fx2 gx2 hx2 b0 z0 G02 G12 N2 R2 E2 F2 hsx2 st2
  refine (C25.out _ FX2.out).mono ?_
  rintro e w3 ⟨ta, tc, rfl, hf3, ccs', hrow3, hea3⟩
  have g03 := fr_heap GX2.out hf3 (fun e => e)
  have g13 := fr_heap HX2.out hf3 (fun e => e)
  have b0 := cell_of_heap g03
  have z0 := frozen_of_heap g03
  have F3 := hide (FX2.out.trans hf3)
  have st3 : Stays (fun g => w.heap.size + 2 ≤ g ∧ g < X2.heap.size) (fun g => w.heap.size + 2 ≤ g ∧ g < w3.heap.size) X2 w3 := stays_fr hf3 (fun _ _ _ e => e) (fun g hg => ⟨hg.1, Nat.lt_of_lt_of_le hg.2 hf3.size⟩)
  have N3 := hide (NX2.out.kept st3)
  have R3 := hide (RX2.out.kept st3)
  have E3 := hide (EX2.out.mono fun _ _ h => RTS.kept st3 h)
  have st4 : Stays (New X2 w3) (fun g => w.heap.size + 2 ≤ g ∧ g < w3.heap.size) w3 w3 := ⟨Nat.le_refl _, fun g hg _ => ⟨⟨Nat.le_trans hsx3 hg.1, hg.2⟩, rfl⟩⟩
  have Q3 := hide (hrow3.kept st4)
  have L3 := hide (hea3.mono fun _ _ h => rcs_kept st4 h)
  have hsx4 : w.heap.size + 2 ≤ w3.heap.size := Nat.le_trans hsx3 hf3.size
  have G03 := hide g03
  have G13 := hide g13
  clear hf3 g03 hrow3 hea3 st3 st4 NX2 RX2 EX2 GX2 HX2 FX2 C25 hsx3
  have c1 := cell_of_heap g13
  have z1 := frozen_of_heap g13
  clear g13
  go_wp2_with fail
  clear b0 z0 c1 z1
  obtain ⟨Y, hY⟩ : ∃ Y, Y = w3.setCell ⟨w.heap.size, 6, none⟩ (.slice ta t.cases.length tc) := ⟨_, rfl⟩
  have fy : Fr (· = w.heap.size) w3 Y := by rw [hY]; exact (Fr.refl (· = w.heap.size) w3).setCell (.inl rfl) _
  have gy : Y.heap[w.heap.size + 1]? = some (.cells #[.int .i64 0, .int .i64 0, .string ⟨#[]⟩, .string ⟨#[]⟩, .slice none 0 0, .slice none 0 0, .slice none 0 0] 27 (0, 0)) := fr_heap G13.out fy (fun e => by have e : w.heap.size + 1 = w.heap.size := e; omega)
  obtain ⟨cur', e1, e2, e3, e4, e5⟩ := sets_heap (w.heap.size + 1) 27 (0, 0) [.int .i64 t.kind, .int .i64 t.n, .string t.name, .string t.token, .slice va t.vars.length vc, .slice ua t.args.length uc, .slice ta t.cases.length tc] 0 Y _ gy (by simp)
  obtain ⟨Z, hZ⟩ : ∃ Z, Z = setsAt Y (w.heap.size + 1) 0 [.int .i64 t.kind, .int .i64 t.n, .string t.name, .string t.token, .slice va t.vars.length vc, .slice ua t.args.length uc, .slice ta t.cases.length tc] := ⟨_, rfl⟩
  rw [← hZ] at e1 e5
  have D1 : ∀ j, j < 7 → Z.cell? ⟨w.heap.size + 1, j, none⟩ = [Value.int .i64 t.kind, .int .i64 t.n, .string t.name, .string t.token, .slice va t.vars.length vc, .slice ua t.args.length uc, .slice ta t.cases.length tc][j]? := fun j hj => by
    rw [cell_of_heap e1]
    have := e4 j (by simpa using hj)
    rw [Nat.zero_add] at this
    exact this
  have r0 := D1 0 (by omega)
  have r1 := D1 1 (by omega)
  have r2 := D1 2 (by omega)
  have r3 := D1 3 (by omega)
  have r4 := D1 4 (by omega)
  have r5 := D1 5 (by omega)
  have r6 := D1 6 (by omega)
  have fz : Fr (fun i => i = w.heap.size ∨ i = w.heap.size + 1) w3 Z := (fy.mono (fun _ _ e => .inl e)).trans (e5.mono (fun _ _ e => .inr e))
  have st : Stays (fun g => w.heap.size + 2 ≤ g ∧ g < w3.heap.size) (New w Z) w3 Z := stays_fr fz (fun g hg _ e => by rcases e with e | e <;> omega) (fun g hg => ⟨by omega, Nat.lt_of_lt_of_le hg.2 fz.size⟩)
  have ew : ((((((((w3.setCell ⟨w.heap.size, 6, none⟩ (.slice ta t.cases.length tc)).setCell ⟨w.heap.size + 1, 0, none⟩ (.int .i64 t.kind)).setCell ⟨w.heap.size + 1, 1, none⟩ (.int .i64 t.n)).setCell ⟨w.heap.size + 1, 2, none⟩ (.string t.name)).setCell ⟨w.heap.size + 1, 3, none⟩ (.string t.token)).setCell ⟨w.heap.size + 1, 4, none⟩ (.slice va t.vars.length vc)).setCell ⟨w.heap.size + 1, 5, none⟩ (.slice ua t.args.length uc)).setCell ⟨w.heap.size + 1, 6, none⟩ (.slice ta t.cases.length tc)) = Z := by rw [hZ, hY]; rfl
  rw [ew]
  refine bodyPost_ret (v := .agg #[.int .i64 t.kind, .int .i64 t.n, .string t.name, .string t.token, .slice va t.vars.length vc, .slice ua t.args.length uc, .slice ta t.cases.length tc]) (by simp [results, Try.results7, go_sem, r0, r1, r2, r3, r4, r5, r6]) rfl ⟨[.int .i64 t.kind, .int .i64 t.n, .string t.name, .string t.token, .slice va t.vars.length vc, .slice ua t.args.length uc, .slice ta t.cases.length tc], rfl, ?_, ?_⟩
  · exact F3.out.trans' fz (fun i hi e => by rcases e with e | e <;> omega)
  · exact ⟨_, _, _, acs', ccs', rfl, HX.out, HN.out, N3.out.kept st, R3.out.kept st, E3.out.mono (fun _ _ h => RTS.kept st h), Q3.out.kept st, L3.out.mono (fun _ _ h => rcs_kept st h)⟩

theorem own_all : ∀ k, OwnC k
  | 0 => fun _ _ _ _ h => h.elim
  | k + 1 => own_node k (own_all k)

theorem fnsCopy_any (k B : Nat) (v : Value) (l : List (Pu.Fn k)) (w : World) (hl : Fns k B w v l) (hB : B ≤ w.heap.size) (hw : (l.map wf).sum ≤ 1073741824) :
    Calls Try.prog 9 #[v] w fun e w' => ∃ a c, e = .returned (.slice a l.length c) ∧ Fr No w w' ∧ ∃ acs', RowS (New w w') w' (.slice a l.length c) l.length acs' ∧ Each 9 (RFS k (New w w') w') acs' l := by
  have hlen := len_le (wf (k := k)) (fun f => by unfold wf; omega) l
  have HC := hide (copyFns_any k (own_all k) B v l w hl hB (by omega) (fun i h => by have := wt_get wf l i h; have e : wf l[i] = 1 + l[i].2.1.length + Pu.wt k l[i].2.2 := rfl; omega))
  have hform : ∃ a cap, v = .slice a l.length cap := by obtain ⟨acs, hr, _⟩ := hl; obtain ⟨a, c, h, _⟩ := hr.form; exact ⟨a, c, h⟩
  obtain ⟨a0, cp0, rfl⟩ := hform
  clear hl
  go_enter Try.func9, Try.ntmps9
  go_wp2_with fail
  refine HC.out.mono ?_
  rintro e w1 ⟨a, c, rfl, h1, h2⟩
  have H1 := hide h1
  have H2 := hide h2
  clear h1 h2
  go_wp2_with fail
  go_ret
  exact ⟨_, _, rfl, H1.out, H2.out⟩
end Go.Proofs.Ytmjpfiecgkoaeaa
