/- own: 'let', walked: what lies apart. -/
import Derived.Deep.CutRange
import Derived.Test.YtomahbdidlglfacGreatDoorOt6Ot8Ot9Le0
namespace Go.Proofs.YtomahbdidlglfacGreatDoor
open Go.RowKit Go.Maps Go.WideMaps

/-- Two loads, by names of their own: a walk takes them as they come up. -/
def ldA : Op := Op.load 32 (.tmp 32)
def ldB : Op := Op.load 32 (.tmp 43)
theorem ldA_eq : ldA = Op.load 32 (.tmp 32) := rfl
theorem ldB_eq : ldB = Op.load 32 (.tmp 43) := rfl
attribute [local go_sem] ldA_eq ldB_eq
/-- A let of two terms, both counted: it lies so. -/
theorem let_asm {M k : Nat} {S T V0 V1 V3 V4 A B A' B' : Nat → Prop} {w W : World} {nd : Pu.Node (Pu.TT k)} {vv cv av : Value} {cs0 : Array Value} {ca cb ccs : List Value} {a b : Pu.TT k} (ha : nd.args = [a, b]) (hl : ca.length = 7) (hlb : cb.length = 7) (hS : ∀ g, S g → g < w.heap.size)
    (hnm : nd.name.size ≤ maxLen) (hwf : (Lit.int .i64 nd.n).wf = true) (h0 : NamesS V0 w vv nd.vars) (h3 : RowS V3 w cv nd.cases.length ccs) (h4 : EachD 9 (RCD (RTD k w) w) V4 ccs nd.cases) (hT : ∀ x, T x → V1 x ∨ A x ∨ B x)
    (hp : Part S [V0, V1, fun x => A x ∨ B x, V3, V4]) (hAB : ∀ x, A' x → A x ∨ (w.heap.size + 2 ≤ x ∧ x < W.heap.size)) (hBB : ∀ x, B' x → B x ∨ (w.heap.size + 2 ≤ x ∧ x < W.heap.size)) (hd : Dis A' B')
    (h : LetAt T V1 w cs0 av (fun w V cs => CW M k M w V cs a) (fun w V cs => CW M k M w V cs b) ca cb A' B' W) :
    CW M (k + 1) 0 W (fun x => S x ∨ (w.heap.size + 2 ≤ x ∧ x < W.heap.size)) [.int .i64 nd.kind, .int .i64 nd.n, .string nd.name, .string nd.token, vv, av, cv] nd := by
  have hpd := hp.2
  simp only [List.pairwise_cons, List.mem_cons, List.not_mem_nil, or_false, forall_eq_or_imp, forall_eq, List.Pairwise.nil, and_true, false_imp_iff, implies_true] at hpd
  obtain ⟨⟨d01, d02, d03, d04⟩, ⟨d12, d13, d14⟩, ⟨d23, d24⟩, d34⟩ := hpd
  have s0 := hp.1 V0 (by simp)
  have s1 := hp.1 V1 (by simp)
  have s2 := hp.1 (fun x => A x ∨ B x) (by simp)
  have s3 := hp.1 V3 (by simp)
  have s4 := hp.1 V4 (by simp)
  have st : ∀ U : Nat → Prop, Dis U V1 → Dis U (fun x => A x ∨ B x) → Stays U U w W := fun U h1 h2 => st_fr h.fr (fun g hg _ ht => (hT g ht).elim (h1 g hg) (h2 g hg))
  have old : ∀ U : Nat → Prop, Sub U S → Dis U (fun x => A x ∨ B x) → Dis U (fun x => A' x ∨ B' x) := fun U hU h2 x hx hx' => by
    have := hS x (hU x hx)
    rcases hx' with h' | h'
    · exact (hAB x h').elim (fun h => h2 x hx (.inl h)) (fun h => by omega)
    · exact (hBB x h').elim (fun h => h2 x hx (.inr h)) (fun h => by omega)
  refine ⟨[], Nat.le_refl _, vv, av, cv, ca ++ cb, ccs, V0, V1, fun x => A' x ∨ B' x, V3, V4, rfl, hnm, hwf, ⟨?_, ?_⟩, h0.kept (st V0 d01 d02), ?_, ?_, h3.kept (st V3 (fun x h h' => d13 x h' h) (fun x h h' => d23 x h' h)), ?_⟩
  · intro U hU g hg
    simp only [List.mem_cons, List.not_mem_nil, or_false] at hU
    rcases hU with rfl | rfl | rfl | rfl | rfl
    · exact .inl (s0 g hg)
    · exact .inl (s1 g hg)
    · rcases hg with h' | h'
      · exact (hAB g h').imp (fun h => s2 g (.inl h)) (fun h => h)
      · exact (hBB g h').imp (fun h => s2 g (.inr h)) (fun h => h)
    · exact .inl (s3 g hg)
    · exact .inl (s4 g hg)
  · have o0 := old V0 s0 d02
    have o1 := old V1 s1 d12
    have o3 := old V3 s3 (fun x h h' => d23 x h' h)
    have o4 := old V4 s4 (fun x h h' => d24 x h' h)
    simp only [List.pairwise_cons, List.mem_cons, List.not_mem_nil, or_false, forall_eq_or_imp, forall_eq, List.Pairwise.nil, and_true, false_imp_iff, implies_true]
    exact ⟨⟨d01, o0, d03, d04⟩, ⟨o1, d13, d14⟩, ⟨fun x h h' => o3 x h' h, fun x h h' => o4 x h' h⟩, d34⟩
  · rw [ha]; exact h.row
  · rw [ha]
    exact ⟨A', B', ca, cb, rfl, hl, fun x h => .inl h, fun x h => .inr h, hd, h.pa, B', fun _ => False, cb, [], by simp, hlb, fun x h => h, fun x h => h.elim, fun x _ h => h, h.pb, rfl⟩
  · exact h4.mono fun U _ _ hU h => RCD.mono (st U (fun x hx h' => d14 x h' (hU x hx)) (fun x hx h' => d24 x h' (hU x hx))) (fun _ _ _ hU' h => RTD.cw (RTD.kept (st _ (fun x hx h' => d14 x h' (hU x (hU' x hx))) (fun x hx h' => d24 x h' (hU x (hU' x hx)))) h)) h

set_option maxRecDepth 100000 in
set_option maxHeartbeats 8000000 in
theorem let_two (Q : Nat) (hQ : Q ≤ 1073741824) (k : Nat) (nd : Pu.Node (Pu.TT k)) (h2 : nd.args.length = 2) (hT : ∀ a, a ∈ nd.args → TermD Q k a) (S : Nat → Prop) (w : World) (cs : List Value) (ov : Value) (l : List ByteArray) (hR : RTD (k + 1) w S cs nd) (hS : ∀ g, S g → g < w.heap.size) (hL : NamesX S w ov l) (hq : l.length + Pu.wt (k + 1) nd ≤ Q) :
    Calls Tryz.prog 110 #[.agg cs.toArray, ov] w fun e w' => ∃ cs', e = .returned (.agg cs'.toArray) ∧ Fr S w w' ∧ CW (4 * Q) (k + 1) Q w' (fun g => S g ∨ New w w' g) cs' nd := by
  obtain ⟨oa, oc, rfl⟩ := hL.form
  obtain ⟨vv, av, cv, acs, ccs, V0, V1, V2, V3, V4, rfl, hnm, hwf, hpt, h4, h5, h6, h7, h8⟩ := hR
  obtain ⟨a, b, A, B, ca, cb, hab, rfl, hl, hlb, hAV, hBV, hAB, ra, rb⟩ := two_terms h6 h2
  rw [h2] at h5
  obtain ⟨va, vc, rfl, _, _⟩ := id h4.1
  obtain ⟨a2, c2, rfl, _, _⟩ := id h7
  obtain ⟨a1, cap, rfl, hcap1, hcap2, hrow⟩ := id h5
  obtain ⟨g, o, rfl, hg1, hgl, _, _⟩ := hrow (by decide)
  obtain ⟨ka, na, xa, ya, p0, m0, e0, p1, m1, e1, p2, m2, e2, rfl⟩ := ra.form
  obtain ⟨kb, nb, xb, yb, r0, l0, z0, r1, l1, z1, r2, l2, z2, rfl⟩ := rb.form
  clear hrow
  have hpd := hpt.2
  simp only [List.pairwise_cons, List.mem_cons, List.not_mem_nil, or_false, forall_eq_or_imp, forall_eq, List.Pairwise.nil, and_true, false_imp_iff, implies_true] at hpd
  obtain ⟨⟨d01, d02, d03, d04⟩, ⟨d12, d13, d14⟩, ⟨d23, d24⟩, d34⟩ := hpd
  have s1 := hpt.1 V1 (by simp)
  have s2 := hpt.1 V2 (by simp)
  have dVA : Dis V1 A := fun x h h' => d12 x h (hAV x h')
  have dVB : Dis V1 B := fun x h h' => d12 x h (hBV x h')
  obtain ⟨T, hTd⟩ : ∃ T : Nat → Prop, T = fun x => V1 x ∨ A x ∨ B x := ⟨_, rfl⟩
  have hTS : Sub T S := by rw [hTd]; exact fun x h => h.elim (s1 x) (fun h => h.elim (fun h => s2 x (hAV x h)) (fun h => s2 x (hBV x h)))
  have hTw : ∀ x, T x → x < w.heap.size := fun x h => hS x (hTS x h)
  have tA : Sub A T := by rw [hTd]; exact fun x h => .inr (.inl h)
  have tB : Sub B T := by rw [hTd]; exact fun x h => .inr (.inr h)
  have tV : Sub V1 T := by rw [hTd]; exact fun x h => .inl h
  have hPS : Part S [V0, V1, fun x => A x ∨ B x, V3, V4] := by
    refine ⟨fun U hU x hx => ?_, ?_⟩
    · simp only [List.mem_cons, List.not_mem_nil, or_false] at hU
      rcases hU with rfl | rfl | rfl | rfl | rfl
      · exact hpt.1 _ (by simp) x hx
      · exact s1 x hx
      · exact hx.elim (fun h => s2 x (hAV x h)) (fun h => s2 x (hBV x h))
      · exact hpt.1 _ (by simp) x hx
      · exact hpt.1 _ (by simp) x hx
    · simp only [List.pairwise_cons, List.mem_cons, List.not_mem_nil, or_false, forall_eq_or_imp, forall_eq, List.Pairwise.nil, and_true, false_imp_iff, implies_true]
      exact ⟨⟨d01, fun x h h' => d02 x h (h'.elim (hAV x) (hBV x)), d03, d04⟩, ⟨fun x h h' => d12 x h (h'.elim (hAV x) (hBV x)), d13, d14⟩, ⟨fun x h h' => d23 x (h.elim (hAV x) (hBV x)) h', fun x h h' => d24 x (h.elim (hAV x) (hBV x)) h'⟩, d34⟩
  have hwt : Pu.wt (k + 1) nd = 1 + nd.vars.length + (nd.args.map (Pu.wt k)).sum + (nd.cases.map fun c => 1 + c.2.1.length + Pu.wt k c.2.2).sum := rfl
  rw [hab] at hwt
  simp only [List.map_cons, List.map_nil, List.sum_cons, List.sum_nil, Nat.add_zero] at hwt
  have ta := hT a (by rw [hab]; simp)
  have tb := hT b (by rw [hab]; simp)
  obtain ⟨W0, hW0⟩ : ∃ W0, W0 = ((w.alloc (.cells #[.int .i64 nd.kind, .int .i64 nd.n, .string nd.name, .string nd.token, .slice va nd.vars.length vc, .slice (some ⟨g, o, none⟩) 2 cap, .slice a2 nd.cases.length c2] 32)).alloc (.cells tz 32)) := ⟨_, rfl⟩
  have f0 : Fr No w W0 := by rw [hW0]; exact ((Fr.refl No w).alloc _).alloc _
  have b0 : W0.heap[w.heap.size]? = some (.cells #[.int .i64 nd.kind, .int .i64 nd.n, .string nd.name, .string nd.token, .slice va nd.vars.length vc, .slice (some ⟨g, o, none⟩) 2 cap, .slice a2 nd.cases.length c2] 32 (0, 0)) := by rw [hW0]; exact fr_heap (heap_alloc_new w _) ((Fr.refl No _).alloc _) (fun e => e)
  have b1 : W0.heap[w.heap.size + 1]? = some (.cells tz 32 (0, 0)) := by
    have h := heap_alloc_new (w.alloc (.cells #[.int .i64 nd.kind, .int .i64 nd.n, .string nd.name, .string nd.token, .slice va nd.vars.length vc, .slice (some ⟨g, o, none⟩) 2 cap, .slice a2 nd.cases.length c2] 32)) (.cells tz 32)
    rw [World.size_alloc] at h
    rw [hW0]; exact h
  have hL0 : LetAt T V1 w #[.int .i64 nd.kind, .int .i64 nd.n, .string nd.name, .string nd.token, .slice va nd.vars.length vc, .slice (some ⟨g, o, none⟩) 2 cap, .slice a2 nd.cases.length c2] (.slice (some ⟨g, o, none⟩) 2 cap) (fun w V cs => RTD k w V cs a) (fun w V cs => RTD k w V cs b) [Value.int .i64 ka, .int .i64 na, .string xa, .string ya, .slice p0 m0 e0, .slice p1 m1 e1, .slice p2 m2 e2] [Value.int .i64 kb, .int .i64 nb, .string xb, .string yb, .slice r0 l0 z0, .slice r1 l1 z1, .slice r2 l2 z2] A B W0 :=
    ⟨f0.mono (fun _ _ e => e.elim), b0, b1, h5.kept (stays_of_fr f0), ra.kept (stays_of_fr f0), rb.kept (stays_of_fr f0)⟩
  have CNA : Hid (∀ W, Fr No w W → RTD k W A [Value.int .i64 ka, .int .i64 na, .string xa, .string ya, .slice p0 m0 e0, .slice p1 m1 e1, .slice p2 m2 e2] a → Calls Tryz.prog 71 #[.agg #[.int .i64 ka, .int .i64 na, .string xa, .string ya, .slice p0 m0 e0, .slice p1 m1 e1, .slice p2 m2 e2]] W fun e w' => ∃ f c, e = .returned (.func (.func f) #[] c) ∧ Fr No W w' ∧ IsD T w' (.func (.func f) #[] c) (Pu.has (Pu.free k a))) := fun W hW hr =>
    (neededD_any T k w.heap.size W _ a (hr.rts.rt (fun x hx => hS x (hTS x (tA x hx)))) hW.size (by omega) (fun x hx => Nat.lt_of_lt_of_le (hTw x hx) hW.size)).mono fun e w' ⟨u, he, hf, hi⟩ => by
      obtain ⟨f, c, rfl⟩ := hi.form
      exact ⟨f, c, he, hf, hi⟩
  have CNB : Hid (∀ W, Fr No W0 W → Calls Tryz.prog 71 #[.agg #[.int .i64 kb, .int .i64 nb, .string xb, .string yb, .slice r0 l0 z0, .slice r1 l1 z1, .slice r2 l2 z2]] W fun e w' => ∃ f c, e = .returned (.func (.func f) #[] c) ∧ Fr No W w' ∧ IsD T w' (.func (.func f) #[] c) (Pu.has (Pu.free k b))) := fun W hW =>
    (neededD_any T k w.heap.size W _ b ((rb.kept (stays_of_fr (f0.trans hW))).rts.rt (fun x hx => hS x (hTS x (tB x hx)))) (f0.trans hW).size (by omega) (fun x hx => Nat.lt_of_lt_of_le (hTw x hx) (f0.trans hW).size)).mono fun e w' ⟨u, he, hf, hi⟩ => by
      obtain ⟨f, c, rfl⟩ := hi.form
      exact ⟨f, c, he, hf, hi⟩
  have CAM : Hid (∀ W1 W q, W1.heap[q]? = some (.cells #[.string nd.name] 9 (0, 0)) → Fr No W1 W → Fr No W0 W → Calls Tryz.prog 104 #[.slice (some ⟨q, 0, none⟩) 1 1] W fun e w' => ∃ f c, e = .returned (.func (.func f) #[] c) ∧ Fr No W w' ∧ IsD T w' (.func (.func f) #[] c) (Pu.has [nd.name])) := fun W1 W q hq hW hW' =>
    amongD_any T W.heap.size _ [nd.name] W (name_one (fr_heap hq hW (fun e => e)) hnm) (Nat.le_refl _) (by simp) (fun x hx => Nat.lt_of_lt_of_le (hTw x hx) (f0.trans hW').size)
  have CNOT : Hid (∀ W u p, w.heap.size ≤ W.heap.size → IsD T W u p → Calls Tryz.prog 73 #[u] W fun e w' => ∃ f c, e = .returned (.func (.func f) #[] c) ∧ Fr No W w' ∧ IsD T w' (.func (.func f) #[] c) (fun x => !p x)) := fun W u p hW hu =>
    (notD_any T u p W hu (fun x hx => Nat.lt_of_lt_of_le (hTw x hx) hW)).mono fun e w' ⟨u, he, hf, hi⟩ => by
      obtain ⟨f, c, rfl⟩ := hi.form
      exact ⟨f, c, he, hf, hi⟩
  have CAND : Hid (∀ W u v p q, w.heap.size ≤ W.heap.size → IsD T W u p → IsD T W v q → Calls Tryz.prog 127 #[u, v] W fun e w' => ∃ f c, e = .returned (.func (.func f) #[] c) ∧ Fr No W w' ∧ IsD T w' (.func (.func f) #[] c) (fun x => p x && q x)) := fun W u v p q hW hu hv =>
    (andD_any T u v p q W hu hv (fun x hx => Nat.lt_of_lt_of_le (hTw x hx) hW)).mono fun e w' ⟨u, he, hf, hi⟩ => by
      obtain ⟨f, c, rfl⟩ := hi.form
      exact ⟨f, c, he, hf, hi⟩
  have hLT := hL.sub hTS
  have COF : Hid (∀ W u p, Fr T w W → IsD T W u p → Calls Tryz.prog 74 #[u, .slice oa l.length oc] W fun e w' => ∃ a c, e = .returned (.slice a (l.filter p).length c) ∧ Fr No W w' ∧ w'.ownsRow W.heap.size 9 1 (.slice a (l.filter p).length c) (l.filter p).length ((l.filter p).map .string) ∧ NamesX T w' (.slice a (l.filter p).length c) (l.filter p)) := fun W u p hW hu =>
    (ofD_any T u _ p l W hu (hLT.fr hW) (by omega) (fun x hx => Nat.lt_of_lt_of_le (hTw x hx) hW.size)).mono fun e w' ⟨r, he, hf, ho, hn⟩ => by
      obtain ⟨a, c, rfl⟩ := row_form ho
      exact ⟨a, c, he, hf, ho, hn⟩
  have CTA : Hid (∀ W v m, LetAt T V1 w #[.int .i64 nd.kind, .int .i64 nd.n, .string nd.name, .string nd.token, .slice va nd.vars.length vc, .slice (some ⟨g, o, none⟩) 2 cap, .slice a2 nd.cases.length c2] (.slice (some ⟨g, o, none⟩) 2 cap) (fun w V cs => RTD k w V cs a) (fun w V cs => RTD k w V cs b) [Value.int .i64 ka, .int .i64 na, .string xa, .string ya, .slice p0 m0 e0, .slice p1 m1 e1, .slice p2 m2 e2] [Value.int .i64 kb, .int .i64 nb, .string xb, .string yb, .slice r0 l0 z0, .slice r1 l1 z1, .slice r2 l2 z2] A B W → NamesX T W v m → m.length ≤ l.length → Calls Tryz.prog 38 #[.agg #[.int .i64 ka, .int .i64 na, .string xa, .string ya, .slice p0 m0 e0, .slice p1 m1 e1, .slice p2 m2 e2], v] W fun e w' => ∃ kc nc xc yc s0 j0 h0 s1 j1 h1 s2 j2 h2, e = .returned (.agg #[.int .i64 kc, .int .i64 nc, .string xc, .string yc, .slice s0 j0 h0, .slice s1 j1 h1, .slice s2 j2 h2]) ∧ Fr A W w' ∧
      CW (4 * Q) k (4 * Q) w' (fun x => A x ∨ New W w' x) [.int .i64 kc, .int .i64 nc, .string xc, .string yc, .slice s0 j0 h0, .slice s1 j1 h1, .slice s2 j2 h2] a ∧ Aft w #[.int .i64 nd.kind, .int .i64 nd.n, .string nd.name, .string nd.token, .slice va nd.vars.length vc, .slice (some ⟨g, o, none⟩) 2 cap, .slice a2 nd.cases.length c2] g o [Value.int .i64 ka, .int .i64 na, .string xa, .string ya, .slice p0 m0 e0, .slice p1 m1 e1, .slice p2 m2 e2] w') := fun W v m h hm hml =>
    term_two ta h.pa (h.aft0 rfl rfl) h.fr.size hTw tA hg1 dVA hm (by omega)
  have CTB : Hid (∀ W v m (A' : Nat → Prop) ca', ca'.length = 7 → LetAt T V1 w #[.int .i64 nd.kind, .int .i64 nd.n, .string nd.name, .string nd.token, .slice va nd.vars.length vc, .slice (some ⟨g, o, none⟩) 2 cap, .slice a2 nd.cases.length c2] (.slice (some ⟨g, o, none⟩) 2 cap) (fun w V cs => CW (4 * Q) k (4 * Q) w V cs a) (fun w V cs => RTD k w V cs b) ca' [Value.int .i64 kb, .int .i64 nb, .string xb, .string yb, .slice r0 l0 z0, .slice r1 l1 z1, .slice r2 l2 z2] A' B W → NamesX T W v m → m.length ≤ l.length + 1 → Calls Tryz.prog 38 #[.agg #[.int .i64 kb, .int .i64 nb, .string xb, .string yb, .slice r0 l0 z0, .slice r1 l1 z1, .slice r2 l2 z2], v] W fun e w' => ∃ kd nd' xd yd t0 i0 g0 t1 i1 g1 t2 i2 g2, e = .returned (.agg #[.int .i64 kd, .int .i64 nd', .string xd, .string yd, .slice t0 i0 g0, .slice t1 i1 g1, .slice t2 i2 g2]) ∧ Fr B W w' ∧
      CW (4 * Q) k (4 * Q) w' (fun x => B x ∨ New W w' x) [.int .i64 kd, .int .i64 nd', .string xd, .string yd, .slice t0 i0 g0, .slice t1 i1 g1, .slice t2 i2 g2] b ∧ Aft w #[.int .i64 nd.kind, .int .i64 nd.n, .string nd.name, .string nd.token, .slice va nd.vars.length vc, .slice (some ⟨g, o, none⟩) 2 cap, .slice a2 nd.cases.length c2] g (o + 7) [Value.int .i64 kb, .int .i64 nb, .string xb, .string yb, .slice r0 l0 z0, .slice r1 l1 z1, .slice r2 l2 z2] w') := fun W v m A' ca' hca h hm hml =>
    term_two tb h.pb (h.aft1 hca rfl) h.fr.size hTw tB hg1 dVB hm (by omega)
  have CCO : Hid (∀ W v m (A' B' : Nat → Prop) ca' cb', ca'.length = 7 → cb'.length = 7 → (∀ x, A' x → A x ∨ (w.heap.size + 2 ≤ x ∧ x < W.heap.size)) → (∀ x, B' x → B x ∨ (w.heap.size + 2 ≤ x ∧ x < W.heap.size)) → Dis A' B' → LetAt T V1 w #[.int .i64 nd.kind, .int .i64 nd.n, .string nd.name, .string nd.token, .slice va nd.vars.length vc, .slice (some ⟨g, o, none⟩) 2 cap, .slice a2 nd.cases.length c2] (.slice (some ⟨g, o, none⟩) 2 cap) (fun w V cs => CW (4 * Q) k (4 * Q) w V cs a) (fun w V cs => CW (4 * Q) k (4 * Q) w V cs b) ca' cb' A' B' W → NamesX T W v m → m.length ≤ l.length →
      Calls Tryz.prog 72 #[.int .i64 8, v, .agg #[.int .i64 nd.kind, .int .i64 nd.n, .string nd.name, .string nd.token, .slice va nd.vars.length vc, .slice (some ⟨g, o, none⟩) 2 cap, .slice a2 nd.cases.length c2]] W fun e w' => ∃ ke ne xe ye u0 v0' w0' u1 v1' w1' u2 v2' w2', e = .returned (.agg #[.int .i64 ke, .int .i64 ne, .string xe, .string ye, .slice u0 v0' w0', .slice u1 v1' w1', .slice u2 v2' w2']) ∧ Fr No W w' ∧ CW (4 * Q) (k + 1) Q w' (fun x => S x ∨ (w.heap.size + 2 ≤ x ∧ x < w'.heap.size)) [.int .i64 ke, .int .i64 ne, .string xe, .string ye, .slice u0 v0' w0', .slice u1 v1' w1', .slice u2 v2' w2'] nd) := fun W v m A' B' ca' cb' hca hcb hA' hB' hd h hm hml => by
    have hasm := let_asm hab hca hcb hS hnm hwf h4 h7 h8 (by rw [hTd]; exact fun x h => h) hPS hA' hB' hd h
    have hw2 := lt_of_heap h.r
    refine (countD_any (4 * Q) (k + 1) 0 _ W.heap.size 8 (.inl rfl) v m (by omega) nd _ W hm.names hasm (fun x hx => hx.elim (fun h' => Nat.lt_of_lt_of_le (hS x h') h.fr.size) (fun h' => h'.2))).mono fun e w' ⟨cs', he, hf, hr⟩ => ?_
    have hr := hr.more (m' := Q) (by omega)
    obtain ⟨ke, ne, xe, ye, u0, v0', w0', u1, v1', w1', u2, v2', w2', rfl⟩ := hr.form
    exact ⟨ke, ne, xe, ye, u0, v0', w0', u1, v1', w1', u2, v2', w2', he, hf, hr.sub (fun x hx => hx.elim (fun h' => h'.imp (fun h => h) (fun h => ⟨h.1, Nat.lt_of_lt_of_le h.2 hf.size⟩)) (fun h' => .inr ⟨by have := h'.1; omega, h'.2⟩))⟩
  have HP0 : Hid (∀ W W' (kc nc xc yc s0 j0 h0 s1 j1 h1 s2 j2 h2), LetAt T V1 w #[.int .i64 nd.kind, .int .i64 nd.n, .string nd.name, .string nd.token, .slice va nd.vars.length vc, .slice (some ⟨g, o, none⟩) 2 cap, .slice a2 nd.cases.length c2] (.slice (some ⟨g, o, none⟩) 2 cap) (fun w V cs => RTD k w V cs a) (fun w V cs => RTD k w V cs b) [Value.int .i64 ka, .int .i64 na, .string xa, .string ya, .slice p0 m0 e0, .slice p1 m1 e1, .slice p2 m2 e2] [Value.int .i64 kb, .int .i64 nb, .string xb, .string yb, .slice r0 l0 z0, .slice r1 l1 z1, .slice r2 l2 z2] A B W → Fr A W W' → CW (4 * Q) k (4 * Q) W' (fun x => A x ∨ New W W' x) [.int .i64 kc, .int .i64 nc, .string xc, .string yc, .slice s0 j0 h0, .slice s1 j1 h1, .slice s2 j2 h2] a →
      (∃ A' : Nat → Prop, (∀ x, A' x → A x ∨ (w.heap.size + 2 ≤ x ∧ x < (setsAt W' g o [.int .i64 kc, .int .i64 nc, .string xc, .string yc, .slice s0 j0 h0, .slice s1 j1 h1, .slice s2 j2 h2]).heap.size)) ∧ Dis V1 A' ∧ Dis A' B ∧ LetAt T V1 w #[.int .i64 nd.kind, .int .i64 nd.n, .string nd.name, .string nd.token, .slice va nd.vars.length vc, .slice (some ⟨g, o, none⟩) 2 cap, .slice a2 nd.cases.length c2] (.slice (some ⟨g, o, none⟩) 2 cap) (fun w V cs => CW (4 * Q) k (4 * Q) w V cs a) (fun w V cs => RTD k w V cs b) [.int .i64 kc, .int .i64 nc, .string xc, .string yc, .slice s0 j0 h0, .slice s1 j1 h1, .slice s2 j2 h2] [Value.int .i64 kb, .int .i64 nb, .string xb, .string yb, .slice r0 l0 z0, .slice r1 l1 z1, .slice r2 l2 z2] A' B (setsAt W' g o [.int .i64 kc, .int .i64 nc, .string xc, .string yc, .slice s0 j0 h0, .slice s1 j1 h1, .slice s2 j2 h2])) ∧ Fr T W (setsAt W' g o [.int .i64 kc, .int .i64 nc, .string xc, .string yc, .slice s0 j0 h0, .slice s1 j1 h1, .slice s2 j2 h2])) := fun W W' kc nc xc yc s0 j0 h0 s1 j1 h1 s2 j2 h2 h hf hc => by
    have hw2 := lt_of_heap h.r
    obtain ⟨p1, p2⟩ := h.put0 (Q := fun w V cs => CW (4 * Q) k (4 * Q) w V cs a) hTw tA tV dVA dVB hAB hg1 hf hc rfl rfl (kept_rtd k b) (kept_cw _ _ _ a)
    have hsz := p2.size
    have hwW := h.fr.size
    have hW' : (setsAt W' g o [.int .i64 kc, .int .i64 nc, .string xc, .string yc, .slice s0 j0 h0, .slice s1 j1 h1, .slice s2 j2 h2]).heap.size = W'.heap.size := setsAt_size _ _ _ _
    exact ⟨⟨fun x => A x ∨ New W W' x, fun x h => h.imp (fun h => h) (fun h => ⟨by have := h.1; omega, by rw [hW']; exact h.2⟩), fun x h h' => h'.elim (dVA x h) (fun h' => by have := hTw x (tV x h); have := h'.1; omega), fun x h h' => h.elim (fun h => hAB x h h') (fun h => by have := hTw x (tB x h'); have := h.1; omega), p1⟩, p2⟩
  have HP1 : Hid (∀ W W' ca' (A' : Nat → Prop) (kd nd' xd yd t0 i0 g0 t1 i1 g1 t2 i2 g2), ca'.length = 7 → (∀ x, A' x → A x ∨ (w.heap.size + 2 ≤ x ∧ x < W.heap.size)) → Dis V1 A' → Dis A' B → LetAt T V1 w #[.int .i64 nd.kind, .int .i64 nd.n, .string nd.name, .string nd.token, .slice va nd.vars.length vc, .slice (some ⟨g, o, none⟩) 2 cap, .slice a2 nd.cases.length c2] (.slice (some ⟨g, o, none⟩) 2 cap) (fun w V cs => CW (4 * Q) k (4 * Q) w V cs a) (fun w V cs => RTD k w V cs b) ca' [Value.int .i64 kb, .int .i64 nb, .string xb, .string yb, .slice r0 l0 z0, .slice r1 l1 z1, .slice r2 l2 z2] A' B W → Fr B W W' → CW (4 * Q) k (4 * Q) W' (fun x => B x ∨ New W W' x) [.int .i64 kd, .int .i64 nd', .string xd, .string yd, .slice t0 i0 g0, .slice t1 i1 g1, .slice t2 i2 g2] b →
      (∃ A' B' : Nat → Prop, (∀ x, A' x → A x ∨ (w.heap.size + 2 ≤ x ∧ x < (setsAt W' g (o + 7) [.int .i64 kd, .int .i64 nd', .string xd, .string yd, .slice t0 i0 g0, .slice t1 i1 g1, .slice t2 i2 g2]).heap.size)) ∧ (∀ x, B' x → B x ∨ (w.heap.size + 2 ≤ x ∧ x < (setsAt W' g (o + 7) [.int .i64 kd, .int .i64 nd', .string xd, .string yd, .slice t0 i0 g0, .slice t1 i1 g1, .slice t2 i2 g2]).heap.size)) ∧ Dis A' B' ∧ LetAt T V1 w #[.int .i64 nd.kind, .int .i64 nd.n, .string nd.name, .string nd.token, .slice va nd.vars.length vc, .slice (some ⟨g, o, none⟩) 2 cap, .slice a2 nd.cases.length c2] (.slice (some ⟨g, o, none⟩) 2 cap) (fun w V cs => CW (4 * Q) k (4 * Q) w V cs a) (fun w V cs => CW (4 * Q) k (4 * Q) w V cs b) ca' [.int .i64 kd, .int .i64 nd', .string xd, .string yd, .slice t0 i0 g0, .slice t1 i1 g1, .slice t2 i2 g2] A' B' (setsAt W' g (o + 7) [.int .i64 kd, .int .i64 nd', .string xd, .string yd, .slice t0 i0 g0, .slice t1 i1 g1, .slice t2 i2 g2])) ∧ Fr T W (setsAt W' g (o + 7) [.int .i64 kd, .int .i64 nd', .string xd, .string yd, .slice t0 i0 g0, .slice t1 i1 g1, .slice t2 i2 g2])) := fun W W' ca' A' kd nd' xd yd t0 i0 g0 t1 i1 g1 t2 i2 g2 hca hA' dVA' dAB' h hf hc => by
    have hw2 := lt_of_heap h.r
    obtain ⟨p1, p2⟩ := h.put1 (Q := fun w V cs => CW (4 * Q) k (4 * Q) w V cs b) hTw tB tV dVA' dVB dAB' hg1 hf hc hca rfl rfl (kept_cw _ _ _ a) (kept_cw _ _ _ b)
    have hsz := p2.size
    have hwW := h.fr.size
    have hW' : (setsAt W' g (o + 7) [.int .i64 kd, .int .i64 nd', .string xd, .string yd, .slice t0 i0 g0, .slice t1 i1 g1, .slice t2 i2 g2]).heap.size = W'.heap.size := setsAt_size _ _ _ _
    exact ⟨⟨A', fun x => B x ∨ New W W' x, fun x h => (hA' x h).imp (fun h => h) (fun h => ⟨h.1, Nat.lt_of_lt_of_le h.2 hsz⟩), fun x h => h.imp (fun h => h) (fun h => ⟨by have := h.1; omega, by rw [hW']; exact h.2⟩), fun x h h' => h'.elim (dAB' x h) (fun h' => (hA' x h).elim (fun h => by have := hTw x (tA x h); have := h'.1; omega) (fun h => by have := h'.1; omega)), p1⟩, p2⟩
  have L0 := hide hL0
  have HW0 := hide hW0
  have F00 := hide f0
  have HTS := hide hTS
  have HTW := hide hTw
  have HSS := hide hS
  have HKA := hide (kept_rtd k a)
  have HKB := hide (kept_rtd k b)
  have HKC := hide (kept_cw (4 * Q) k (4 * Q) a)
  have HKD := hide (kept_cw (4 * Q) k (4 * Q) b)
  have HNM := hide hnm
  have HLL := hide (show l.length ≤ 1073741824 by omega)
  have HGW : Hid ((⟨w.heap.size, 5, none⟩ : Addr).block ≠ g) := by show w.heap.size ≠ g; omega
  clear hab hl hlb hAV hBV hAB ra rb h4 h5 h6 h7 h8 hL hLT hwt hq hpt d01 d02 d03 d04 d12 d13 d14 d23 d24 d34 s1 s2 dVA dVB hTd hTS hTw tA tB tV hPS ta tb hT h2 f0 b0 b1 hW0 hS hwf hL0 hcap1 hg1 hnm hgl
  unfold maxLen at hcap2
  show Calls Tryz.prog 110 #[.agg #[.int .i64 nd.kind, .int .i64 nd.n, .string nd.name, .string nd.token, .slice va nd.vars.length vc, .slice (some ⟨g, o, none⟩) 2 cap, .slice a2 nd.cases.length c2], .slice oa l.length oc] w _
  go_enter Tryz.func110, Tryz.ntmps110
  go_upto_region 1 with fail
  rw [← HW0.out]
  have hA0 := L0.out.aft0 rfl rfl
  have k0 := cell_of_heap hA0.t
  have l0' := lt_of_heap hA0.t
  have lr0 := lt_of_heap hA0.r
  have lg0 := hA0.lt
  have q0 : W0.cell? ⟨g, o, none⟩ = some (.int .i64 ka) := hA0.cell 0 (by omega)
  have q1 := hA0.cell 1 (by omega)
  have q2 := hA0.cell 2 (by omega)
  have q3 := hA0.cell 3 (by omega)
  have q4 := hA0.cell 4 (by omega)
  have q5 := hA0.cell 5 (by omega)
  have q6 := hA0.cell 6 (by omega)
  clear hA0
  go_wp2_with fail
  refine (CNA.out W0 F00.out L0.out.pa).mono ?_
  rintro e w1 ⟨fa, fca, rfl, hf1, hi1⟩
  have F1 := hide hf1
  have I1 := hide hi1
  have L1 := hide (L0.out.no HKA.out HKB.out hf1)
  clear hf1 hi1 CNA k0 l0' lr0 lg0 q0 q1 q2 q3 q4 q5 q6
  have HC1 : Hid (∀ W, Fr No w1 W → Aft w #[.int .i64 nd.kind, .int .i64 nd.n, .string nd.name, .string nd.token, .slice va nd.vars.length vc, .slice (some ⟨g, o, none⟩) 2 cap, .slice a2 nd.cases.length c2] g (o + 7) [Value.int .i64 kb, .int .i64 nb, .string xb, .string yb, .slice r0 l0 z0, .slice r1 l1 z1, .slice r2 l2 z2] W) := fun W hW => (L1.out.no HKA.out HKB.out hW).aft1 rfl rfl
  have hA1 := HC1.out w1 (Fr.refl _ _)
  have b1k := cell_of_heap hA1.t
  have b1l := lt_of_heap hA1.t
  have b1r := lt_of_heap hA1.r
  have b1g := hA1.lt
  have b10 : w1.cell? ⟨g, o + 7, none⟩ = some (.int .i64 kb) := hA1.cell 0 (by omega)
  have b11 := hA1.cell 1 (by omega)
  have b12 := hA1.cell 2 (by omega)
  have b13 := hA1.cell 3 (by omega)
  have b14 := hA1.cell 4 (by omega)
  have b15 := hA1.cell 5 (by omega)
  have b16 := hA1.cell 6 (by omega)
  go_wp2_with fail
  have HC1' : Hid (∀ W, Fr No w1 W → (W.cell? ⟨w.heap.size, 2, none⟩ = some (.string nd.name) ∧ W.cell? ⟨w.heap.size, 5, none⟩ = some (.slice (some ⟨g, o, none⟩) 2 cap) ∧ W.cell? ⟨g, o + 7, none⟩ = some (.int .i64 kb) ∧ W.cell? ⟨g, o + 7 + 1, none⟩ = some (.int .i64 nb) ∧ W.cell? ⟨g, o + 7 + 2, none⟩ = some (.string xb) ∧ W.cell? ⟨g, o + 7 + 3, none⟩ = some (.string yb) ∧ W.cell? ⟨g, o + 7 + 4, none⟩ = some (.slice r0 l0 z0) ∧ W.cell? ⟨g, o + 7 + 5, none⟩ = some (.slice r1 l1 z1) ∧ W.cell? ⟨g, o + 7 + 6, none⟩ = some (.slice r2 l2 z2) ∧ Fr No w1 W)) := fun W hW => by
    have hA := HC1.out W hW
    have ck := cell_of_heap hA.t
    exact ⟨ck 2, ck 5, hA.cell 0 (by omega), hA.cell 1 (by omega), hA.cell 2 (by omega), hA.cell 3 (by omega), hA.cell 4 (by omega), hA.cell 5 (by omega), hA.cell 6 (by omega), hW⟩
  have SAL : Hid (∀ (W : World) o', (W.cell? ⟨w.heap.size, 2, none⟩ = some (.string nd.name) ∧ W.cell? ⟨w.heap.size, 5, none⟩ = some (.slice (some ⟨g, o, none⟩) 2 cap) ∧ W.cell? ⟨g, o + 7, none⟩ = some (.int .i64 kb) ∧ W.cell? ⟨g, o + 7 + 1, none⟩ = some (.int .i64 nb) ∧ W.cell? ⟨g, o + 7 + 2, none⟩ = some (.string xb) ∧ W.cell? ⟨g, o + 7 + 3, none⟩ = some (.string yb) ∧ W.cell? ⟨g, o + 7 + 4, none⟩ = some (.slice r0 l0 z0) ∧ W.cell? ⟨g, o + 7 + 5, none⟩ = some (.slice r1 l1 z1) ∧ W.cell? ⟨g, o + 7 + 6, none⟩ = some (.slice r2 l2 z2) ∧ Fr No w1 W) → ((W.alloc o').cell? ⟨w.heap.size, 2, none⟩ = some (.string nd.name) ∧ (W.alloc o').cell? ⟨w.heap.size, 5, none⟩ = some (.slice (some ⟨g, o, none⟩) 2 cap) ∧ (W.alloc o').cell? ⟨g, o + 7, none⟩ = some (.int .i64 kb) ∧ (W.alloc o').cell? ⟨g, o + 7 + 1, none⟩ = some (.int .i64 nb) ∧ (W.alloc o').cell? ⟨g, o + 7 + 2, none⟩ = some (.string xb) ∧ (W.alloc o').cell? ⟨g, o + 7 + 3, none⟩ = some (.string yb) ∧ (W.alloc o').cell? ⟨g, o + 7 + 4, none⟩ = some (.slice r0 l0 z0) ∧ (W.alloc o').cell? ⟨g, o + 7 + 5, none⟩ = some (.slice r1 l1 z1) ∧ (W.alloc o').cell? ⟨g, o + 7 + 6, none⟩ = some (.slice r2 l2 z2) ∧ Fr No w1 (W.alloc o'))) := fun W o' hW => HC1'.out _ (hW.2.2.2.2.2.2.2.2.2.alloc o')
  have D0 : Fr No w1 w1.drew := (Fr.refl No w1).drew
  have HZ := hide (HC1'.out w1.drew D0)
  go_cut [6] from 17 to 61 (fun t6 wx => ∃ f6 c6, t6 = .func (.func f6) #[] c6 ∧ Fr No w1 wx ∧ IsD T wx (.func (.func f6) #[] c6) (fun x => Pu.has (Pu.free k b) x && !(Pu.has [nd.name] x)))
  case first =>
    go_region_held3 (fun w' : World => w'.cell? ⟨w.heap.size, 2, none⟩ = some (.string nd.name) ∧ w'.cell? ⟨w.heap.size, 5, none⟩ = some (.slice (some ⟨g, o, none⟩) 2 cap) ∧ w'.cell? ⟨g, o + 7, none⟩ = some (.int .i64 kb) ∧ w'.cell? ⟨g, o + 7 + 1, none⟩ = some (.int .i64 nb) ∧ w'.cell? ⟨g, o + 7 + 2, none⟩ = some (.string xb) ∧ w'.cell? ⟨g, o + 7 + 3, none⟩ = some (.string yb) ∧ w'.cell? ⟨g, o + 7 + 4, none⟩ = some (.slice r0 l0 z0) ∧ w'.cell? ⟨g, o + 7 + 5, none⟩ = some (.slice r1 l1 z1) ∧ w'.cell? ⟨g, o + 7 + 6, none⟩ = some (.slice r2 l2 z2) ∧ Fr No w1 w') (first | with_reducible assumption | with_reducible exact HZ.out | exact SAL.out _ _ (by first | with_reducible assumption | exact HZ.out))
      (first
      | (go_at_call 71; refine (CNB.out _ (F1.out.trans (by repeat (first | with_reducible exact Fr.refl _ _ | with_reducible refine Fr.drew ?_ | with_reducible refine Fr.trans ?_ F2.out | with_reducible refine Fr.trans ?_ F3.out | with_reducible refine Fr.trans ?_ F4.out | with_reducible refine Fr.trans ?_ F5.out | with_reducible refine Fr.alloc ?_ _)))).mono ?_; rintro e w2 ⟨f2, c2', rfl, hf2, hi2⟩; have F2 := hide hf2; have I2 : Hid (∀ W, Fr No w2 W → IsD T W (.func (.func f2) #[] c2') (Pu.has (Pu.free k b))) := fun W hW => hi2.no hW; clear hf2 hi2; have hz2 := HC1'.out w2 (by repeat (first | with_reducible exact Fr.refl _ _ | with_reducible refine Fr.drew ?_ | with_reducible refine Fr.trans ?_ F2.out | with_reducible refine Fr.trans ?_ F3.out | with_reducible refine Fr.trans ?_ F4.out | with_reducible refine Fr.trans ?_ F5.out | with_reducible refine Fr.alloc ?_ _)))
      | (go_at_call 104; refine (CAM.out _ _ _ (heap_alloc_new _ _) (by repeat (first | with_reducible exact Fr.refl _ _ | with_reducible refine Fr.drew ?_ | with_reducible refine Fr.trans ?_ F2.out | with_reducible refine Fr.trans ?_ F3.out | with_reducible refine Fr.trans ?_ F4.out | with_reducible refine Fr.trans ?_ F5.out | with_reducible refine Fr.alloc ?_ _)) (F1.out.trans (by repeat (first | with_reducible exact Fr.refl _ _ | with_reducible refine Fr.drew ?_ | with_reducible refine Fr.trans ?_ F2.out | with_reducible refine Fr.trans ?_ F3.out | with_reducible refine Fr.trans ?_ F4.out | with_reducible refine Fr.trans ?_ F5.out | with_reducible refine Fr.alloc ?_ _)))).mono ?_; rintro e w3 ⟨f3, c3', rfl, hf3, hi3⟩; have F3 := hide hf3; have I3 : Hid (∀ W, Fr No w3 W → IsD T W (.func (.func f3) #[] c3') (Pu.has [nd.name])) := fun W hW => hi3.no hW; clear hf3 hi3; have hz3 := HC1'.out w3 (by repeat (first | with_reducible exact Fr.refl _ _ | with_reducible refine Fr.drew ?_ | with_reducible refine Fr.trans ?_ F2.out | with_reducible refine Fr.trans ?_ F3.out | with_reducible refine Fr.trans ?_ F4.out | with_reducible refine Fr.trans ?_ F5.out | with_reducible refine Fr.alloc ?_ _)))
      | (go_at_call 73; refine (CNOT.out _ _ _ (Nat.le_trans L1.out.fr.size (show Fr No w1 _ from by repeat (first | with_reducible exact Fr.refl _ _ | with_reducible refine Fr.drew ?_ | with_reducible refine Fr.trans ?_ F2.out | with_reducible refine Fr.trans ?_ F3.out | with_reducible refine Fr.trans ?_ F4.out | with_reducible refine Fr.trans ?_ F5.out | with_reducible refine Fr.alloc ?_ _)).size) (I3.out _ (by repeat (first | with_reducible exact Fr.refl _ _ | with_reducible refine Fr.drew ?_ | with_reducible refine Fr.trans ?_ F2.out | with_reducible refine Fr.trans ?_ F3.out | with_reducible refine Fr.trans ?_ F4.out | with_reducible refine Fr.trans ?_ F5.out | with_reducible refine Fr.alloc ?_ _)))).mono ?_; rintro e w4 ⟨f4, c4', rfl, hf4, hi4⟩; have F4 := hide hf4; have I4 : Hid (∀ W, Fr No w4 W → IsD T W (.func (.func f4) #[] c4') (fun x => !(Pu.has [nd.name] x))) := fun W hW => hi4.no hW; clear hf4 hi4; have hz4 := HC1'.out w4 (by repeat (first | with_reducible exact Fr.refl _ _ | with_reducible refine Fr.drew ?_ | with_reducible refine Fr.trans ?_ F2.out | with_reducible refine Fr.trans ?_ F3.out | with_reducible refine Fr.trans ?_ F4.out | with_reducible refine Fr.trans ?_ F5.out | with_reducible refine Fr.alloc ?_ _)))
      | (go_at_call 127; refine (CAND.out _ _ _ _ _ (Nat.le_trans L1.out.fr.size (show Fr No w1 _ from by repeat (first | with_reducible exact Fr.refl _ _ | with_reducible refine Fr.drew ?_ | with_reducible refine Fr.trans ?_ F2.out | with_reducible refine Fr.trans ?_ F3.out | with_reducible refine Fr.trans ?_ F4.out | with_reducible refine Fr.trans ?_ F5.out | with_reducible refine Fr.alloc ?_ _)).size) (I2.out _ (by repeat (first | with_reducible exact Fr.refl _ _ | with_reducible refine Fr.drew ?_ | with_reducible refine Fr.trans ?_ F2.out | with_reducible refine Fr.trans ?_ F3.out | with_reducible refine Fr.trans ?_ F4.out | with_reducible refine Fr.trans ?_ F5.out | with_reducible refine Fr.alloc ?_ _))) (I4.out _ (by repeat (first | with_reducible exact Fr.refl _ _ | with_reducible refine Fr.drew ?_ | with_reducible refine Fr.trans ?_ F2.out | with_reducible refine Fr.trans ?_ F3.out | with_reducible refine Fr.trans ?_ F4.out | with_reducible refine Fr.trans ?_ F5.out | with_reducible refine Fr.alloc ?_ _)))).mono ?_; rintro e w5 ⟨f5, c5', rfl, hf5, hi5⟩; have F5 := hide hf5; have I5 := hide hi5; clear hf5 hi5; have hz5 := HC1'.out w5 (by repeat (first | with_reducible exact Fr.refl _ _ | with_reducible refine Fr.drew ?_ | with_reducible refine Fr.trans ?_ F2.out | with_reducible refine Fr.trans ?_ F3.out | with_reducible refine Fr.trans ?_ F4.out | with_reducible refine Fr.trans ?_ F5.out | with_reducible refine Fr.alloc ?_ _))))
    all_goals
      go_wp2_with fail
      go_meet
      case rel => exact ⟨_, _, rfl, (by repeat (first | with_reducible exact Fr.refl _ _ | with_reducible refine Fr.drew ?_ | with_reducible refine Fr.trans ?_ F2.out | with_reducible refine Fr.trans ?_ F3.out | with_reducible refine Fr.trans ?_ F4.out | with_reducible refine Fr.trans ?_ F5.out | with_reducible refine Fr.alloc ?_ _)), I5.out⟩
  case rest =>
    obtain ⟨fb, fcb, rfl, hfx, hix⟩ := hcut
    obtain ⟨wB, hwB⟩ : ∃ wB, wB = wc := ⟨_, rfl⟩
    subst hwB
    clear b1k b1l b1r b1g b10 b11 b12 b13 b14 b15 b16 hA1 HC1 CNB CAM CNOT HC1' SAL HZ
    have LB := hide (L1.out.no HKA.out HKB.out hfx)
    have IA := hide (I1.out.no hfx)
    have IB := hide hix
    clear hfx hix I1 L1
    have hAB0 := LB.out.aft0 rfl rfl
    have a0k := cell_of_heap hAB0.t
    have a0l := lt_of_heap hAB0.t
    have a0r := lt_of_heap hAB0.r
    have a0g := hAB0.lt
    have a00 : wB.cell? ⟨g, o, none⟩ = some (.int .i64 ka) := hAB0.cell 0 (by omega)
    have a01 := hAB0.cell 1 (by omega)
    have a02 := hAB0.cell 2 (by omega)
    have a03 := hAB0.cell 3 (by omega)
    have a04 := hAB0.cell 4 (by omega)
    have a05 := hAB0.cell 5 (by omega)
    have a06 := hAB0.cell 6 (by omega)
    have K5 : Hid (∀ (W : World) (u0 u1 u2 u3 u4 u5 u6 : Value), (W.cell? ⟨w.heap.size, 5, none⟩ = some (.slice (some ⟨g, o, none⟩) 2 cap)) → ((((((((W.setCell ⟨g, o, none⟩ u0).setCell ⟨g, o + 1, none⟩ u1).setCell ⟨g, o + 2, none⟩ u2).setCell ⟨g, o + 3, none⟩ u3).setCell ⟨g, o + 4, none⟩ u4).setCell ⟨g, o + 5, none⟩ u5).setCell ⟨g, o + 6, none⟩ u6).cell? ⟨w.heap.size, 5, none⟩ = some (.slice (some ⟨g, o, none⟩) 2 cap))) := fun W u0 u1 u2 u3 u4 u5 u6 h => keepA7 _ _ _ _ _ _ _ HGW.out h
    have SAL5 : Hid (∀ (W : World) o', (W.cell? ⟨w.heap.size, 5, none⟩ = some (.slice (some ⟨g, o, none⟩) 2 cap)) → ((W.alloc o').cell? ⟨w.heap.size, 5, none⟩ = some (.slice (some ⟨g, o, none⟩) 2 cap))) := fun W o' hW => cell_allocA o' hW
    have HZ5 : Hid (wB.drew.cell? ⟨w.heap.size, 5, none⟩ = some (.slice (some ⟨g, o, none⟩) 2 cap)) := cell_of_heap hAB0.t 5
    go_wp2_with fail
    go_cut [5] from 28 to 61 (fun t5 wx => t5 = .func (.func fa) #[] fca ∧ Fr T wB wx ∧ ∃ kc nc xc yc s0 j0 h0 s1 j1 h1 s2 j2 h2, ∃ A' : Nat → Prop, (∀ x, A' x → A x ∨ (w.heap.size + 2 ≤ x ∧ x < wx.heap.size)) ∧ Dis V1 A' ∧ Dis A' B ∧ LetAt T V1 w #[.int .i64 nd.kind, .int .i64 nd.n, .string nd.name, .string nd.token, .slice va nd.vars.length vc, .slice (some ⟨g, o, none⟩) 2 cap, .slice a2 nd.cases.length c2] (.slice (some ⟨g, o, none⟩) 2 cap) (fun w V cs => CW (4 * Q) k (4 * Q) w V cs a) (fun w V cs => RTD k w V cs b) [.int .i64 kc, .int .i64 nc, .string xc, .string yc, .slice s0 j0 h0, .slice s1 j1 h1, .slice s2 j2 h2] [Value.int .i64 kb, .int .i64 nb, .string xb, .string yb, .slice r0 l0 z0, .slice r1 l1 z1, .slice r2 l2 z2] A' B wx)
    case first =>
      rw [show Op.load 32 (.tmp 32) = ldA from rfl]
      go_region_held3 (fun w' : World => w'.cell? ⟨w.heap.size, 5, none⟩ = some (.slice (some ⟨g, o, none⟩) 2 cap)) (first | with_reducible assumption | with_reducible exact HZ5.out | with_reducible exact K5.out _ _ _ _ _ _ _ _ (by with_reducible assumption))
        (first
        | (go_at_call 74; refine (COF.out _ _ _ (LB.out.no HKA.out HKB.out (show Fr No wB _ from by repeat (first | with_reducible exact Fr.refl _ _ | with_reducible refine Fr.drew ?_ | with_reducible refine Fr.trans ?_ F2.out | with_reducible refine Fr.trans ?_ F3.out | with_reducible refine Fr.trans ?_ F4.out | with_reducible refine Fr.trans ?_ F5.out | with_reducible refine Fr.alloc ?_ _))).fr (IA.out.no (show Fr No wB _ from by repeat (first | with_reducible exact Fr.refl _ _ | with_reducible refine Fr.drew ?_ | with_reducible refine Fr.trans ?_ F2.out | with_reducible refine Fr.trans ?_ F3.out | with_reducible refine Fr.trans ?_ F4.out | with_reducible refine Fr.trans ?_ F5.out | with_reducible refine Fr.alloc ?_ _)))).mono ?_; rintro e w2 ⟨d2, e2', rfl, hf2, ho2, hn2⟩; have F2 := hide hf2; have N2 := hide hn2; clear hf2 ho2 hn2; have hA2 := (LB.out.no HKA.out HKB.out (show Fr No wB w2 from by repeat (first | with_reducible exact Fr.refl _ _ | with_reducible refine Fr.drew ?_ | with_reducible refine Fr.trans ?_ F2.out | with_reducible refine Fr.trans ?_ F3.out | with_reducible refine Fr.trans ?_ F4.out | with_reducible refine Fr.trans ?_ F5.out | with_reducible refine Fr.alloc ?_ _))).aft0 rfl rfl; have a2k := cell_of_heap hA2.t; have a2l := lt_of_heap hA2.t; have a2r := lt_of_heap hA2.r; have a2g := hA2.lt; have a20 : w2.cell? ⟨g, o, none⟩ = some (.int .i64 ka) := hA2.cell 0 (by omega); have a21 := hA2.cell 1 (by omega); have a22 := hA2.cell 2 (by omega); have a23 := hA2.cell 3 (by omega); have a24 := hA2.cell 4 (by omega); have a25 := hA2.cell 5 (by omega); have a26 := hA2.cell 6 (by omega); have hz2 : w2.cell? ⟨w.heap.size, 5, none⟩ = some (.slice (some ⟨g, o, none⟩) 2 cap) := a2k 5)
        | (go_at_call 38; refine (CTA.out _ _ _ (LB.out.no HKA.out HKB.out (show Fr No wB _ from by repeat (first | with_reducible exact Fr.refl _ _ | with_reducible refine Fr.drew ?_ | with_reducible refine Fr.trans ?_ F2.out | with_reducible refine Fr.trans ?_ F3.out | with_reducible refine Fr.trans ?_ F4.out | with_reducible refine Fr.trans ?_ F5.out | with_reducible refine Fr.alloc ?_ _))) N2.out (List.length_filter_le _ _)).mono ?_; rintro e w3 ⟨kc, nc, xc, yc, s0, j0, h0, s1, j1, h1, s2, j2, h2, rfl, hf3, hr3, hA3⟩; have F3 := hide hf3; have R3 := hide hr3; clear hf3 hr3; have a3k := cell_of_heap hA3.t; have a3l := lt_of_heap hA3.t; have a3r := lt_of_heap hA3.r; have a3g := hA3.lt; have a30 : w3.cell? ⟨g, o, none⟩ = some (.int .i64 ka) := hA3.cell 0 (by omega); have a31 := hA3.cell 1 (by omega); have a32 := hA3.cell 2 (by omega); have a33 := hA3.cell 3 (by omega); have a34 := hA3.cell 4 (by omega); have a35 := hA3.cell 5 (by omega); have a36 := hA3.cell 6 (by omega); have hz3 : w3.cell? ⟨w.heap.size, 5, none⟩ = some (.slice (some ⟨g, o, none⟩) 2 cap) := a3k 5; have z30 : w3.frozen? ⟨g, o, none⟩ = false := hA3.froz 0 (by omega); have z31 := hA3.froz 1 (by omega); have z32 := hA3.froz 2 (by omega); have z33 := hA3.froz 3 (by omega); have z34 := hA3.froz 4 (by omega); have z35 := hA3.froz 5 (by omega); have z36 := hA3.froz 6 (by omega)))
      all_goals
        go_wp2_with fail
        obtain ⟨⟨A', pA1, pA2, pA3, pA4⟩, pF⟩ := HP0.out w2 w3 kc nc xc yc s0 j0 h0 s1 j1 h1 s2 j2 h2 (LB.out.no HKA.out HKB.out (show Fr No wB _ from by repeat (first | with_reducible exact Fr.refl _ _ | with_reducible refine Fr.drew ?_ | with_reducible refine Fr.trans ?_ F2.out | with_reducible refine Fr.alloc ?_ _))) F3.out R3.out
        go_meet
        case rel => exact ⟨rfl, ((show Fr No wB w2 from by repeat (first | with_reducible exact Fr.refl _ _ | with_reducible refine Fr.drew ?_ | with_reducible refine Fr.trans ?_ F2.out | with_reducible refine Fr.alloc ?_ _)).mono (fun _ _ e => e.elim)).trans pF, kc, nc, xc, yc, s0, j0, h0, s1, j1, h1, s2, j2, h2, A', pA1, pA2, pA3, pA4⟩
    case rest =>
      obtain ⟨rfl, hfx, kc, nc, xc, yc, s0, j0, h0, s1, j1, h1, s2, j2, h2, A', pA1, pA2, pA3, pA4⟩ := hcut
      obtain ⟨wD, hwD⟩ : ∃ wD, wD = wc := ⟨_, rfl⟩
      subst hwD
      clear a0k a0l a0r a0g a00 a01 a02 a03 a04 a05 a06 hAB0 CTA HP0 K5 SAL5 HZ5
      have LD := hide pA4
      have IA2 := hide (IA.out.fr hfx)
      have IB2 := hide (IB.out.fr hfx)
      have PA := hide (And.intro pA1 (And.intro pA2 pA3))
      clear hfx pA1 pA2 pA3 pA4 IA IB LB
      have hAD0 := LD.out.aft1 rfl rfl
      have d0k := cell_of_heap hAD0.t
      have d0l := lt_of_heap hAD0.t
      have d0r := lt_of_heap hAD0.r
      have d0g := hAD0.lt
      have d00 : wD.cell? ⟨g, o + 7, none⟩ = some (.int .i64 kb) := hAD0.cell 0 (by omega)
      have d01 := hAD0.cell 1 (by omega)
      have d02 := hAD0.cell 2 (by omega)
      have d03 := hAD0.cell 3 (by omega)
      have d04 := hAD0.cell 4 (by omega)
      have d05 := hAD0.cell 5 (by omega)
      have d06 := hAD0.cell 6 (by omega)
      have K6 : Hid (∀ (W : World) (u0 u1 u2 u3 u4 u5 u6 : Value), (W.cell? ⟨w.heap.size, 2, none⟩ = some (.string nd.name) ∧ W.cell? ⟨w.heap.size, 5, none⟩ = some (.slice (some ⟨g, o, none⟩) 2 cap)) → ((((((((W.setCell ⟨g, o + 7, none⟩ u0).setCell ⟨g, o + 7 + 1, none⟩ u1).setCell ⟨g, o + 7 + 2, none⟩ u2).setCell ⟨g, o + 7 + 3, none⟩ u3).setCell ⟨g, o + 7 + 4, none⟩ u4).setCell ⟨g, o + 7 + 5, none⟩ u5).setCell ⟨g, o + 7 + 6, none⟩ u6).cell? ⟨w.heap.size, 2, none⟩ = some (.string nd.name) ∧ (((((((W.setCell ⟨g, o + 7, none⟩ u0).setCell ⟨g, o + 7 + 1, none⟩ u1).setCell ⟨g, o + 7 + 2, none⟩ u2).setCell ⟨g, o + 7 + 3, none⟩ u3).setCell ⟨g, o + 7 + 4, none⟩ u4).setCell ⟨g, o + 7 + 5, none⟩ u5).setCell ⟨g, o + 7 + 6, none⟩ u6).cell? ⟨w.heap.size, 5, none⟩ = some (.slice (some ⟨g, o, none⟩) 2 cap))) := fun W u0 u1 u2 u3 u4 u5 u6 h => ⟨keepA7 _ _ _ _ _ _ _ HGW.out h.1, keepA7 _ _ _ _ _ _ _ HGW.out h.2⟩
      have SAL6 : Hid (∀ (W : World) o', (W.cell? ⟨w.heap.size, 2, none⟩ = some (.string nd.name) ∧ W.cell? ⟨w.heap.size, 5, none⟩ = some (.slice (some ⟨g, o, none⟩) 2 cap)) → ((W.alloc o').cell? ⟨w.heap.size, 2, none⟩ = some (.string nd.name) ∧ (W.alloc o').cell? ⟨w.heap.size, 5, none⟩ = some (.slice (some ⟨g, o, none⟩) 2 cap))) := fun W o' hW => ⟨cell_allocA o' hW.1, cell_allocA o' hW.2⟩
      have HZ6 : Hid (wD.drew.cell? ⟨w.heap.size, 2, none⟩ = some (.string nd.name) ∧ wD.drew.cell? ⟨w.heap.size, 5, none⟩ = some (.slice (some ⟨g, o, none⟩) 2 cap)) := ⟨d0k 2, d0k 5⟩
      have GR : Hid (∀ (W w' : World) (v : Value) (n base : Nat) (xs : List Value), W.grownBy w' v.ownBlock → W.ownsRow base 9 1 v n xs → Fr No wD W → wD.heap.size ≤ base → Fr No wD w') := fun W w' v n base xs hg hr hW hb => hW.grown hg (fun a ha => .inr (Nat.le_trans hb (hr.lt a ha).1))
      have NL : Hid (∀ W1 W q, W1.heap[q]? = some (.cells #[.string nd.name] 9 (0, 0)) → Fr No W1 W → Names W.heap.size W (.slice (some ⟨q, 0, none⟩) 1 1) [nd.name]) := fun W1 W q hq hW => name_one (fr_heap hq hW (fun e => e)) HNM.out
      have NMA : Hid (∀ (W : World) (v : Value) (m : List ByteArray) (base : Nat), Short m → W.ownsRow base 9 1 v (m.length + 1) (m.map .string ++ [nd.name].map .string) → wD.heap.size ≤ base → NamesX T W v (m ++ [nd.name]) ∧ ∃ a c, v = .slice a (m.length + 1) c) := fun W v m base hm hr hb => by
        have hr' : W.ownsRow base 9 1 v (m ++ [nd.name]).length ((m ++ [nd.name]).map .string) := by simpa using hr
        obtain ⟨a, c, e⟩ := row_form hr'
        rw [List.length_append] at e
        exact ⟨own_namesX hr' rfl (fun y hy => by
          rcases List.mem_append.1 hy with h | h
          · exact hm y h
          · simp at h; subst h; exact HNM.out) (fun g hg h => by have := HTW.out g h; have := LD.out.fr.size; omega), a, c, e⟩
      go_wp2_with fail
      go_cut [5] from 39 to 61 (fun t5 wx => t5 = .func (.func fa) #[] fca ∧ Fr T wD wx ∧ ∃ kd nd' xd yd t0 i0 g0 t1 i1 g1 t2 i2 g2, ∃ A' B' : Nat → Prop, (∀ x, A' x → A x ∨ (w.heap.size + 2 ≤ x ∧ x < wx.heap.size)) ∧ (∀ x, B' x → B x ∨ (w.heap.size + 2 ≤ x ∧ x < wx.heap.size)) ∧ Dis A' B' ∧ LetAt T V1 w #[.int .i64 nd.kind, .int .i64 nd.n, .string nd.name, .string nd.token, .slice va nd.vars.length vc, .slice (some ⟨g, o, none⟩) 2 cap, .slice a2 nd.cases.length c2] (.slice (some ⟨g, o, none⟩) 2 cap) (fun w V cs => CW (4 * Q) k (4 * Q) w V cs a) (fun w V cs => CW (4 * Q) k (4 * Q) w V cs b) [.int .i64 kc, .int .i64 nc, .string xc, .string yc, .slice s0 j0 h0, .slice s1 j1 h1, .slice s2 j2 h2] [.int .i64 kd, .int .i64 nd', .string xd, .string yd, .slice t0 i0 g0, .slice t1 i1 g1, .slice t2 i2 g2] A' B' wx)
      case first =>
        rw [show Op.load 32 (.tmp 43) = ldB from rfl]
        go_region_held3 (fun w' : World => w'.cell? ⟨w.heap.size, 2, none⟩ = some (.string nd.name) ∧ w'.cell? ⟨w.heap.size, 5, none⟩ = some (.slice (some ⟨g, o, none⟩) 2 cap)) (first | with_reducible assumption | with_reducible exact HZ6.out | with_reducible exact K6.out _ _ _ _ _ _ _ _ (by with_reducible assumption) | exact SAL6.out _ _ (by first | with_reducible assumption | exact HZ6.out))
          (first
          | (go_at_call 74; refine (COF.out _ _ _ (LD.out.no HKC.out HKB.out (show Fr No wD _ from by repeat (first | with_reducible exact Fr.refl _ _ | with_reducible refine Fr.drew ?_ | with_reducible refine Fr.trans ?_ F2.out | with_reducible refine Fr.trans ?_ F3.out | with_reducible refine Fr.trans ?_ F4.out | with_reducible refine Fr.trans ?_ F5.out | with_reducible refine Fr.alloc ?_ _))).fr (IB2.out.no (show Fr No wD _ from by repeat (first | with_reducible exact Fr.refl _ _ | with_reducible refine Fr.drew ?_ | with_reducible refine Fr.trans ?_ F2.out | with_reducible refine Fr.trans ?_ F3.out | with_reducible refine Fr.trans ?_ F4.out | with_reducible refine Fr.trans ?_ F5.out | with_reducible refine Fr.alloc ?_ _)))).mono ?_; rintro e w2 ⟨d2, e2', rfl, hf2, ho2, hn2⟩; have F2 := hide hf2; have O2 := hide ho2; have N2 := hide hn2; clear hf2 ho2 hn2; have hA2 := (LD.out.no HKC.out HKB.out (show Fr No wD w2 from by repeat (first | with_reducible exact Fr.refl _ _ | with_reducible refine Fr.drew ?_ | with_reducible refine Fr.trans ?_ F2.out | with_reducible refine Fr.trans ?_ F3.out | with_reducible refine Fr.trans ?_ F4.out | with_reducible refine Fr.trans ?_ F5.out | with_reducible refine Fr.alloc ?_ _))).aft1 rfl rfl; have x2k := cell_of_heap hA2.t; have x2l := lt_of_heap hA2.t; have x2r := lt_of_heap hA2.r; have x2g := hA2.lt; have x20 : w2.cell? ⟨g, o + 7, none⟩ = some (.int .i64 kb) := hA2.cell 0 (by omega); have x21 := hA2.cell 1 (by omega); have x22 := hA2.cell 2 (by omega); have x23 := hA2.cell 3 (by omega); have x24 := hA2.cell 4 (by omega); have x25 := hA2.cell 5 (by omega); have x26 := hA2.cell 6 (by omega); have hz2 : w2.cell? ⟨w.heap.size, 2, none⟩ = some (.string nd.name) ∧ w2.cell? ⟨w.heap.size, 5, none⟩ = some (.slice (some ⟨g, o, none⟩) 2 cap) := ⟨x2k 2, x2k 5⟩)
          | (refine step_append_names rfl (.tmp 47) (.tmp 50) rfl rfl (base := _) (B := _) (n := (l.filter (fun x => Pu.has (Pu.free k b) x && !(Pu.has [nd.name] x))).length) (xs := (l.filter (fun x => Pu.has (Pu.free k b) x && !(Pu.has [nd.name] x))).map .string) (l := [nd.name]) rfl rfl (by first | exact O2.out | exact O2.out.alloc _) (by exact NL.out _ _ _ (heap_alloc_new _ _) (by repeat (first | with_reducible exact Fr.refl _ _ | with_reducible refine Fr.drew ?_ | with_reducible refine Fr.trans ?_ F2.out | with_reducible refine Fr.trans ?_ F3.out | with_reducible refine Fr.trans ?_ F4.out | with_reducible refine Fr.trans ?_ F5.out | with_reducible refine Fr.alloc ?_ _))) (by have := List.length_filter_le (fun x => Pu.has (Pu.free k b) x && !(Pu.has [nd.name] x)) l; have := HLL.out; show _ + 1 ≤ _; omega) (by first | exact F2.out.size | exact (F2.out.alloc _).size) ?_; intro v6 w6 ho6 hg6 hl6; have F6 : Hid (Fr No wD w6) := GR.out _ _ _ _ _ _ hg6 (by first | exact O2.out | exact O2.out.alloc _) (by repeat (first | with_reducible exact Fr.refl _ _ | with_reducible refine Fr.drew ?_ | with_reducible refine Fr.trans ?_ F2.out | with_reducible refine Fr.trans ?_ F3.out | with_reducible refine Fr.trans ?_ F4.out | with_reducible refine Fr.trans ?_ F5.out | with_reducible refine Fr.alloc ?_ _)) (by exact Fr.size (T := No) (by repeat (first | with_reducible exact Fr.refl _ _ | with_reducible refine Fr.drew ?_ | with_reducible refine Fr.trans ?_ F2.out | with_reducible refine Fr.trans ?_ F3.out | with_reducible refine Fr.trans ?_ F4.out | with_reducible refine Fr.trans ?_ F5.out | with_reducible refine Fr.alloc ?_ _))); obtain ⟨hn6, a6, c6, hv6⟩ := NMA.out w6 v6 _ _ (N2.out.2) ho6 (by exact Fr.size (T := No) (by repeat (first | with_reducible exact Fr.refl _ _ | with_reducible refine Fr.drew ?_ | with_reducible refine Fr.trans ?_ F2.out | with_reducible refine Fr.trans ?_ F3.out | with_reducible refine Fr.trans ?_ F4.out | with_reducible refine Fr.trans ?_ F5.out | with_reducible refine Fr.alloc ?_ _))); subst hv6; have N6 := hide hn6; clear hn6 ho6 hg6 hl6; have hA6 := (LD.out.no HKC.out HKB.out F6.out).aft1 rfl rfl; have y2k := cell_of_heap hA6.t; have y2l := lt_of_heap hA6.t; have y2r := lt_of_heap hA6.r; have y2g := hA6.lt; have y20 : w6.cell? ⟨g, o + 7, none⟩ = some (.int .i64 kb) := hA6.cell 0 (by omega); have y21 := hA6.cell 1 (by omega); have y22 := hA6.cell 2 (by omega); have y23 := hA6.cell 3 (by omega); have y24 := hA6.cell 4 (by omega); have y25 := hA6.cell 5 (by omega); have y26 := hA6.cell 6 (by omega); have hz6 : w6.cell? ⟨w.heap.size, 2, none⟩ = some (.string nd.name) ∧ w6.cell? ⟨w.heap.size, 5, none⟩ = some (.slice (some ⟨g, o, none⟩) 2 cap) := ⟨y2k 2, y2k 5⟩)
          | (go_at_call 38; refine (CTB.out w6 _ _ A' [.int .i64 kc, .int .i64 nc, .string xc, .string yc, .slice s0 j0 h0, .slice s1 j1 h1, .slice s2 j2 h2] rfl (LD.out.no HKC.out HKB.out F6.out) N6.out (by have := List.length_filter_le (fun x => Pu.has (Pu.free k b) x && !(Pu.has [nd.name] x)) l; simp only [List.length_append, List.length_cons, List.length_nil]; omega)).mono ?_; rintro e w3 ⟨kd, nd', xd, yd, t0, i0, g0, t1, i1, g1, t2, i2, g2, rfl, hf3, hr3, hA3⟩; have F3 := hide hf3; have R3 := hide hr3; clear hf3 hr3; have x3k := cell_of_heap hA3.t; have x3l := lt_of_heap hA3.t; have x3r := lt_of_heap hA3.r; have x3g := hA3.lt; have x30 : w3.cell? ⟨g, o + 7, none⟩ = some (.int .i64 kb) := hA3.cell 0 (by omega); have x31 := hA3.cell 1 (by omega); have x32 := hA3.cell 2 (by omega); have x33 := hA3.cell 3 (by omega); have x34 := hA3.cell 4 (by omega); have x35 := hA3.cell 5 (by omega); have x36 := hA3.cell 6 (by omega); have hz3 : w3.cell? ⟨w.heap.size, 2, none⟩ = some (.string nd.name) ∧ w3.cell? ⟨w.heap.size, 5, none⟩ = some (.slice (some ⟨g, o, none⟩) 2 cap) := ⟨x3k 2, x3k 5⟩; have z30 : w3.frozen? ⟨g, o + 7, none⟩ = false := hA3.froz 0 (by omega); have z31 := hA3.froz 1 (by omega); have z32 := hA3.froz 2 (by omega); have z33 := hA3.froz 3 (by omega); have z34 := hA3.froz 4 (by omega); have z35 := hA3.froz 5 (by omega); have z36 := hA3.froz 6 (by omega)))
        all_goals
          go_wp2_with fail
          obtain ⟨⟨A2, B2', pB1, pB2, pB3, pB4⟩, pF⟩ := HP1.out w6 w3 [.int .i64 kc, .int .i64 nc, .string xc, .string yc, .slice s0 j0 h0, .slice s1 j1 h1, .slice s2 j2 h2] A' kd nd' xd yd t0 i0 g0 t1 i1 g1 t2 i2 g2 rfl (fun x hx => (PA.out.1 x hx).imp (fun h => h) (fun h => ⟨h.1, Nat.lt_of_lt_of_le h.2 F6.out.size⟩)) PA.out.2.1 PA.out.2.2 (LD.out.no HKC.out HKB.out F6.out) F3.out R3.out
          go_meet
          case rel => exact ⟨rfl, (F6.out.mono (fun _ _ e => e.elim)).trans pF, kd, nd', xd, yd, t0, i0, g0, t1, i1, g1, t2, i2, g2, A2, B2', pB1, pB2, pB3, pB4⟩
      case rest =>
        obtain ⟨rfl, hfx, kd, nd', xd, yd, t0, i0, g0, t1, i1, g1, t2, i2, g2, A2, B2, pB1, pB2, pB3, pB4⟩ := hcut
        obtain ⟨wE, hwE⟩ : ∃ wE, wE = wc := ⟨_, rfl⟩
        subst hwE
        clear d0k d0l d0r d0g d00 d01 d02 d03 d04 d05 d06 hAD0 CTB HP1 K6 SAL6 HZ6 GR NMA
        have LE := hide pB4
        have IA3 := hide (IA2.out.fr hfx)
        have IB3 := hide (IB2.out.fr hfx)
        have PB := hide (And.intro pB1 (And.intro pB2 pB3))
        clear hfx pB1 pB2 pB3 pB4 IA2 IB2 LD
        have e0k := cell_of_heap LE.out.t
        have HZ7 : Hid (wE.drew.cell? ⟨w.heap.size, 0, none⟩ = some (.int .i64 nd.kind) ∧ wE.drew.cell? ⟨w.heap.size, 1, none⟩ = some (.int .i64 nd.n) ∧ wE.drew.cell? ⟨w.heap.size, 2, none⟩ = some (.string nd.name) ∧ wE.drew.cell? ⟨w.heap.size, 3, none⟩ = some (.string nd.token) ∧ wE.drew.cell? ⟨w.heap.size, 4, none⟩ = some (.slice va nd.vars.length vc) ∧ wE.drew.cell? ⟨w.heap.size, 5, none⟩ = some (.slice (some ⟨g, o, none⟩) 2 cap) ∧ wE.drew.cell? ⟨w.heap.size, 6, none⟩ = some (.slice a2 nd.cases.length c2)) := ⟨e0k 0, e0k 1, e0k 2, e0k 3, e0k 4, e0k 5, e0k 6⟩
        have S7F : Hid (∀ W, Fr No wE W → (W.cell? ⟨w.heap.size, 0, none⟩ = some (.int .i64 nd.kind) ∧ W.cell? ⟨w.heap.size, 1, none⟩ = some (.int .i64 nd.n) ∧ W.cell? ⟨w.heap.size, 2, none⟩ = some (.string nd.name) ∧ W.cell? ⟨w.heap.size, 3, none⟩ = some (.string nd.token) ∧ W.cell? ⟨w.heap.size, 4, none⟩ = some (.slice va nd.vars.length vc) ∧ W.cell? ⟨w.heap.size, 5, none⟩ = some (.slice (some ⟨g, o, none⟩) 2 cap) ∧ W.cell? ⟨w.heap.size, 6, none⟩ = some (.slice a2 nd.cases.length c2))) := fun W hW => by
          have ck := cell_of_heap (fr_heap LE.out.t hW (fun e => e))
          exact ⟨ck 0, ck 1, ck 2, ck 3, ck 4, ck 5, ck 6⟩
        have HNE : (⟨w.heap.size, 0, none⟩ : Addr).block ≠ w.heap.size + 1 := by show w.heap.size ≠ w.heap.size + 1; omega
        have K7 : Hid (∀ (W : World) (u0 u1 u2 u3 u4 u5 u6 : Value), (W.cell? ⟨w.heap.size, 0, none⟩ = some (.int .i64 nd.kind) ∧ W.cell? ⟨w.heap.size, 1, none⟩ = some (.int .i64 nd.n) ∧ W.cell? ⟨w.heap.size, 2, none⟩ = some (.string nd.name) ∧ W.cell? ⟨w.heap.size, 3, none⟩ = some (.string nd.token) ∧ W.cell? ⟨w.heap.size, 4, none⟩ = some (.slice va nd.vars.length vc) ∧ W.cell? ⟨w.heap.size, 5, none⟩ = some (.slice (some ⟨g, o, none⟩) 2 cap) ∧ W.cell? ⟨w.heap.size, 6, none⟩ = some (.slice a2 nd.cases.length c2)) → ((((((((W.setCell ⟨w.heap.size + 1, 0, none⟩ u0).setCell ⟨w.heap.size + 1, 1, none⟩ u1).setCell ⟨w.heap.size + 1, 2, none⟩ u2).setCell ⟨w.heap.size + 1, 3, none⟩ u3).setCell ⟨w.heap.size + 1, 4, none⟩ u4).setCell ⟨w.heap.size + 1, 5, none⟩ u5).setCell ⟨w.heap.size + 1, 6, none⟩ u6).cell? ⟨w.heap.size, 0, none⟩ = some (.int .i64 nd.kind) ∧ (((((((W.setCell ⟨w.heap.size + 1, 0, none⟩ u0).setCell ⟨w.heap.size + 1, 1, none⟩ u1).setCell ⟨w.heap.size + 1, 2, none⟩ u2).setCell ⟨w.heap.size + 1, 3, none⟩ u3).setCell ⟨w.heap.size + 1, 4, none⟩ u4).setCell ⟨w.heap.size + 1, 5, none⟩ u5).setCell ⟨w.heap.size + 1, 6, none⟩ u6).cell? ⟨w.heap.size, 1, none⟩ = some (.int .i64 nd.n) ∧ (((((((W.setCell ⟨w.heap.size + 1, 0, none⟩ u0).setCell ⟨w.heap.size + 1, 1, none⟩ u1).setCell ⟨w.heap.size + 1, 2, none⟩ u2).setCell ⟨w.heap.size + 1, 3, none⟩ u3).setCell ⟨w.heap.size + 1, 4, none⟩ u4).setCell ⟨w.heap.size + 1, 5, none⟩ u5).setCell ⟨w.heap.size + 1, 6, none⟩ u6).cell? ⟨w.heap.size, 2, none⟩ = some (.string nd.name) ∧ (((((((W.setCell ⟨w.heap.size + 1, 0, none⟩ u0).setCell ⟨w.heap.size + 1, 1, none⟩ u1).setCell ⟨w.heap.size + 1, 2, none⟩ u2).setCell ⟨w.heap.size + 1, 3, none⟩ u3).setCell ⟨w.heap.size + 1, 4, none⟩ u4).setCell ⟨w.heap.size + 1, 5, none⟩ u5).setCell ⟨w.heap.size + 1, 6, none⟩ u6).cell? ⟨w.heap.size, 3, none⟩ = some (.string nd.token) ∧ (((((((W.setCell ⟨w.heap.size + 1, 0, none⟩ u0).setCell ⟨w.heap.size + 1, 1, none⟩ u1).setCell ⟨w.heap.size + 1, 2, none⟩ u2).setCell ⟨w.heap.size + 1, 3, none⟩ u3).setCell ⟨w.heap.size + 1, 4, none⟩ u4).setCell ⟨w.heap.size + 1, 5, none⟩ u5).setCell ⟨w.heap.size + 1, 6, none⟩ u6).cell? ⟨w.heap.size, 4, none⟩ = some (.slice va nd.vars.length vc) ∧ (((((((W.setCell ⟨w.heap.size + 1, 0, none⟩ u0).setCell ⟨w.heap.size + 1, 1, none⟩ u1).setCell ⟨w.heap.size + 1, 2, none⟩ u2).setCell ⟨w.heap.size + 1, 3, none⟩ u3).setCell ⟨w.heap.size + 1, 4, none⟩ u4).setCell ⟨w.heap.size + 1, 5, none⟩ u5).setCell ⟨w.heap.size + 1, 6, none⟩ u6).cell? ⟨w.heap.size, 5, none⟩ = some (.slice (some ⟨g, o, none⟩) 2 cap) ∧ (((((((W.setCell ⟨w.heap.size + 1, 0, none⟩ u0).setCell ⟨w.heap.size + 1, 1, none⟩ u1).setCell ⟨w.heap.size + 1, 2, none⟩ u2).setCell ⟨w.heap.size + 1, 3, none⟩ u3).setCell ⟨w.heap.size + 1, 4, none⟩ u4).setCell ⟨w.heap.size + 1, 5, none⟩ u5).setCell ⟨w.heap.size + 1, 6, none⟩ u6).cell? ⟨w.heap.size, 6, none⟩ = some (.slice a2 nd.cases.length c2))) := fun W u0 u1 u2 u3 u4 u5 u6 h => ⟨keepA7 _ _ _ _ _ _ _ HNE h.1, keepA7 _ _ _ _ _ _ _ HNE h.2.1, keepA7 _ _ _ _ _ _ _ HNE h.2.2.1, keepA7 _ _ _ _ _ _ _ HNE h.2.2.2.1, keepA7 _ _ _ _ _ _ _ HNE h.2.2.2.2.1, keepA7 _ _ _ _ _ _ _ HNE h.2.2.2.2.2.1, keepA7 _ _ _ _ _ _ _ HNE h.2.2.2.2.2.2⟩
        clear e0k HNE
        go_wp2_with fail
        go_region_held3 (fun w' : World => w'.cell? ⟨w.heap.size, 0, none⟩ = some (.int .i64 nd.kind) ∧ w'.cell? ⟨w.heap.size, 1, none⟩ = some (.int .i64 nd.n) ∧ w'.cell? ⟨w.heap.size, 2, none⟩ = some (.string nd.name) ∧ w'.cell? ⟨w.heap.size, 3, none⟩ = some (.string nd.token) ∧ w'.cell? ⟨w.heap.size, 4, none⟩ = some (.slice va nd.vars.length vc) ∧ w'.cell? ⟨w.heap.size, 5, none⟩ = some (.slice (some ⟨g, o, none⟩) 2 cap) ∧ w'.cell? ⟨w.heap.size, 6, none⟩ = some (.slice a2 nd.cases.length c2)) (first | with_reducible assumption | with_reducible exact HZ7.out | with_reducible exact K7.out _ _ _ _ _ _ _ _ (by with_reducible assumption))
          (first
          | (go_at_call 127; refine (CAND.out _ _ _ _ _ (Nat.le_trans LE.out.fr.size (show Fr No wE _ from by repeat (first | with_reducible exact Fr.refl _ _ | with_reducible refine Fr.drew ?_ | with_reducible refine Fr.trans ?_ F2.out | with_reducible refine Fr.trans ?_ F3.out | with_reducible refine Fr.trans ?_ F4.out | with_reducible refine Fr.trans ?_ F5.out | with_reducible refine Fr.alloc ?_ _)).size) (IA3.out.no (show Fr No wE _ from by repeat (first | with_reducible exact Fr.refl _ _ | with_reducible refine Fr.drew ?_ | with_reducible refine Fr.trans ?_ F2.out | with_reducible refine Fr.trans ?_ F3.out | with_reducible refine Fr.trans ?_ F4.out | with_reducible refine Fr.trans ?_ F5.out | with_reducible refine Fr.alloc ?_ _))) (IB3.out.no (show Fr No wE _ from by repeat (first | with_reducible exact Fr.refl _ _ | with_reducible refine Fr.drew ?_ | with_reducible refine Fr.trans ?_ F2.out | with_reducible refine Fr.trans ?_ F3.out | with_reducible refine Fr.trans ?_ F4.out | with_reducible refine Fr.trans ?_ F5.out | with_reducible refine Fr.alloc ?_ _)))).mono ?_; rintro e w2 ⟨f2, c2', rfl, hf2, hi2⟩; have F2 := hide hf2; have I2 := hide hi2; clear hf2 hi2; have hz2 := S7F.out w2 (by repeat (first | with_reducible exact Fr.refl _ _ | with_reducible refine Fr.drew ?_ | with_reducible refine Fr.trans ?_ F2.out | with_reducible refine Fr.trans ?_ F3.out | with_reducible refine Fr.trans ?_ F4.out | with_reducible refine Fr.trans ?_ F5.out | with_reducible refine Fr.alloc ?_ _)))
          | (go_at_call 74; refine (COF.out _ _ _ (LE.out.no HKC.out HKD.out (show Fr No wE _ from by repeat (first | with_reducible exact Fr.refl _ _ | with_reducible refine Fr.drew ?_ | with_reducible refine Fr.trans ?_ F2.out | with_reducible refine Fr.trans ?_ F3.out | with_reducible refine Fr.trans ?_ F4.out | with_reducible refine Fr.trans ?_ F5.out | with_reducible refine Fr.alloc ?_ _))).fr I2.out).mono ?_; rintro e w3 ⟨d3, e3', rfl, hf3, ho3, hn3⟩; have F3 := hide hf3; have N3 := hide hn3; clear hf3 ho3 hn3; have hz3 := S7F.out w3 (by repeat (first | with_reducible exact Fr.refl _ _ | with_reducible refine Fr.drew ?_ | with_reducible refine Fr.trans ?_ F2.out | with_reducible refine Fr.trans ?_ F3.out | with_reducible refine Fr.trans ?_ F4.out | with_reducible refine Fr.trans ?_ F5.out | with_reducible refine Fr.alloc ?_ _)))
          | (go_at_call 72; refine (CCO.out w3 _ _ A2 B2 [.int .i64 kc, .int .i64 nc, .string xc, .string yc, .slice s0 j0 h0, .slice s1 j1 h1, .slice s2 j2 h2] [.int .i64 kd, .int .i64 nd', .string xd, .string yd, .slice t0 i0 g0, .slice t1 i1 g1, .slice t2 i2 g2] rfl rfl (fun x hx => (PB.out.1 x hx).imp (fun h => h) (fun h => ⟨h.1, Nat.lt_of_lt_of_le h.2 (show Fr No wE w3 from by repeat (first | with_reducible exact Fr.refl _ _ | with_reducible refine Fr.drew ?_ | with_reducible refine Fr.trans ?_ F2.out | with_reducible refine Fr.trans ?_ F3.out | with_reducible refine Fr.trans ?_ F4.out | with_reducible refine Fr.trans ?_ F5.out | with_reducible refine Fr.alloc ?_ _)).size⟩)) (fun x hx => (PB.out.2.1 x hx).imp (fun h => h) (fun h => ⟨h.1, Nat.lt_of_lt_of_le h.2 (show Fr No wE w3 from by repeat (first | with_reducible exact Fr.refl _ _ | with_reducible refine Fr.drew ?_ | with_reducible refine Fr.trans ?_ F2.out | with_reducible refine Fr.trans ?_ F3.out | with_reducible refine Fr.trans ?_ F4.out | with_reducible refine Fr.trans ?_ F5.out | with_reducible refine Fr.alloc ?_ _)).size⟩)) PB.out.2.2 (LE.out.no HKC.out HKD.out (show Fr No wE w3 from by repeat (first | with_reducible exact Fr.refl _ _ | with_reducible refine Fr.drew ?_ | with_reducible refine Fr.trans ?_ F2.out | with_reducible refine Fr.trans ?_ F3.out | with_reducible refine Fr.trans ?_ F4.out | with_reducible refine Fr.trans ?_ F5.out | with_reducible refine Fr.alloc ?_ _))) N3.out (List.length_filter_le _ _)).mono ?_; rintro e w4 ⟨ke, ne, xe, ye, u0, v0', w0', u1, v1', w1', u2, v2', w2', rfl, hf4, hr4⟩; have F4 := hide hf4; have R4 := hide hr4; clear hf4 hr4; have hz4 := S7F.out w4 (by repeat (first | with_reducible exact Fr.refl _ _ | with_reducible refine Fr.drew ?_ | with_reducible refine Fr.trans ?_ F2.out | with_reducible refine Fr.trans ?_ F3.out | with_reducible refine Fr.trans ?_ F4.out | with_reducible refine Fr.trans ?_ F5.out | with_reducible refine Fr.alloc ?_ _)); have G4 := hide (fr_heap LE.out.r (show Fr No wE w4 from by repeat (first | with_reducible exact Fr.refl _ _ | with_reducible refine Fr.drew ?_ | with_reducible refine Fr.trans ?_ F2.out | with_reducible refine Fr.trans ?_ F3.out | with_reducible refine Fr.trans ?_ F4.out | with_reducible refine Fr.trans ?_ F5.out | with_reducible refine Fr.alloc ?_ _)) (fun e => e)); have k4 := cell_of_heap G4.out; have z4 := frozen_of_heap G4.out; have l4 := lt_of_heap G4.out))
        all_goals
          obtain ⟨s1, s2⟩ := set7 G4.out (.int .i64 ke) (.int .i64 ne) (.string xe) (.string ye) (.slice u0 v0' w0') (.slice u1 v1' w1') (.slice u2 v2' w2')
          have F14 : Fr T w w4 := LE.out.fr.trans ((show Fr No wE w4 from by repeat (first | with_reducible exact Fr.refl _ _ | with_reducible refine Fr.drew ?_ | with_reducible refine Fr.trans ?_ F2.out | with_reducible refine Fr.trans ?_ F3.out | with_reducible refine Fr.trans ?_ F4.out | with_reducible refine Fr.trans ?_ F5.out | with_reducible refine Fr.alloc ?_ _)).mono (fun _ _ e => e.elim))
          go_wp2_with fail
          refine bodyPost_ret (retT rfl _ _ (w.heap.size + 1) _ _ _ _ _ _ _ (0, 0) rfl s1) rfl ⟨_, rfl, ?_, ?_⟩
          · exact (F14.mono (fun x _ h => HTS.out x h)).trans' s2 (fun i hi e => by have e : i = w.heap.size + 1 := e; omega)
          · have hs := F14.size
            have hS6 := HSS.out
            refine (R4.out.kept (stays_fr s2 (fun x hx _ e => by
              have e : x = w.heap.size + 1 := e
              rcases hx with h | h
              · have := hS6 x h; omega
              · have := h.1; omega) (fun _ h => h))).sub (fun x h => h.imp (fun h => h) (fun h => ⟨by have := h.1; omega, Nat.lt_of_lt_of_le h.2 s2.size⟩))
end Go.Proofs.YtomahbdidlglfacGreatDoor
