/- The document's 'atoms', as 'Term' of W is asked to do. -/
import Derived.Test.YtomahbdidlglfacGreatDoorPn6ObOx1Ox2Ox3Pn7
namespace Go.Proofs.YtomahbdidlglfacGreatDoor
open Go.RowKit Go.Maps Go.WideMaps

/-- What 'Term' of W does at terms of k levels: a term of some levels, not much heavier. -/
def WTerm (k : Nat) : Prop := ∀ (wb K : Nat) (S : Nat → Prop) (w : World) (cs : List Value) (m : Nat), (∀ g, w.heap.size ≤ g → S g) → ¬ S wb → w.heap[wb]? = some (.cells #[.int .i64 (K : Int)] 71 (0, 0)) → 3 ≤ wb → Env w → PT k S w cs m → K + m ≤ 1073741824 →
  Calls Tryz.prog 36 #[.pointer (some ⟨wb, 0, none⟩), .agg cs.toArray] w fun e w' => ∃ cs', e = .returned (.agg cs'.toArray) ∧ Fr (· = wb) w w' ∧ (∃ K' : Nat, w'.heap[wb]? = some (.cells #[.int .i64 (K' : Int)] 71 (0, 0)) ∧ K' + 1 ≤ K + m) ∧ ∃ k' m', PT k' S w' cs' m' ∧ m' + 2 ≤ 4 * m

set_option maxRecDepth 100000 in
set_option maxHeartbeats 4000000 in
/-- At a name or a number: it is answered as it is. -/
theorem wterm_leaf (k wb _K : Nat) (S : Nat → Prop) (w : World) (kd n : Int) (x y : ByteArray) (a0 : Option Addr) (n0 c0 : Nat) (a1 : Option Addr) (n1 c1 : Nat) (a2 : Option Addr) (n2 c2 m : Nat) (_hS : ∀ g, w.heap.size ≤ g → S g) (hp : PT k S w [.int .i64 kd, .int .i64 n, .string x, .string y, .slice a0 n0 c0, .slice a1 n1 c1, .slice a2 n2 c2] m) (hk : kd = 1 ∨ kd = 2) :
    Calls Tryz.prog 36 #[.pointer (some ⟨wb, 0, none⟩), .agg #[.int .i64 kd, .int .i64 n, .string x, .string y, .slice a0 n0 c0, .slice a1 n1 c1, .slice a2 n2 c2]] w fun e w' => ∃ cs', e = .returned (.agg cs'.toArray) ∧ Fr No w w' ∧ PT k S w' cs' m := by
  have d3 : (kd == 3) = false := by rcases hk with rfl | rfl <;> rfl
  have d4 : (kd == 4) = false := by rcases hk with rfl | rfl <;> rfl
  have d5 : (kd == 5) = false := by rcases hk with rfl | rfl <;> rfl
  have d6 : (kd == 6) = false := by rcases hk with rfl | rfl <;> rfl
  have d7 : (kd == 7) = false := by rcases hk with rfl | rfl <;> rfl
  have HP := hide hp
  clear hp hk
  go_enter Tryz.func36, Tryz.ntmps36
  go_wp2_with fail
  have s1 := heap_alloc_new (w.alloc (.cells #[.int .i64 kd, .int .i64 n, .string x, .string y, .slice a0 n0 c0, .slice a1 n1 c1, .slice a2 n2 c2] 32)) (.cells #[.int .i64 kd, .int .i64 n, .string x, .string y, .slice a0 n0 c0, .slice a1 n1 c1, .slice a2 n2 c2] 32)
  rw [World.size_alloc] at s1
  have hf : Fr No w ((w.alloc (.cells #[.int .i64 kd, .int .i64 n, .string x, .string y, .slice a0 n0 c0, .slice a1 n1 c1, .slice a2 n2 c2] 32)).alloc (.cells #[.int .i64 kd, .int .i64 n, .string x, .string y, .slice a0 n0 c0, .slice a1 n1 c1, .slice a2 n2 c2] 32)) := ((Fr.refl No w).alloc _).alloc _
  exact bodyPost_ret (retT rfl _ _ (w.heap.size + 1) _ _ _ _ _ _ _ (0, 0) rfl s1) rfl ⟨_, rfl, hf, HP.out.kept (stays_of_fr hf)⟩
end Go.Proofs.YtomahbdidlglfacGreatDoor

/- The document's 'atoms', walked. -/
namespace Go.Proofs.YtomahbdidlglfacGreatDoor
open Go.RowKit Go.Maps Go.WideMaps

theorem infoBound : (Tryz.prog.info? 134).map (fun i => (i.zero, i.size, i.bytes)) = some (some (.agg #[.string ⟨#[]⟩, .int .i64 0, .int .i64 0, .string ⟨#[]⟩, .string ⟨#[]⟩, .slice none 0 0, .slice none 0 0, .slice none 0 0]), 8, 136) := by kernel_rfl
theorem one8 {kd n : Int} {s x y : ByteArray} {a0 a1 a2 : Option Addr} {n0 c0 n1 c1 n2 c2 : Nat} : ∀ u ∈ [Value.string s, .int .i64 kd, .int .i64 n, .string x, .string y, .slice a0 n0 c0, .slice a1 n1 c1, .slice a2 n2 c2], u.oneCell' = true := by
  intro u hu
  simp only [List.mem_cons, List.not_mem_nil, or_false] at hu
  rcases hu with rfl | rfl | rfl | rfl | rfl | rfl | rfl | rfl <;> rfl
theorem rb_keptE (k : Nat) : ∀ (w w' : World) (S S' : Nat → Prop) (c : List Value) (a : Nat), Stays S S' w w' → RB (PT k S w) c a → RB (PT k S' w') c a := fun _ _ _ _ _ _ hs h => h.mono fun _ _ h => h.kept hs
/-- A name alone. -/
theorem var_pt {k : Nat} {S : Nat → Prop} {w : World} {x : ByteArray} (hx : x.size ≤ maxLen) : PT (k + 1) S w [.int .i64 1, .int .i64 0, .string x, .string ⟨#[]⟩, .slice none 0 0, .slice none 0 0, .slice none 0 0] 1 :=
  leaf_pt (l := []) ⟨by omega, by omega, by omega⟩ hx (by decide) ⟨⟨none, 0, rfl, Nat.le_refl _, Nat.zero_le _, fun h => absurd h (by simp)⟩, fun _ h => (by cases h)⟩
/-- What is there between two arguments. -/
structure AT (k wb : Nat) (S : Nat → Prop) (w : World) (l : List Nat) (i : Nat) (va : Option Addr) (vc : Nat) (ba : Option Addr) (j bc : Nat) (K' : Nat) (W : World) : Prop where
  fr : Fr (· = wb) w W
  nbx : W.heap[wb]? = some (.cells #[.int .i64 (K' : Int)] 71 (0, 0))
  vs : ∃ xs ws, W.ownsRow w.heap.size 32 7 (.slice va i vc) i xs ∧ Each 7 (PT (k + 1) (SXo (SXo S (.slice ba j bc)) (.slice va i vc)) W) xs ws ∧ ws.length = i ∧ ∃ kb xb bs, W.ownsRow w.heap.size 134 8 (.slice ba j bc) j xb ∧ Each 8 (RB (PT kb (SXo (SXo S (.slice va i vc)) (.slice ba j bc)) W)) xb bs ∧ bs.length = j ∧ j ≤ i ∧ ws.sum + (bs.map (1 + ·)).sum ≤ 4 * (l.take i).sum
theorem sxo_swap {S : Nat → Prop} {a b : Value} : ∀ g, SXo (SXo S a) b g → SXo (SXo S b) a g := fun _ h => ⟨⟨h.1.1, h.2⟩, h.1.2⟩
/-- The counter's box is another; what is new is new. -/
theorem AT.call {k wb : Nat} {S : Nat → Prop} {w : World} {l : List Nat} {i : Nat} {va : Option Addr} {vc : Nat} {ba : Option Addr} {j bc K' K2 : Nat} {W W' : World} (h : AT k wb S w l i va vc ba j bc K' W) (hf : Fr (· = wb) W W') (hb : W'.heap[wb]? = some (.cells #[.int .i64 (K2 : Int)] 71 (0, 0))) (hnb : wb < w.heap.size) (hS : ∀ g, S g → g ≠ wb) : AT k wb S w l i va vc ba j bc K2 W' := by
  obtain ⟨xs, ws, h1, h2, h3, kb, xb, bs, g1, g2, g3, g4, g5⟩ := h.vs
  exact ⟨h.fr.trans hf, hb, xs, ws, own_keptF h1 hf (fun a ha e => by omega), h2.mono fun c a hp => hp.kept (stays_fr hf (fun g hg _ e => hS g hg.1.1 e) (fun _ h => h)), h3, kb, xb, bs, own_keptF g1 hf (fun a ha e => by omega), g2.mono fun c a hp => rb_keptE kb _ _ _ _ _ _ (stays_fr hf (fun g hg _ e => hS g hg.1.1 e) (fun _ h => h)) hp, g3, g4, g5⟩
/-- One name more. -/
theorem AT.var {k wb : Nat} {S : Nat → Prop} {w : World} {l : List Nat} {i : Nat} {va : Option Addr} {vc : Nat} {ba : Option Addr} {j bc K' : Nat} {W : World} (h : AT k wb S w l i va vc ba j bc K' W) (hw : w.heap.size ≤ W.heap.size) (hnb : wb < w.heap.size) {vals : List Value} {m d : Nat} (hv : vals.length = 7) (h1 : ∀ u ∈ vals, u.oneCell' = true) (hn : PT (k + 1) (SXo (SXo S (.slice ba j bc)) (.slice va i vc)) W vals m) (hm : m ≤ 4 * d) (hl : (l.take (i + 1)).sum = (l.take i).sum + d) (hi : i + 1 ≤ 2147483648) :
    ∃ v' w', (Builtin.append_ #[29, 29] 29 #[.slice va i vc, .slice (some ⟨W.heap.size, 0, none⟩) 1 1]).run Tryz.prog (W.alloc (.cells vals.toArray 32)) = .ok v' w' ∧ ∃ a' c', v' = .slice a' (i + 1) c' ∧ AT k wb S w l (i + 1) a' c' ba j bc K' w' := by
  obtain ⟨xs, ws, r1, r2, r3, kb, xb, bs, b1, b2, b3, b4, b5⟩ := h.vs
  obtain ⟨v', w', g1, a', c', rfl, g2, g3, g4, st⟩ := app_el Tryz.ul29P Tryz.info32 rfl (by decide) (by decide) (pt_keptE (k + 1)) r1 r2 hn hv h1 hi hw
  have fr2 : Fr (· = wb) w w' := h.fr.trans' g4 (fun q hq e => by have := (r1.lt q e).1; omega)
  have hb' : w'.ownsRow w.heap.size 134 8 (.slice ba j bc) j xb := by
    refine ⟨b1.1, ?_⟩
    rcases b1.2 with b | ⟨g, cap, cur, q1, q2, q3, q4⟩
    · exact .inl b
    · refine .inr ⟨g, cap, cur, q1, q2, fr_heap q3 g4 (fun e => ?_), q4⟩
      rcases r1.2 with ⟨e1, _⟩ | ⟨g', cap', cur', e1, _, e2, _⟩
      · rw [e1] at e; simp [Value.ownBlock] at e
      · rw [e1] at e
        simp only [Value.ownBlock, Option.some.injEq] at e
        subst e
        rw [e2] at q3
        simp at q3
  exact ⟨_, w', g1, a', c', rfl, fr2, fr_heap h.nbx g4 (fun e => by have := (r1.lt _ e).1; omega), xs ++ vals, ws ++ [m], g2, g3, by rw [List.length_append, r3]; rfl, kb, xb, bs, hb', b2.mono fun c a hp => hp.mono fun _ _ hp => hp.kept ⟨st.1, fun g hg hgl => ⟨sxo_swap g (st.2 g (sxo_swap g hg) hgl).1, (st.2 g (sxo_swap g hg) hgl).2⟩⟩, b3, by omega, by rw [List.sum_append, hl]; simp; omega⟩
theorem rb_up {k k' : Nat} {S : Nat → Prop} {w : World} {c : List Value} {a : Nat} (h : RB (PT k S w) c a) (hk : k ≤ k') : RB (PT k' S w) c a := h.mono fun _ _ h => h.upTo hk
/-- One bound more: a fresh name for what is no name, and what it is. -/
theorem AT.bnd {k wb : Nat} {S : Nat → Prop} {w : World} {l : List Nat} {i : Nat} {va : Option Addr} {vc : Nat} {ba : Option Addr} {j bc K' : Nat} {W : World} (h : AT k wb S w l i va vc ba j bc K' W) (hw : w.heap.size ≤ W.heap.size) {vals : List Value} {m d kn : Nat} (hv : vals.length = 8) (h1 : ∀ u ∈ vals, u.oneCell' = true) (hn : RB (PT kn (SXo (SXo S (.slice va i vc)) (.slice ba j bc)) W) vals m) (hm : m + 2 ≤ 4 * d) (hl : (l.take (i + 1)).sum = (l.take i).sum + d) (hi : i + 1 ≤ 2147483648) :
    ∃ v' w', (Builtin.append_ #[101, 101] 101 #[.slice ba j bc, .slice (some ⟨W.heap.size, 0, none⟩) 1 1]).run Tryz.prog (W.alloc (.cells vals.toArray 134)) = .ok v' w' ∧ ∃ a' c', v' = .slice a' (j + 1) c' ∧ Fr (· = wb) w w' ∧ w'.heap[wb]? = some (.cells #[.int .i64 (K' : Int)] 71 (0, 0)) ∧ W.heap.size ≤ w'.heap.size ∧
      ∃ xs ws, w'.ownsRow w.heap.size 32 7 (.slice va i vc) i xs ∧ Each 7 (PT (k + 1) (SXo (SXo S (.slice a' (j + 1) c')) (.slice va i vc)) w') xs ws ∧ ws.length = i ∧ ∃ kb xb bs, w'.ownsRow w.heap.size 134 8 (.slice a' (j + 1) c') (j + 1) xb ∧ Each 8 (RB (PT kb (SXo (SXo S (.slice va i vc)) (.slice a' (j + 1) c')) w')) xb bs ∧ bs.length = j + 1 ∧ j + 1 ≤ i + 1 ∧ ws.sum + (bs.map (1 + ·)).sum + 1 ≤ 4 * (l.take (i + 1)).sum := by
  obtain ⟨xs, ws, r1, r2, r3, kb, xb, bs, b1, b2, b3, b4, b5⟩ := h.vs
  obtain ⟨v', w', g1, a', c', rfl, g2, g3, g4, st⟩ := app_el Tryz.ul101P infoBound rfl (by decide) (by decide) (rb_keptE (kb + kn)) b1 (b2.mono fun c a h => rb_up h (Nat.le_add_right _ _)) (rb_up hn (Nat.le_add_left _ _)) hv h1 (by omega) hw
  have fr2 : Fr (· = wb) w w' := h.fr.trans' g4 (fun q hq e => by have := (b1.lt q e).1; omega)
  have hwb : wb < w.heap.size ∨ w.heap.size ≤ wb := Nat.lt_or_ge _ _
  have hr' : w'.ownsRow w.heap.size 32 7 (.slice va i vc) i xs := by
    refine ⟨r1.1, ?_⟩
    rcases r1.2 with b | ⟨g, cap, cur, q1, q2, q3, q4⟩
    · exact .inl b
    · refine .inr ⟨g, cap, cur, q1, q2, fr_heap q3 g4 (fun e => ?_), q4⟩
      rcases b1.2 with ⟨e1, _⟩ | ⟨g', cap', cur', e1, _, e2, _⟩
      · rw [e1] at e; simp [Value.ownBlock] at e
      · rw [e1] at e
        simp only [Value.ownBlock, Option.some.injEq] at e
        subst e
        rw [e2] at q3
        simp at q3
  have hnb : w'.heap[wb]? = some (.cells #[.int .i64 (K' : Int)] 71 (0, 0)) := by
    refine fr_heap h.nbx g4 (fun e => ?_)
    rcases b1.2 with ⟨e1, _⟩ | ⟨g', cap', cur', e1, _, e2, _⟩
    · rw [e1] at e; simp [Value.ownBlock] at e
    · rw [e1] at e
      simp only [Value.ownBlock, Option.some.injEq] at e
      subst e
      have h' := h.nbx
      rw [e2] at h'
      simp at h'
  exact ⟨_, w', g1, a', c', rfl, fr2, hnb, g4.size, xs, ws, hr', r2.mono fun c a hp => hp.kept ⟨st.1, fun g hg hgl => ⟨sxo_swap g (st.2 g (sxo_swap g hg) hgl).1, (st.2 g (sxo_swap g hg) hgl).2⟩⟩, r3, kb + kn, xb ++ vals, bs ++ [m], g2, g3, by rw [List.length_append, b3]; rfl, by omega, by rw [List.map_append, List.sum_append, hl]; simp; omega⟩
/-- The fresh name behind its bound. -/
theorem at_var2 {k wb : Nat} {S : Nat → Prop} {w : World} {l : List Nat} {i : Nat} {va : Option Addr} {vc : Nat} {ba : Option Addr} {j bc K' : Nat} {W : World} (hfr : Fr (· = wb) w W) (hnbx : W.heap[wb]? = some (.cells #[.int .i64 (K' : Int)] 71 (0, 0))) (hvs : ∃ xs ws, W.ownsRow w.heap.size 32 7 (.slice va i vc) i xs ∧ Each 7 (PT (k + 1) (SXo (SXo S (.slice ba j bc)) (.slice va i vc)) W) xs ws ∧ ws.length = i ∧ ∃ kb xb bs, W.ownsRow w.heap.size 134 8 (.slice ba j bc) j xb ∧ Each 8 (RB (PT kb (SXo (SXo S (.slice va i vc)) (.slice ba j bc)) W)) xb bs ∧ bs.length = j ∧ j ≤ i + 1 ∧ ws.sum + (bs.map (1 + ·)).sum + 1 ≤ 4 * (l.take (i + 1)).sum) (hw : w.heap.size ≤ W.heap.size) (hnb : wb < w.heap.size) {vals : List Value} {m : Nat} (hv : vals.length = 7) (h1 : ∀ u ∈ vals, u.oneCell' = true) (hn : PT (k + 1) (SXo (SXo S (.slice ba j bc)) (.slice va i vc)) W vals m) (hm : m ≤ 1) (hi : i + 1 ≤ 2147483648) :
    ∃ v' w', (Builtin.append_ #[29, 29] 29 #[.slice va i vc, .slice (some ⟨W.heap.size, 0, none⟩) 1 1]).run Tryz.prog (W.alloc (.cells vals.toArray 32)) = .ok v' w' ∧ ∃ a' c', v' = .slice a' (i + 1) c' ∧ AT k wb S w l (i + 1) a' c' ba j bc K' w' := by
  obtain ⟨xs, ws, r1, r2, r3, kb, xb, bs, b1, b2, b3, b4, b5⟩ := hvs
  obtain ⟨v', w', g1, a', c', rfl, g2, g3, g4, st⟩ := app_el Tryz.ul29P Tryz.info32 rfl (by decide) (by decide) (pt_keptE (k + 1)) r1 r2 hn hv h1 hi hw
  have fr2 : Fr (· = wb) w w' := hfr.trans' g4 (fun q hq e => by have := (r1.lt q e).1; omega)
  have hb' : w'.ownsRow w.heap.size 134 8 (.slice ba j bc) j xb := by
    refine ⟨b1.1, ?_⟩
    rcases b1.2 with b | ⟨g, cap, cur, q1, q2, q3, q4⟩
    · exact .inl b
    · refine .inr ⟨g, cap, cur, q1, q2, fr_heap q3 g4 (fun e => ?_), q4⟩
      rcases r1.2 with ⟨e1, _⟩ | ⟨g', cap', cur', e1, _, e2, _⟩
      · rw [e1] at e; simp [Value.ownBlock] at e
      · rw [e1] at e
        simp only [Value.ownBlock, Option.some.injEq] at e
        subst e
        rw [e2] at q3
        simp at q3
  exact ⟨_, w', g1, a', c', rfl, fr2, fr_heap hnbx g4 (fun e => by have := (r1.lt _ e).1; omega), xs ++ vals, ws ++ [m], g2, g3, by rw [List.length_append, r3]; rfl, kb, xb, bs, hb', b2.mono fun c a hp => hp.mono fun _ _ hp => hp.kept ⟨st.1, fun g hg hgl => ⟨sxo_swap g (st.2 g (sxo_swap g hg) hgl).1, (st.2 g (sxo_swap g hg) hgl).2⟩⟩, b3, by omega, by rw [List.sum_append]; simp; omega⟩
end Go.Proofs.YtomahbdidlglfacGreatDoor

/- The document's 'atoms', walked. -/
namespace Go.Proofs.YtomahbdidlglfacGreatDoor
open Go.RowKit Go.Maps Go.WideMaps

theorem each_len {k : Nat} {S : Nat → Prop} {w : World} : ∀ {l : List Nat} {xs : List Value}, Each 7 (PT k S w) xs l → l.length ≤ l.sum
  | [], _, _ => Nat.le_refl _
  | a :: l, _, ⟨_, _, _, _, h3, h4⟩ => by
    have h1 := h3.pos
    have h2 := each_len h4
    rw [List.length_cons, List.sum_cons]
    omega

set_option maxRecDepth 100000 in
set_option maxHeartbeats 8000000 in
theorem atoms_any (k : Nat) (ih : WTerm k) (wb K : Nat) (S : Nat → Prop) (w : World) (lv : Value) (lcs : List Value) (l : List Nat) (hS : ∀ g, w.heap.size ≤ g → S g) (hSn : ¬ S wb) (hn : w.heap[wb]? = some (.cells #[.int .i64 (K : Int)] 71 (0, 0))) (h3 : 3 ≤ wb) (henv : Env w) (hr : RowP S w lv l.length lcs) (he : Each 7 (PT k S w) lcs l) (hK : K + l.sum + 1 ≤ 1073741824) :
    Calls Tryz.prog 65 #[.pointer (some ⟨wb, 0, none⟩), lv] w fun e w' => ∃ va vc ba j bc, e = .returned (.tuple #[.slice va l.length vc, .slice ba j bc]) ∧ ∃ K', K' ≤ K + l.sum ∧ AT k wb S w l l.length va vc ba j bc K' w' := by
  obtain ⟨la, lc, rfl, hlc1, hlc2⟩ := hr.form
  unfold maxLen at hlc2
  have hnw := lt_of_heap hn
  have hlen := each_len he
  have HEL : Hid (∀ W, Fr (· = wb) w W → ∀ i (h : i < l.length), ∃ g o cap kd n x y a0 n0 c0 a1 n1 c1 a2 n2 c2, Value.slice la l.length lc = .slice (some ⟨g, o, none⟩) l.length cap ∧ g < W.heap.size ∧ (∀ S', (∀ g, S g → g < w.heap.size → S' g) → PT k S' W [.int .i64 kd, .int .i64 n, .string x, .string y, .slice a0 n0 c0, .slice a1 n1 c1, .slice a2 n2 c2] l[i]) ∧ ∀ q, q < 7 → W.cell? ⟨g, o + i * 7 + q, none⟩ = [Value.int .i64 kd, .int .i64 n, .string x, .string y, .slice a0 n0 c0, .slice a1 n1 c1, .slice a2 n2 c2][q]?) := fun W hW i hi => by
    obtain ⟨g, o, cap, ck, hv, _, hSg, hgl, _, hck, hcell⟩ := hr.el he i hi
    obtain ⟨kd, n, x, y, a0, n0, c0, a1, n1, c1, a2, n2, c2, rfl⟩ := hck.form
    have hb := hW.block g hgl (fun e => hSn (by have e : g = wb := e; rw [← e]; exact hSg))
    exact ⟨g, o, cap, kd, n, x, y, a0, n0, c0, a1, n1, c1, a2, n2, c2, hv, Nat.lt_of_lt_of_le hgl hW.size, fun S' hS' => hck.kept ⟨hW.size, fun q hq hl => ⟨hS' q hq hl, hW.block q hl (fun e => hSn (by have e : q = wb := e; rw [← e]; exact hq))⟩⟩, fun q hq => by rw [show W.cell? ⟨g, o + i * 7 + q, none⟩ = w.cell? ⟨g, o + i * 7 + q, none⟩ from by simp only [World.cell?, hb]]; exact hcell q hq⟩
  have HSW : Hid (∀ g, S g → g ≠ wb) := fun g hg e => hSn (e ▸ hg)
  have HTK : Hid (∀ i (h : i < l.length), (l.take (i + 1)).sum = (l.take i).sum + l[i] ∧ (l.take (i + 1)).sum ≤ l.sum ∧ 1 ≤ l[i]) := fun i hi => by
    have h1 : (l.take (i + 1)).sum = (l.take i).sum + l[i] := by rw [List.take_succ_eq_append_getElem hi, List.sum_append]; simp
    have h2 : l.sum = (l.take (i + 1)).sum + (l.drop (i + 1)).sum := by rw [← List.sum_append, List.take_append_drop]
    obtain ⟨_, _, _, ck, _, _, _, _, _, hck, _⟩ := hr.el he i hi
    exact ⟨h1, by omega, hck.pos⟩
  have A0 : Hid (AT k wb S w l 0 none 0 none 0 0 K w) := ⟨Fr.refl _ _, hn, [], [], World.ownsRow_nil _ _ _ _, rfl, rfl, 0, [], [], World.ownsRow_nil _ _ _ _, rfl, rfl, Nat.le_refl _, by simp⟩
  have HENV := hide henv
  have HS := hide hS
  have HIH := hide ih
  clear hr he hSn hn henv hS ih
  go_enter Tryz.func65, Tryz.ntmps65
  go_wp2_with fail
  go_loopw [6, 7, 13] (fun r p q wr => ∃ (i : Nat) (va : Option Addr) (vc : Nat) (ba : Option Addr) (j bc K' : Nat), i ≤ l.length ∧ r = .slice va i vc ∧ p = .slice ba j bc ∧ q = .int .i64 i ∧ K' ≤ K + (l.take i).sum ∧ AT k wb S w l i va vc ba j bc K' wr) (fun _ _ q _ => l.length - (intOf q).toNat)
  case atStart => exact ⟨0, none, 0, none, 0, 0, K, Nat.zero_le _, rfl, rfl, rfl, by simp, A0.out⟩
  case round =>
    obtain ⟨i, va, vc, ba, j, bc, K', hi, rfl, rfl, rfl, hcnt, hat⟩ := hrel
    have HAT := hide hat
    have hwr := hat.fr.size
    by_cases hlt : i < l.length
    · obtain ⟨g, o, cap, kd, n, x, y, a0, n0, c0, a1, n1, c1, a2, n2, c2, hv, hgl, hpt, hcell⟩ := HEL.out wr hat.fr i hlt
      injection hv with hv1 _ hv2
      subst hv1 hv2
      have q0 : wr.cell? ⟨g, o + i * 7, none⟩ = some (.int .i64 kd) := hcell 0 (by omega)
      have q1 := hcell 1 (by omega)
      have q2 := hcell 2 (by omega)
      have q3 := hcell 3 (by omega)
      have q4 := hcell 4 (by omega)
      have q5 := hcell 5 (by omega)
      have q6 := hcell 6 (by omega)
      have htk := HTK.out i hlt
      have i1 : (i : Int) < (l.length : Int) := by omega
      have i0 : (0 : Int) ≤ (i : Int) := by omega
      have f1 : Fr No wr (wr.alloc (.cells #[.int .i64 kd, .int .i64 n, .string x, .string y, .slice a0 n0 c0, .slice a1 n1 c1, .slice a2 n2 c2] 32)) := (Fr.refl No wr).alloc _
      have hat1 := hat.call (f1.mono (fun _ _ e => e.elim)) (fr_heap hat.nbx f1 (fun e => e)) hnw HSW.out
      have hSX : ∀ g, S g → g < w.heap.size → SXo (SXo S (.slice ba j bc)) (.slice va i vc) g := fun g hg hl => by
        obtain ⟨xs, ws, r1, _, _, kb, xb, bs, b1, _⟩ := hat.vs
        exact ⟨⟨hg, fun e => by have := (b1.lt g e).1; omega⟩, fun e => by have := (r1.lt g e).1; omega⟩
      have RA : Hid (∃ v' w', (Builtin.append_ #[29, 29] 29 #[.slice va i vc, .slice (some ⟨wr.heap.size + 1, 0, none⟩) 1 1]).run Tryz.prog ((wr.alloc (.cells #[.int .i64 kd, .int .i64 n, .string x, .string y, .slice a0 n0 c0, .slice a1 n1 c1, .slice a2 n2 c2] 32)).alloc (.cells #[.int .i64 kd, .int .i64 n, .string x, .string y, .slice a0 n0 c0, .slice a1 n1 c1, .slice a2 n2 c2] 32)) = .ok v' w' ∧ ∃ a' c', v' = .slice a' (i + 1) c' ∧ AT k wb S w l (i + 1) a' c' ba j bc K' w') := by
        have h := hat1.var (by have := f1.size; omega) hnw (vals := [.int .i64 kd, .int .i64 n, .string x, .string y, .slice a0 n0 c0, .slice a1 n1 c1, .slice a2 n2 c2]) (m := l[i]) (d := l[i]) rfl one7 (((hpt _ hSX).kept (stays_of_fr f1)).up) (by omega) htk.1 (by omega)
        rw [World.size_alloc] at h
        exact h
      have HTK1 := hide (And.intro htk hcnt)
      have HPT := hide hpt
      have HSX : Hid (∀ g, S g → g < w.heap.size → SXo (SXo S (.slice va i vc)) (.slice ba j bc) g) := fun g hg hl => sxo_swap g (hSX g hg hl)
      clear hat hat1 hcell htk hcnt f1 hpt hSX
      by_cases hk1 : kd = 1
      · have hk1' : (kd == 1) = true := by simpa using hk1
        have HK1 := hide hk1
        clear hk1
        go_wp2_with (first
          | (at_builtin; refine list_app (.tmp 20) (.tmp 22) 29 rfl rfl rfl rfl rfl RA.out ?_; rintro v3 w3 ⟨a3, c3, rfl, hat3⟩; have A3 := hide hat3; clear hat3 RA)
          | fail)
        go_wp2_with fail
        go_roundw
        case rel => exact ⟨i + 1, a3, c3, ba, j, bc, K', by omega, rfl, rfl, by go_num, by have h1 := HTK1.out.1.1; have h2 := HTK1.out.2; omega, A3.out⟩
        case measure => simp [intOf]; omega
      · have hk1' : (kd == 1) = false := by simpa using hk1
        clear hk1 RA
        obtain ⟨W5, hW5⟩ : ∃ W5, W5 = (wr.setCell ⟨wb, 0, none⟩ (.int .i64 ((K' : Int) + 1))).alloc (.cells #[.int .i64 kd, .int .i64 n, .string x, .string y, .slice a0 n0 c0, .slice a1 n1 c1, .slice a2 n2 c2] 32) := ⟨_, rfl⟩
        have f5 : Fr (· = wb) wr W5 := by rw [hW5]; exact ((Fr.refl (· = wb) wr).setCell (p := ⟨wb, 0, none⟩) (.inl rfl) _).alloc _
        have hnb := HAT.out.nbx
        have n5 : W5.heap[wb]? = some (.cells #[.int .i64 ((K' + 1 : Nat) : Int)] 71 (0, 0)) := by
          have h : (wr.setCell ⟨wb, 0, none⟩ (.int .i64 ((K' : Int) + 1))).heap[wb]? = some (.cells #[.int .i64 ((K' : Int) + 1)] 71 (0, 0)) := by simp [World.setCell, Array.getElem?_modify, hnb]
          rw [hW5]
          exact fr_heap h ((Fr.refl No _).alloc _) (fun e => e)
        have b5 : W5.heap[wr.heap.size]? = some (.cells #[.int .i64 kd, .int .i64 n, .string x, .string y, .slice a0 n0 c0, .slice a1 n1 c1, .slice a2 n2 c2] 32 (0, 0)) := by
          have h := heap_alloc_new (wr.setCell ⟨wb, 0, none⟩ (.int .i64 ((K' : Int) + 1))) (.cells #[.int .i64 kd, .int .i64 n, .string x, .string y, .slice a0 n0 c0, .slice a1 n1 c1, .slice a2 n2 c2] 32)
          rw [show (wr.setCell ⟨wb, 0, none⟩ (.int .i64 ((K' : Int) + 1))).heap.size = wr.heap.size from by simp [World.setCell]] at h
          rw [hW5]; exact h
        have hbig : K' + 1 + l[i] ≤ 1073741824 := by have h1 := HTK1.out.1; have h2 := HTK1.out.2; omega
        have CI : Hid (Calls Tryz.prog 62 #[.int .i64 ((K' : Int) + 1)] W5 fun e w' => e = .returned (.string ⟨(Lib.itoa ((K' : Int) + 1)).toArray⟩) ∧ Fr No W5 w') :=
          itoa_any _ W5 (by omega) (by omega) (HENV.out.fr (HAT.out.fr.trans f5) (by omega) (fun q hq e => by have e : q = wb := e; omega))
        have HS1 := hide (itoa_size ((K' : Int) + 1) (by omega) (by omega))
        have hcc1 : ¬ 9223372036854775807 < (⟨#[119]⟩ : ByteArray).size + (⟨(Lib.itoa ((K' : Int) + 1)).toArray⟩ : ByteArray).size := by have := HS1.out; show ¬ _ < 1 + _; omega
        have HW5 := hide hW5
        have kb0 := cell_of_heap hnb
        have kz0 := frozen_of_heap hnb
        have kl0 := lt_of_heap hnb
        have hne : wr.heap.size ≠ wb := by omega
        have hk30 : (K' : Int) + 1 ≤ 1073741824 := by omega
        have hk00 : (0 : Int) ≤ (K' : Int) := by omega
        have X5 := hide (And.intro f5 (And.intro n5 b5))
        have HBIG := hide hbig
        clear hW5 f5 n5 b5 hnb hbig
        go_wp2_with fail
        rw [← HW5.out]
        refine CI.out.mono ?_
        rintro e w2 ⟨rfl, hf2⟩
        have fr2 : Fr (· = wb) wr w2 := X5.out.1.trans (hf2.mono fun _ _ e => e.elim)
        have hw2 : wr.heap.size ≤ w2.heap.size := fr2.size
        have hnb2 := fr_heap X5.out.2.1 hf2 (fun e => e)
        have hat2 := HAT.out.call fr2 hnb2 hnw HSW.out
        have cB2 := fr_heap X5.out.2.2 hf2 (fun e => e)
        have hlo : ∀ g, (SXo (SXo S (.slice va i vc)) (.slice ba j bc)) g ∨ ¬ w2.heap.size ≤ g := fun g => by
          rcases Nat.lt_or_ge g w2.heap.size with h | h
          · exact .inr (by omega)
          · obtain ⟨xs, ws, r1, _, _, kb, xb, bs, b1, _⟩ := hat2.vs
            exact .inl ⟨⟨HS.out g (by omega), fun e => by have := (r1.lt g e).2; omega⟩, fun e => by have := (b1.lt g e).2; omega⟩
        have CT : Hid (Calls Tryz.prog 36 #[.pointer (some ⟨wb, 0, none⟩), .agg #[.int .i64 kd, .int .i64 n, .string x, .string y, .slice a0 n0 c0, .slice a1 n1 c1, .slice a2 n2 c2]] w2 fun e w3 => ∃ kC nC xC yC r0 p0 d0 r1 p1 d1 r2 p2 d2, e = .returned (.agg #[.int .i64 kC, .int .i64 nC, .string xC, .string yC, .slice r0 p0 d0, .slice r1 p1 d1, .slice r2 p2 d2]) ∧ Fr (· = wb) w2 w3 ∧ (∃ K2 : Nat, w3.heap[wb]? = some (.cells #[.int .i64 (K2 : Int)] 71 (0, 0)) ∧ K2 + 1 ≤ K' + 1 + l[i]) ∧ ∃ k' m', PT k' (SXo (SXo S (.slice va i vc)) (.slice ba j bc)) w3 [.int .i64 kC, .int .i64 nC, .string xC, .string yC, .slice r0 p0 d0, .slice r1 p1 d1, .slice r2 p2 d2] m' ∧ m' + 2 ≤ 4 * l[i]) := by
          refine (HIH.out wb (K' + 1) (SXo (SXo S (.slice va i vc)) (.slice ba j bc)) w2 _ l[i] (fun g hg => (hlo g).resolve_right (fun h => h hg)) (fun h => HSW.out wb h.1.1 rfl) hnb2 h3 (HENV.out.fr hat2.fr (by omega) (fun q hq e => by have e : q = wb := e; omega)) ((HPT.out _ HSX.out).kept (stays_fr fr2 (fun g hg _ e => HSW.out g hg.1.1 e) (fun _ h => h))) HBIG.out).mono fun e w3 ⟨cs', he, hf, hk, k', m', hm1, hm2⟩ => ?_
          obtain ⟨kC, nC, xC, yC, r0, p0, d0, r1, p1, d1, r2, p2, d2, rfl⟩ := hm1.form
          exact ⟨kC, nC, xC, yC, r0, p0, d0, r1, p1, d1, r2, p2, d2, he, hf, hk, k', m', hm1, hm2⟩
        have kc2 := cell_of_heap cB2
        have lc2 := lt_of_heap cB2
        have HAT2 := hide hat2
        have HFR2 := hide fr2
        clear hat2 cB2 hlo fr2 hnb2 CI X5 HAT HPT
        go_wp2_with fail
        obtain ⟨s, hs⟩ : ∃ s : ByteArray, s = (⟨#[119]⟩ : ByteArray) ++ (⟨(Lib.itoa ((K' : Int) + 1)).toArray⟩ : ByteArray) := ⟨_, rfl⟩
        have hss : s.size ≤ maxLen := by
          have h1 := HS1.out
          rw [hs, ByteArray.size_append]
          have h2 : (⟨#[119]⟩ : ByteArray).size = 1 := rfl
          unfold maxLen
          omega
        rw [← hs]
        refine CT.out.mono ?_
        rintro e w3 ⟨kC, nC, xC, yC, r0, p0, d0, r1, p1, d1, r2, p2, d2, rfl, hf3, ⟨K2, hb3, hK2⟩, k', m', hm1, hm2⟩
        have hat3 := HAT2.out.call hf3 hb3 hnw HSW.out
        have hsz3 : w.heap.size ≤ w3.heap.size := hat3.fr.size
        have hi31 : i + 1 ≤ 2147483648 := by omega
        have bb := hat3.bnd hsz3 (vals := [.string s, .int .i64 kC, .int .i64 nC, .string xC, .string yC, .slice r0 p0 d0, .slice r1 p1 d1, .slice r2 p2 d2]) (m := m') (d := l[i]) (kn := k') rfl one8 ⟨s, _, rfl, hss, rfl, hm1⟩ hm2 HTK1.out.1.1 hi31
        have BB := hide bb
        have HSS := hide hss
        have HK2 := hide hK2
        have HS0 := hide hs
        clear bb hat3 hm1 hm2 hf3 hb3 CT HAT2 hss hK2 hs HFR2
        go_wp2_with (first
          | (at_builtin; refine list_app (.tmp 37) (.tmp 43) 101 rfl rfl rfl rfl rfl BB.out ?_; rintro v4 w4 ⟨a4, c4, rfl, fr4, nb4, sz4, hvs4⟩; have VV := hide (at_var2 (vals := [.int .i64 1, .int .i64 0, .string s, .string ⟨#[]⟩, .slice none 0 0, .slice none 0 0, .slice none 0 0]) fr4 nb4 hvs4 fr4.size hnw rfl one7 (var_pt HSS.out) (Nat.le_refl 1) hi31); clear BB fr4 nb4 hvs4 sz4)
          | (at_builtin; refine list_app (.tmp 45) (.tmp 48) 29 rfl rfl rfl rfl rfl VV.out ?_; rintro v5 w5 ⟨a5, c5, rfl, hat5⟩; have A5 := hide hat5; clear VV hat5)
          | fail)
        go_wp2_with fail
        go_roundw
        case rel => exact ⟨i + 1, a5, c5, a4, j + 1, c4, K2, by omega, rfl, rfl, by go_num, by have h1 := HTK1.out.1.1; have h2 := HTK1.out.2; have h3 := HK2.out; omega, A5.out⟩
        case measure => simp [intOf]; omega
    · have hil : i = l.length := by omega
      have HC := hide hcnt
      clear hat hcnt
      subst hil
      go_wp2_with fail
      refine bodyPost_ret (results_tmp2 rfl _ _ _) rfl ?_
      exact ⟨va, vc, ba, j, bc, rfl, K', by have h := HC.out; rw [List.take_length] at h; exact h, HAT.out⟩
end Go.Proofs.YtomahbdidlglfacGreatDoor
