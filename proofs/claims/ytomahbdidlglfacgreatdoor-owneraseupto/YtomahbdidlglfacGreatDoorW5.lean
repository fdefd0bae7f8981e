/- 'needs', walked: the whole. -/
import Derived.Test.YtomahbdidlglfacGreatDoorN1PcW3W4C2S1L2
namespace Go.Proofs.YtomahbdidlglfacGreatDoor
open Go.RowKit Go.Maps Go.WideMaps
set_option maxHeartbeats 1000000 in
theorem needs2_any (k : Nat) (hN : NeedsC k) (B A Td Nm ab tb K s s1 s2 : Nat) (w : World) (c : Pu.Cnt) (acc : List ByteArray) (v : Value) (c0 c1 : Value) (kd n : Int) (x y : ByteArray) (a0 a1 a2 : Option Addr) (n0 d0 n1 d1 n2 d2 : Nat) (t : Pu.TT k)
    (hb : w.heap[s]? = some (.cells #[c0, c1, .int .i64 kd, .int .i64 n, .string x, .string y, .slice a0 n0 d0, .slice a1 n1 d1, .slice a2 n2 d2] 58 (0, 0))) (hm : w.heap[s1]? = some (.cells #[.map (some A)] 153 (0, 0))) (hf : w.heap[s2]? = some (.cells #[Clo ab tb Nm] 91 (0, 0)))
    (hrt : RT k B w [.int .i64 kd, .int .i64 n, .string x, .string y, .slice a0 n0 d0, .slice a1 n1 d1, .slice a2 n2 d2] t) (hs : FS B A Td Nm ab tb K w c acc v) (hB : B ≤ w.heap.size)
    (hc : ∀ x, c x + Pu.wt k t ≤ 1099511627776) (hK : K + 3 * Pu.wt k t ≤ 1099511627776) (ha : acc.length + Pu.wt k t ≤ 1099511627776) :
    Calls Tryz.prog 140 #[.pointer (some ⟨s, 0, none⟩), .pointer (some ⟨s1, 0, none⟩), .pointer (some ⟨s2, 0, none⟩)] w fun e w' => e = .returned (.tuple #[]) ∧ ∃ v', FS B A Td Nm ab tb (K + 3 * Pu.wt k t) w' c (Pu.needs k c t acc) v' ∧ Moved A Td Nm w w' v v' := by
  have b0 := cell_of_heap hb
  have b1 : w.cell? ⟨s1, 0, none⟩ = some (.map (some A)) := by rw [cell_of_heap hm]; rfl
  have b2 : w.cell? ⟨s2, 0, none⟩ = some (Clo ab tb Nm) := by rw [cell_of_heap hf]; rfl
  have AS := hide (hN B A Td Nm ab tb K w c acc v _ _ hrt hs hB hc hK ha)
  clear hb hm hf hrt hs hc hN
  go_enter Tryz.func140, Tryz.ntmps140
  go_wp2_with fail
  refine AS.out.mono ?_
  rintro e w1 ⟨rfl, hv1⟩
  go_wp2_with fail
  go_end0
  exact ⟨rfl, hv1⟩
theorem Fr.setNo {w W : World} {p : Addr} {u : Value} (hp : w.heap.size ≤ p.block) (h : Fr No w W) : Fr No w (W.setCell p u) := h.setCell (.inr hp) u
theorem sum_two {α : Type} (f : α → Nat) (l : List α) (h : l.length = 2) : (l.map f).sum = f (l[0]'(by omega)) + f (l[1]'(by omega)) := by
  match l, h with
  | [a, b], _ => simp
theorem needsN_let {α : Type} (F : Pu.Cnt → α → List ByteArray → List ByteArray) (c : Pu.Cnt) (t : Pu.Node α) (acc : List ByteArray) (h6 : t.kind = 6) (h2 : t.args.length = 2) :
    Pu.needsN F c t acc = F (Pu.with' c [t.name]) (t.args[1]'(by omega)) (F c (t.args[0]'(by omega)) (if Pu.asks t.kind = true then Pu.ask c t.name acc else acc)) := by
  obtain ⟨kind, n, name, token, vars, args, cases⟩ := t
  simp only at h6 h2
  subst h6
  match args, h2 with
  | [a, b], _ => rfl
theorem needsN_other {α : Type} (F : Pu.Cnt → α → List ByteArray → List ByteArray) (c : Pu.Cnt) (t : Pu.Node α) (acc : List ByteArray) (h1 : ¬ t.kind = 1) (h6 : ¬ (t.kind = 6 ∧ t.args.length = 2)) :
    Pu.needsN F c t acc = Pu.needsCases F c t.cases (Pu.needsArgs F c t.args (if Pu.asks t.kind = true then Pu.ask c t.name acc else acc)) := by
  unfold Pu.needsN
  simp only [h1, if_false]
  split
  · next e =>
    split
    · next hab => exact absurd ⟨e, by rw [hab]; rfl⟩ h6
    · rfl
  · rfl
theorem needs_length : ∀ (k : Nat) (c : Pu.Cnt) (t : Pu.TT k) (acc : List ByteArray), (Pu.needs k c t acc).length ≤ acc.length + Pu.wt k t
  | 0, _, t, _ => nomatch t
  | k + 1, c, t, acc => by
    have ih := needs_length k
    have ha : ∀ (c : Pu.Cnt) (l : List (Pu.TT k)) (acc : List ByteArray), (Pu.needsArgs (Pu.needs k) c l acc).length ≤ acc.length + (l.map (Pu.wt k)).sum := by
      intro c l
      induction l with
      | nil => intro acc; simp [Pu.needsArgs]
      | cons a l ihl =>
        intro acc
        have h1 := ihl (Pu.needs k c a acc)
        have h2 := ih c a acc
        simp only [Pu.needsArgs, List.map_cons, List.sum_cons]
        omega
    have hcs : ∀ (l : List (Int × List ByteArray × Pu.TT k)) (acc : List ByteArray), (Pu.needsCases (Pu.needs k) c l acc).length ≤ acc.length + (l.map fun c => 1 + c.2.1.length + Pu.wt k c.2.2).sum := by
      intro l
      induction l with
      | nil => intro acc; simp [Pu.needsCases]
      | cons a l ihl =>
        intro acc
        have h1 := ihl (Pu.needs k (Pu.with' c a.2.1) a.2.2 acc)
        have h2 := ih (Pu.with' c a.2.1) a.2.2 acc
        simp only [Pu.needsCases, List.map_cons, List.sum_cons]
        omega
    have h1 : ∀ acc1 : List ByteArray, (Pu.needsCases (Pu.needs k) c t.cases (Pu.needsArgs (Pu.needs k) c t.args acc1)).length ≤ acc1.length + (t.args.map (Pu.wt k)).sum + (t.cases.map fun c => 1 + c.2.1.length + Pu.wt k c.2.2).sum := by
      intro acc1
      have := hcs t.cases (Pu.needsArgs (Pu.needs k) c t.args acc1)
      have := ha c t.args acc1
      omega
    have hw : Pu.wt (k + 1) t = 1 + t.vars.length + (t.args.map (Pu.wt k)).sum + (t.cases.map fun c => 1 + c.2.1.length + Pu.wt k c.2.2).sum := rfl
    have hacc : (if Pu.asks t.kind = true then Pu.ask c t.name acc else acc).length ≤ acc.length + 1 := by
      split
      · exact ask_length _ _ _
      · omega
    rw [hw]
    show (Pu.needsN (Pu.needs k) c t acc).length ≤ _
    unfold Pu.needsN
    simp only
    split
    · omega
    · split
      · split
        · next a b hab =>
          have e1 := ih (Pu.with' c [t.name]) b (Pu.needs k c a (if Pu.asks t.kind = true then Pu.ask c t.name acc else acc))
          have e2 := ih c a (if Pu.asks t.kind = true then Pu.ask c t.name acc else acc)
          have e3 : (t.args.map (Pu.wt k)).sum = Pu.wt k a + Pu.wt k b := by rw [hab]; simp
          omega
        · have := h1 (if Pu.asks t.kind = true then Pu.ask c t.name acc else acc); omega
      · have := h1 (if Pu.asks t.kind = true then Pu.ask c t.name acc else acc); omega
theorem with_le (c : Pu.Cnt) (l : List ByteArray) (x : ByteArray) : Pu.with' c l x ≤ c x + l.length := by
  unfold Pu.with'
  have := List.countP_le_length (p := fun y => decide (y = x)) (l := l)
  omega
/-- 'with' around a closure of 'needs', whatever it is: what it does to the state. -/
theorem with_needs (f : FuncId) (cap : Array Value) (eg : ∀ args w, (callFunc f args).run Tryz.prog w = .ok (.enter f args) w) (B Bn A Td Nm ab tb K D : Nat) (w : World) (c : Pu.Cnt) (acc acc' : List ByteArray) (v lv : Value) (l : List ByteArray) (hl : Names Bn w lv l)
    (hA : ∀ w w', Names Bn w lv l → Fr (· = A) w w' → Names Bn w' lv l) (hnk : ∀ w2 v', Moved A Td Nm w w2 v v' → Names Bn w2 lv l) (hs : FS B A Td Nm ab tb K w c acc v)
    (hc : ∀ x, c x + l.length ≤ 1099511627776) (hK : K + 2 * l.length + D ≤ 1099511627776)
    (hdo : ∀ w1, Fr (· = A) w w1 → FS B A Td Nm ab tb (K + l.length) w1 (Pu.with' c l) acc v → Calls Tryz.prog f cap w1 fun e w2 => e = .returned (.tuple #[]) ∧ ∃ v', FS B A Td Nm ab tb (K + l.length + D) w2 (Pu.with' c l) acc' v' ∧ Moved A Td Nm w1 w2 v v') :
    Calls Tryz.prog 138 #[.map (some A), lv, .func (.func f) #[] cap] w fun e w' => e = .returned (.tuple #[]) ∧ ∃ v', FS B A Td Nm ab tb (K + 2 * l.length + D) w' c acc' v' ∧ Moved A Td Nm w w' v v' := by
  have hfA : ∀ {w w' : World} {c c' : Pu.Cnt} {acc : List ByteArray} {v : Value} {K K' : Nat}, FS B A Td Nm ab tb K w c acc v → Fr (· = A) w w' → K ≤ K' → CntAt w' A K' c' → FS B A Td Nm ab tb K' w' c' acc v := by
    intro w w' c c' acc v K K' h hf hKK hcn
    exact ⟨hcn, (h.told.fr hf (fun e => h.ne e.symm)).mono hKK, fr_heap h.box hf (h.cnt.ne_cells h.box), row_fr h.row hf (fun g hg e => row_ne_map h.row h.cnt (by rw [hg, show g = A from e])), h.hA, h.hT, h.hN, h.ne, fr_heap h.bA hf (h.cnt.ne_cells h.bA), fr_heap h.bT hf (h.cnt.ne_cells h.bT), h.sh⟩
  refine (with_any f cap Bn A K (K + l.length + D) lv l c w (fun w2 => ∃ v', (∀ w3 c' K', Fr (· = A) w2 w3 → K + l.length + D ≤ K' → CntAt w3 A K' c' → FS B A Td Nm ab tb K' w3 c' acc' v') ∧ Moved A Td Nm w w2 v v') eg hl hA hs.cnt hc (by omega) (by omega) ?_ ?_).mono ?_
  · intro w1 hf1 hc1
    refine (hdo w1 hf1 (hfA hs hf1 (by omega) hc1)).mono ?_
    rintro e w2 ⟨he, v', h1, h2⟩
    have hm1 : Moved A Td Nm w w1 v v := ⟨hf1.mono (fun i _ e => .inl e), .inl rfl⟩
    have hm := hm1.trans h2
    exact ⟨he, h1.cnt, hnk _ _ hm, v', fun w3 c' K' hf hKK hcn => hfA h1 hf hKK hcn, hm⟩
  · rintro w2 w3 ⟨v', h1, h2⟩ hf
    exact ⟨v', fun w4 c' K' hf4 hKK hcn => h1 w4 c' K' (hf.trans hf4) hKK hcn, h2.1.trans' hf (fun i _ e => .inl e), h2.2⟩
  · rintro e w' ⟨he, hcn, v', h1, h2⟩
    exact ⟨he, v', (h1 w' c _ (Fr.refl _ _) (by omega) hcn).mono (by omega), h2⟩
theorem case_call (k : Nat) (hN : NeedsC k) (B A Td Nm ab tb K s s1 s2 : Nat) (w : World) (c : Pu.Cnt) (acc : List ByteArray) (v : Value) (c0 : Value) (ag : Option Addr) (an ac : Nat) (l : List ByteArray) (kd n : Int) (x y : ByteArray) (a0 a1 a2 : Option Addr) (n0 d0 n1 d1 n2 d2 : Nat) (t : Pu.TT k)
    (hb : w.heap[s]? = some (.cells #[c0, .slice ag an ac, .int .i64 kd, .int .i64 n, .string x, .string y, .slice a0 n0 d0, .slice a1 n1 d1, .slice a2 n2 d2] 58 (0, 0))) (hm : w.heap[s1]? = some (.cells #[.map (some A)] 153 (0, 0))) (hf : w.heap[s2]? = some (.cells #[Clo ab tb Nm] 91 (0, 0)))
    (hl : Names B w (.slice ag an ac) l) (hrt : RT k B w [.int .i64 kd, .int .i64 n, .string x, .string y, .slice a0 n0 d0, .slice a1 n1 d1, .slice a2 n2 d2] t) (hs : FS B A Td Nm ab tb K w c acc v) (hB : B ≤ w.heap.size)
    (hc : ∀ x, c x + (l.length + Pu.wt k t) ≤ 1099511627776) (hK : K + (2 * l.length + 3 * Pu.wt k t) ≤ 1099511627776) (ha : acc.length + Pu.wt k t ≤ 1099511627776) :
    Calls Tryz.prog 138 #[.map (some A), .slice ag an ac, .func (.func 140) #[] #[.pointer (some ⟨s, 0, none⟩), .pointer (some ⟨s1, 0, none⟩), .pointer (some ⟨s2, 0, none⟩)]] w fun e w' => e = .returned (.tuple #[]) ∧ ∃ v', FS B A Td Nm ab tb (K + (2 * l.length + 3 * Pu.wt k t)) w' c (Pu.needs k (Pu.with' c l) t acc) v' ∧ Moved A Td Nm w w' v v' := by
  refine (with_needs 140 _ (fun args w => Tryz.call140 args w) B B A Td Nm ab tb K (3 * Pu.wt k t) w c acc (Pu.needs k (Pu.with' c l) t acc) v _ l hl ?_ ?_ hs (fun x => by have := hc x; omega) (by omega) ?_).mono ?_
  · intro w w' h hfr
    have := hs.hA
    have hsz := hfr.size
    refine ⟨?_, h.2⟩
    obtain ⟨a, cap, h1, h2, h3, h4⟩ := h.1
    refine ⟨a, cap, h1, h2, h3, fun hn => ?_⟩
    obtain ⟨g, o, h5, h6, h7, h8⟩ := h4 hn
    exact ⟨g, o, h5, h6, by omega, fun i hi => by rw [(hfr.old (B := g + 1) (by omega) (fun i hi e => by have e : i = A := e; omega)).cell (a := ⟨g, o + i, none⟩) (by simp)]; exact h8 i hi⟩
  · intro w2 v' hmv
    exact hl.kept (hs.old hmv hB) (Nat.le_refl _) hmv.1.size
  · intro w1 hf1 hfs1
    have ho : Old B w w1 := hf1.old hB (fun i hi e => by have := hs.hA; have e : i = A := e; omega)
    exact needs2_any k hN B A Td Nm ab tb (K + l.length) s s1 s2 w1 (Pu.with' c l) acc v _ _ kd n x y a0 a1 a2 n0 d0 n1 d1 n2 d2 t (fr_heap hb hf1 (hs.cnt.ne_cells hb)) (fr_heap hm hf1 (hs.cnt.ne_cells hm)) (fr_heap hf hf1 (hs.cnt.ne_cells hf)) (hrt.old ho hf1.size) hfs1 (Nat.le_trans hB hf1.size)
      (fun y => by have := hc y; have := with_le c l y; omega) (by omega) ha
  · rintro e w' ⟨he, v', h1, h2⟩
    exact ⟨he, v', h1.mono (by omega), h2⟩
theorem let_call (k : Nat) (hN : NeedsC k) (B A Td Nm ab tb K s s1 s2 : Nat) (w : World) (c : Pu.Cnt) (acc : List ByteArray) (v : Value) (c0 c1 c2 c3 c4 c6 av : Value) (acs : List Value) (args : List (Pu.TT k)) (h2' : args.length = 2) (x : ByteArray) (hx : x.size ≤ maxLen)
    (hb : Bx A ab tb Nm s s1 s2 w #[c0, c1, c2, c3, c4, av, c6]) (hr : Row B w av args.length acs) (he : Each 7 (RT k B w) acs args) (hs : FS B A Td Nm ab tb K w c acc v) (hB : B ≤ w.heap.size)
    (hc : ∀ x, c x + (1 + Pu.wt k (args[1]'(by omega))) ≤ 1099511627776) (hK : K + (2 + 3 * Pu.wt k (args[1]'(by omega))) ≤ 1099511627776) (ha : acc.length + Pu.wt k (args[1]'(by omega)) ≤ 1099511627776) :
    Calls Tryz.prog 138 #[.map (some A), .slice (some ⟨w.heap.size, 0, none⟩) 1 1, .func (.func 139) #[] #[.pointer (some ⟨s, 0, none⟩), .pointer (some ⟨s1, 0, none⟩), .pointer (some ⟨s2, 0, none⟩)]] (w.alloc (.cells #[.string x] 9)) fun e w' => e = .returned (.tuple #[]) ∧ ∃ v', FS B A Td Nm ab tb (K + (2 + 3 * Pu.wt k (args[1]'(by omega)))) w' c (Pu.needs k (Pu.with' c [x]) (args[1]'(by omega)) acc) v' ∧ Moved A Td Nm w w' v v' := by
  have hf0 : Fr No w (w.alloc (.cells #[.string x] 9)) := (Fr.refl No w).alloc _
  have hs' := hs.no hf0
  have hb' := hb.no hf0
  have hnew : (w.alloc (.cells #[.string x] 9)).heap[w.heap.size]? = some (.cells #[.string x] 9 (0, 0)) := heap_alloc_new _ _
  have mk : ∀ w' : World, w'.heap[w.heap.size]? = some (.cells #[.string x] 9 (0, 0)) → Names (w.heap.size + 1) w' (.slice (some ⟨w.heap.size, 0, none⟩) 1 1) [x] := fun w' h =>
    ⟨⟨_, _, rfl, Nat.le_refl _, by unfold maxLen; decide, fun _ => ⟨_, _, rfl, Nat.lt_succ_self _, lt_of_heap h, fun i hi => by
      have : i = 0 := by simp at hi; omega
      subst this
      rw [cell_of_heap h]; rfl⟩⟩, fun y hy => by simp at hy; subst hy; exact hx⟩
  have nA : w.heap.size ≠ A := by have := hs.cnt.lt; omega
  have nTS : ¬ TS A Td Nm v w.heap.size := by
    rintro (e | e | e | e)
    · exact nA e
    · have := hs.told.lt; omega
    · have := lt_of_heap hs.box; omega
    · have := (hs.row.lt _ e).2; omega
  refine (with_needs 139 _ (fun args w => Tryz.call139 args w) B (w.heap.size + 1) A Td Nm ab tb K (3 * Pu.wt k (args[1]'(by omega))) (w.alloc (.cells #[.string x] 9)) c acc (Pu.needs k (Pu.with' c [x]) (args[1]'(by omega)) acc) v _ [x] (mk _ hnew) ?_ ?_ hs' (fun y => by have := hc y; simp; omega) (by simp; omega) ?_).mono ?_
  · intro u u' h hfr
    have hsz := hfr.size
    refine ⟨?_, h.2⟩
    obtain ⟨a, cap, h1, h2, h3, h4⟩ := h.1
    refine ⟨a, cap, h1, h2, h3, fun hn => ?_⟩
    obtain ⟨g, o, h5, h6, h7, h8⟩ := h4 hn
    injection h1 with h1 _ _
    rw [h5] at h1
    injection h1 with h1
    injection h1 with h1 h1' _
    subst h1 h1'
    refine ⟨_, _, h5, h6, by omega, fun i hi => ?_⟩
    rw [show u'.cell? ⟨w.heap.size, 0 + i, none⟩ = u.cell? ⟨w.heap.size, 0 + i, none⟩ from by simp only [World.cell?, hfr.block _ h7 nA]]
    exact h8 i hi
  · intro w2 v' hmv
    exact mk _ (fr_heap hnew hmv.1 nTS)
  · intro w1 hf1 hfs1
    have ho : Old B w w1 := (hf0.old hB (fun _ _ e => e)).trans (hf1.old (by simp; omega) (fun i hi e => by have := hs.hA; have e : i = A := e; omega))
    have hsz : w.heap.size ≤ w1.heap.size := Nat.le_trans hf0.size hf1.size
    have hb1 : Bx A ab tb Nm s s1 s2 w1 #[c0, c1, c2, c3, c4, av, c6] := ⟨fr_heap hb'.t hf1 (hs'.cnt.ne_cells hb'.t), fr_heap hb'.m hf1 (hs'.cnt.ne_cells hb'.m), fr_heap hb'.f hf1 (hs'.cnt.ne_cells hb'.f)⟩
    exact needs1_any k hN B A Td Nm ab tb _ s s1 s2 w1 (Pu.with' c [x]) acc v _ _ _ _ _ _ av acs args h2' hb1 (hr.old ho hsz) (args_old he ho hsz) hfs1 (Nat.le_trans hB hsz)
      (fun y => by have := hc y; have := with_le c [x] y; simp at this; omega) (by simp; omega) ha
  · rintro e w' ⟨he, v', h1, h2⟩
    exact ⟨he, v', h1.mono (by simp; omega), (Moved.refl.no hf0).trans h2⟩
set_option maxHeartbeats 4000000 in
theorem needs_node (k : Nat) (hN : NeedsC k) : NeedsC (k + 1) := by
  intro B A Td Nm ab tb K w c acc v cs t ht hs hB hc hK ha
  obtain ⟨vv, av, cv, acs, ccs, rfl, hx, _, hvars, hr, he, hq, hf⟩ := ht
  obtain ⟨a0, d0, rfl, _⟩ := hvars.1.form
  obtain ⟨a1, d1, rfl, hd1, hd1'⟩ := hr.form
  obtain ⟨a2, d2, rfl, hd2, hd2'⟩ := hq.form
  have hwt : Pu.wt (k + 1) t = 1 + t.vars.length + (t.args.map (Pu.wt k)).sum + (t.cases.map fun c => 1 + c.2.1.length + Pu.wt k c.2.2).sum := rfl
  have HC := hide hc
  have HWT := hide hwt
  have HX := hide hx
  have HR := hide hr
  have HE := hide he
  have HQ := hide hq
  have HF := hide hf
  have HS := hide hs
  have HN := hide hN
  unfold maxLen at hd1' hd2'
  clear hc hwt hx hr he hq hf hs hvars hN
  show Calls Tryz.prog 123 #[.agg #[.int .i64 t.kind, .int .i64 t.n, .string t.name, .string t.token, .slice a0 t.vars.length d0, .slice a1 t.args.length d1, .slice a2 t.cases.length d2], .map (some A), Clo ab tb Nm] w _
  obtain ⟨kd, hkd⟩ : ∃ kd, kd = t.kind := ⟨_, rfl⟩
  rw [← hkd]
  have HKD := hide hkd
  clear hkd
  have hbx0 : Bx A ab tb Nm w.heap.size (w.heap.size + 1) (w.heap.size + 1 + 1) (((w.alloc (.cells #[.int .i64 kd, .int .i64 t.n, .string t.name, .string t.token, .slice a0 t.vars.length d0, .slice a1 t.args.length d1, .slice a2 t.cases.length d2] 32)).alloc (.cells #[.map (some A)] 153)).alloc (.cells #[Clo ab tb Nm] 91)) #[.int .i64 kd, .int .i64 t.n, .string t.name, .string t.token, .slice a0 t.vars.length d0, .slice a1 t.args.length d1, .slice a2 t.cases.length d2] := by
    refine ⟨?_, ?_, ?_⟩
    · rw [Below.heap_alloc _ _ _ (by simp; omega), Below.heap_alloc _ _ _ (by simp)]; exact heap_alloc_new _ _
    · rw [Below.heap_alloc _ _ _ (by simp)]
      have := heap_alloc_new (w.alloc (.cells #[.int .i64 kd, .int .i64 t.n, .string t.name, .string t.token, .slice a0 t.vars.length d0, .slice a1 t.args.length d1, .slice a2 t.cases.length d2] 32)) (.cells #[.map (some A)] 153)
      rw [World.size_alloc] at this; exact this
    · have := heap_alloc_new ((w.alloc (.cells #[.int .i64 kd, .int .i64 t.n, .string t.name, .string t.token, .slice a0 t.vars.length d0, .slice a1 t.args.length d1, .slice a2 t.cases.length d2] 32)).alloc (.cells #[.map (some A)] 153)) (.cells #[Clo ab tb Nm] 91)
      rw [World.size_alloc, World.size_alloc] at this; exact this
  have hfs0 : FS B A Td Nm ab tb K (((w.alloc (.cells #[.int .i64 kd, .int .i64 t.n, .string t.name, .string t.token, .slice a0 t.vars.length d0, .slice a1 t.args.length d1, .slice a2 t.cases.length d2] 32)).alloc (.cells #[.map (some A)] 153)).alloc (.cells #[Clo ab tb Nm] 91)) c acc v := ((HS.out.alloc _).alloc _).alloc _
  have hmv0 : Moved A Td Nm w (((w.alloc (.cells #[.int .i64 kd, .int .i64 t.n, .string t.name, .string t.token, .slice a0 t.vars.length d0, .slice a1 t.args.length d1, .slice a2 t.cases.length d2] 32)).alloc (.cells #[.map (some A)] 153)).alloc (.cells #[Clo ab tb Nm] 91)) v v := ((Moved.refl.alloc _).alloc _).alloc _
  obtain ⟨csv, hcsv⟩ : ∃ csv : Array Value, csv = #[.int .i64 kd, .int .i64 t.n, .string t.name, .string t.token, .slice a0 t.vars.length d0, .slice a1 t.args.length d1, .slice a2 t.cases.length d2] := ⟨_, rfl⟩
  have BX0 : Hid (Bx A ab tb Nm w.heap.size (w.heap.size + 1) (w.heap.size + 1 + 1) (((w.alloc (.cells #[.int .i64 kd, .int .i64 t.n, .string t.name, .string t.token, .slice a0 t.vars.length d0, .slice a1 t.args.length d1, .slice a2 t.cases.length d2] 32)).alloc (.cells #[.map (some A)] 153)).alloc (.cells #[Clo ab tb Nm] 91)) csv) := by rw [hcsv]; exact hbx0
  have HCSV := hide hcsv
  have FS0 := hide hfs0
  have MV0 := hide hmv0
  clear hbx0 hfs0 hmv0 hcsv
  obtain ⟨acc1, hacc1⟩ : ∃ acc1, acc1 = if Pu.asks t.kind = true then Pu.ask c t.name acc else acc := ⟨_, rfl⟩
  have hal : acc1.length ≤ acc.length + 1 := by
    rw [hacc1]; split
    · exact ask_length _ _ _
    · omega
  have HACC := hide hacc1
  clear hacc1
  have hk1' : ∃ b, Pu.asks kd = b := ⟨_, rfl⟩
  obtain ⟨ba, hk1⟩ := hk1'
  cases ba with
  | true =>
    by_cases hk2 : kd = 1
    · subst hk2
      have hfin : Pu.needs (k + 1) c t acc = acc1 := by rw [HACC.out]; show Pu.needsN _ _ _ _ = _; simp only [Pu.needsN, ← HKD.out, if_true]
      have HFIN := hide hfin
      clear hfin
      go_enter Tryz.func123, Tryz.ntmps123
      go_wp2_with fail
      refine (asks_any _ _).mono ?_
      rw [hk1]
      rintro e w0 ⟨rfl, rfl⟩
      go_wp2_with fail
      refine (free1_any B A Td Nm ab tb K _ c acc v t.name FS0.out (by simp; omega) HX.out (by have := HWT.out; omega) (by have := HWT.out; omega)).mono ?_
      rintro e w1 ⟨rfl, v1, hfs1, hmv1⟩
      have b0 := cell_of_heap (BX0.out.moved FS0.out hmv1).t
      have BX1 := hide (BX0.out.moved FS0.out hmv1)
      have MV1 := hide (MV0.out.trans hmv1)
      rw [show Pu.ask c t.name acc = acc1 from by rw [HACC.out, ← HKD.out, if_pos hk1]] at hfs1
      have FS1 := hide hfs1
      rw [HCSV.out] at b0
      clear hfs1 hmv1 FS0 MV0 BX0
      go_wp2_with fail
      clear b0
      refine bodyPost_ret (results_none rfl _ _ _) rfl ?_
      rw [HFIN.out]
      exact ⟨rfl, v1, FS1.out.mono (by have := HWT.out; omega), MV1.out⟩
    · have hk6 : ¬ kd = 6 := by intro e; rw [e] at hk1; exact absurd hk1 (by decide)
      have hfin : Pu.needs (k + 1) c t acc = Pu.needsCases (Pu.needs k) c t.cases (Pu.needsArgs (Pu.needs k) c t.args acc1) := by rw [HACC.out]; show Pu.needsN _ _ _ _ = _; simp only [Pu.needsN, ← HKD.out, hk2, hk6, if_false]
      have HFIN := hide hfin
      clear hfin
      go_enter Tryz.func123, Tryz.ntmps123
      go_wp2_with fail
      refine (asks_any _ _).mono ?_
      rw [hk1]
      rintro e w0 ⟨rfl, rfl⟩
      go_wp2_with fail
      refine (free1_any B A Td Nm ab tb K _ c acc v t.name FS0.out (by simp; omega) HX.out (by have := HWT.out; omega) (by have := HWT.out; omega)).mono ?_
      rintro e w1 ⟨rfl, v1, hfs1, hmv1⟩
      have b0 := cell_of_heap (BX0.out.moved FS0.out hmv1).t
      have BX1 := hide (BX0.out.moved FS0.out hmv1)
      have MV1 := hide (MV0.out.trans hmv1)
      rw [show Pu.ask c t.name acc = acc1 from by rw [HACC.out, ← HKD.out, if_pos hk1]] at hfs1
      have FS1 := hide hfs1
      rw [HCSV.out] at b0
      clear hfs1 hmv1 FS0 MV0 BX0
      go_wp2_with fail
      clear b0
      go_loopw [45] (fun q wr => ∃ i : Nat, i ≤ t.args.length ∧ q = .int .i64 i ∧ ∃ vr, FS B A Td Nm ab tb (K + 1 + 3 * sumW (Pu.wt k) t.args i) wr c (Pu.needsArgs (Pu.needs k) c (t.args.take i) acc1) vr ∧ Moved A Td Nm w wr v vr ∧
        Bx A ab tb Nm w.heap.size (w.heap.size + 1) (w.heap.size + 1 + 1) wr csv ∧ (Pu.needsArgs (Pu.needs k) c (t.args.take i) acc1).length ≤ acc.length + 1 + sumW (Pu.wt k) t.args i) (fun q _ => t.args.length - (intOf q).toNat)
      case atStart => exact ⟨0, Nat.zero_le _, rfl, _, FS1.out, MV1.out, BX1.out, by simp [sumW, Pu.needsArgs]; omega⟩
      case round =>
        clear FS1 MV1 BX1
        obtain ⟨i, hi, rfl, vr, hfs, hmv, hbx, hln⟩ := hrel
        by_cases hlt : i < t.args.length
        · have ho := HS.out.old hmv hB
          obtain ⟨g, o, cap, kd', n', x', y', b0, n0, e0, b1, n1, e1, b2, n2, e2, hav, hcap, hg, hgw, hrt, hcell⟩ := args_at HR.out HE.out i hlt
          injection hav with hav1 _ hav2
          subst hav1 hav2
          have hcw : ∀ j, j < 7 → wr.cell? ⟨g, o + i * 7 + j, none⟩ = [Value.int .i64 kd', .int .i64 n', .string x', .string y', .slice b0 n0 e0, .slice b1 n1 e1, .slice b2 n2 e2][j]? := fun j hj => by
            rw [ho.cell (a := ⟨g, o + i * 7 + j, none⟩) hg]; exact hcell j hj
          have q0 : wr.cell? ⟨g, o + i * 7, none⟩ = some (.int .i64 kd') := hcw 0 (by omega)
          have q1 := hcw 1 (by omega)
          have q2 := hcw 2 (by omega)
          have q3 := hcw 3 (by omega)
          have q4 := hcw 4 (by omega)
          have q5 := hcw 5 (by omega)
          have q6 := hcw 6 (by omega)
          have m0 : wr.cell? ⟨w.heap.size + 1, 0, none⟩ = some (.map (some A)) := by rw [cell_of_heap hbx.m]; rfl
          have f0 : wr.cell? ⟨w.heap.size + 1 + 1, 0, none⟩ = some (Clo ab tb Nm) := by rw [cell_of_heap hbx.f]; rfl
          have hsz2 : w.heap.size + 1 + 1 < wr.heap.size := lt_of_heap hbx.f
          have hsz1 : w.heap.size + 1 < wr.heap.size := by omega
          have hgl : g < wr.heap.size := by omega
          have hss := sumW_succ (Pu.wt k) t.args i hlt
          have hsl := sumW_le (Pu.wt k) t.args (i + 1)
          have hns := needsArgs_succ (Pu.needs k) c t.args i hlt acc1
          have hwb := HWT.out
          have CALL : Hid (∀ W, Fr No wr W → Calls Tryz.prog 123 #[.agg #[.int .i64 kd', .int .i64 n', .string x', .string y', .slice b0 n0 e0, .slice b1 n1 e1, .slice b2 n2 e2], .map (some A), Clo ab tb Nm] W fun e w' => e = .returned (.tuple #[]) ∧
              ∃ v', FS B A Td Nm ab tb (K + 1 + 3 * sumW (Pu.wt k) t.args (i + 1)) w' c (Pu.needsArgs (Pu.needs k) c (t.args.take (i + 1)) acc1) v' ∧ Moved A Td Nm w w' v v' ∧ Bx A ab tb Nm w.heap.size (w.heap.size + 1) (w.heap.size + 1 + 1) w' csv ∧ (Pu.needsArgs (Pu.needs k) c (t.args.take (i + 1)) acc1).length ≤ acc.length + 1 + sumW (Pu.wt k) t.args (i + 1)) := by
            intro W hW
            have hoW : Old B w W := ho.trans (hW.old (by omega) (fun _ _ e => e))
            refine (HN.out B A Td Nm ab tb (K + 1 + 3 * sumW (Pu.wt k) t.args i) W c _ vr _ t.args[i] (hrt.old hoW (Nat.le_trans hmv.1.size hW.size)) (hfs.no hW) (Nat.le_trans hB (Nat.le_trans hmv.1.size hW.size)) (fun x => by have := HC.out x; omega) (by omega) (by omega)).mono ?_
            rintro e w' ⟨he, v', h1, h2⟩
            have hm' : Moved A Td Nm wr w' vr v' := (Moved.refl.no hW).trans h2
            rw [← hns] at h1
            refine ⟨he, v', h1.mono (by omega), hmv.trans hm', hbx.moved hfs hm', ?_⟩
            rw [hns]
            exact Nat.le_trans (needs_length k c t.args[i] _) (by omega)
          have HMS := hide hmv.1.size
          clear hcw hcell hrt hfs hmv hbx hln hss hsl hns hwb ho
          have i1 : (i : Int) < (t.args.length : Int) := by omega
          have i0 : (0 : Int) ≤ (i : Int) := by omega
          go_wp2_with fail
          refine (CALL.out _ ?_).mono ?_
          · repeat (first | exact Fr.refl _ _ | apply Fr.alloc | exact Fr.setNo (by simp))
          rintro e w2 ⟨rfl, v2, h1, h2, h3, h4⟩
          have H1 := hide h1
          have H2 := hide h2
          have H3 := hide h3
          have H4 := hide h4
          clear h1 h2 h3 h4
          go_wp2_with fail
          go_roundw
          case rel => exact ⟨i + 1, by omega, by go_num, v2, H1.out, H2.out, H3.out, H4.out⟩
          case measure => simp [intOf]; omega
        · have hil : i = t.args.length := by omega
          subst hil
          rw [List.take_length] at hfs hln
          rw [sumW_all] at hfs hln
          have b0 := cell_of_heap hbx.t
          rw [HCSV.out] at b0
          have H1 := hide hfs
          have H2 := hide hmv
          have H3 := hide hbx
          have H4 := hide hln
          clear hfs hmv hbx hln
          go_wp2_with fail
          clear b0
          obtain ⟨acc2, hacc2⟩ : ∃ acc2, acc2 = Pu.needsArgs (Pu.needs k) c t.args acc1 := ⟨_, rfl⟩
          obtain ⟨K2, hK2⟩ : ∃ K2, K2 = K + 1 + 3 * (t.args.map (Pu.wt k)).sum := ⟨_, rfl⟩
          rw [← hacc2, ← hK2] at H1
          rw [← hacc2] at H4 HFIN
          have HK2 := hide hK2
          clear hacc2 hK2
          go_loopw [57] (fun q wr => ∃ i : Nat, i ≤ t.cases.length ∧ q = .int .i64 i ∧ ∃ vr, FS B A Td Nm ab tb (K2 + 3 * sumW (fun c => 1 + c.2.1.length + Pu.wt k c.2.2) t.cases i) wr c (Pu.needsCases (Pu.needs k) c (t.cases.take i) acc2) vr ∧ Moved A Td Nm w wr v vr ∧
            Bx A ab tb Nm w.heap.size (w.heap.size + 1) (w.heap.size + 1 + 1) wr csv ∧ (Pu.needsCases (Pu.needs k) c (t.cases.take i) acc2).length ≤ acc.length + 1 + (t.args.map (Pu.wt k)).sum + sumW (fun c => 1 + c.2.1.length + Pu.wt k c.2.2) t.cases i) (fun q _ => t.cases.length - (intOf q).toNat)
          case atStart => exact ⟨0, Nat.zero_le _, rfl, _, H1.out, H2.out, H3.out, H4.out⟩
          case round =>
            clear H1 H2 H3 H4
            obtain ⟨i, hi, rfl, vr, hfs, hmv, hbx, hln⟩ := hrel
            by_cases hlt : i < t.cases.length
            · have ho := HS.out.old hmv hB
              obtain ⟨g, o, cap, ag, an, ac, kd', n', x', y', b0, n0, e0, b1, n1, e1, b2, n2, e2, hav, hcap, hg, hgw, hnm, han, hrt, hcell⟩ := cases_at HQ.out HF.out i hlt
              injection hav with hav1 _ hav2
              subst hav1 hav2
              have hcw : ∀ j, j < 9 → wr.cell? ⟨g, o + i * 9 + j, none⟩ = [Value.int .i64 t.cases[i].1, .slice ag an ac, .int .i64 kd', .int .i64 n', .string x', .string y', .slice b0 n0 e0, .slice b1 n1 e1, .slice b2 n2 e2][j]? := fun j hj => by
                rw [ho.cell (a := ⟨g, o + i * 9 + j, none⟩) hg]; exact hcell j hj
              have q0 : wr.cell? ⟨g, o + i * 9, none⟩ = some (.int .i64 t.cases[i].1) := hcw 0 (by omega)
              have q1 := hcw 1 (by omega)
              have q2 := hcw 2 (by omega)
              have q3 := hcw 3 (by omega)
              have q4 := hcw 4 (by omega)
              have q5 := hcw 5 (by omega)
              have q6 := hcw 6 (by omega)
              have q7 := hcw 7 (by omega)
              have q8 := hcw 8 (by omega)
              have m0 : wr.cell? ⟨w.heap.size + 1, 0, none⟩ = some (.map (some A)) := by rw [cell_of_heap hbx.m]; rfl
              have f0 : wr.cell? ⟨w.heap.size + 1 + 1, 0, none⟩ = some (Clo ab tb Nm) := by rw [cell_of_heap hbx.f]; rfl
              have hsz2 : w.heap.size + 1 + 1 < wr.heap.size := lt_of_heap hbx.f
              have hsz1 : w.heap.size + 1 < wr.heap.size := by omega
              have hgl : g < wr.heap.size := by omega
              have hss := sumW_succ (fun c : Int × List ByteArray × Pu.TT k => 1 + c.2.1.length + Pu.wt k c.2.2) t.cases i hlt
              have hsl := sumW_le (fun c : Int × List ByteArray × Pu.TT k => 1 + c.2.1.length + Pu.wt k c.2.2) t.cases (i + 1)
              have hns := needsCases_succ (Pu.needs k) c t.cases i hlt acc2
              have hwb := HWT.out
              have hk2' := HK2.out
              obtain ⟨cse, hcse⟩ : ∃ cse, cse = t.cases[i] := ⟨_, rfl⟩
              rw [← hcse] at hss hns hnm hrt han q0 hcw
              subst han
              have CALL : Hid (∀ W, Fr No wr W → W.heap[wr.heap.size]? = some (.cells #[.int .i64 cse.1, .slice ag cse.2.1.length ac, .int .i64 kd', .int .i64 n', .string x', .string y', .slice b0 n0 e0, .slice b1 n1 e1, .slice b2 n2 e2] 58 (0, 0)) → Calls Tryz.prog 138 #[.map (some A), .slice ag cse.2.1.length ac, .func (.func 140) #[] #[.pointer (some ⟨wr.heap.size, 0, none⟩), .pointer (some ⟨w.heap.size + 1, 0, none⟩), .pointer (some ⟨w.heap.size + 1 + 1, 0, none⟩)]] W fun e w' => e = .returned (.tuple #[]) ∧
                  ∃ v', FS B A Td Nm ab tb (K2 + 3 * sumW (fun c => 1 + c.2.1.length + Pu.wt k c.2.2) t.cases (i + 1)) w' c (Pu.needsCases (Pu.needs k) c (t.cases.take (i + 1)) acc2) v' ∧ Moved A Td Nm w w' v v' ∧ Bx A ab tb Nm w.heap.size (w.heap.size + 1) (w.heap.size + 1 + 1) w' csv ∧ (Pu.needsCases (Pu.needs k) c (t.cases.take (i + 1)) acc2).length ≤ acc.length + 1 + (t.args.map (Pu.wt k)).sum + sumW (fun c => 1 + c.2.1.length + Pu.wt k c.2.2) t.cases (i + 1)) := by
                intro W hW hcs
                have hoW : Old B w W := ho.trans (hW.old (by omega) (fun _ _ e => e))
                have hszW : w.heap.size ≤ W.heap.size := Nat.le_trans hmv.1.size hW.size
                have hfsW := hfs.no hW
                have hbxW := hbx.no hW
                have hb := case_call k HN.out B A Td Nm ab tb (K2 + 3 * sumW (fun c => 1 + c.2.1.length + Pu.wt k c.2.2) t.cases i) wr.heap.size (w.heap.size + 1) (w.heap.size + 1 + 1) W c _ vr _ ag cse.2.1.length ac cse.2.1 kd' n' x' y' b0 b1 b2 n0 e0 n1 e1 n2 e2 cse.2.2 hcs hbxW.m hbxW.f (hnm.kept hoW (Nat.le_refl _) hszW) (hrt.old hoW hszW) hfsW (by omega) (fun x => by have := HC.out x; omega) (by omega) (by omega)
                refine hb.mono ?_
                rintro e w' ⟨he, v', h1, h2⟩
                have hm' : Moved A Td Nm wr w' vr v' := (Moved.refl.no hW).trans h2
                rw [← hns] at h1
                refine ⟨he, v', h1.mono (by omega), hmv.trans hm', hbx.moved hfs hm', ?_⟩
                rw [hns]
                exact Nat.le_trans (needs_length k _ cse.2.2 _) (by omega)
              have HMS := hide hmv.1.size
              clear hcw hcell hrt hfs hmv hbx hln hss hsl hns hwb ho hnm hk2' hcse
              have i1 : (i : Int) < (t.cases.length : Int) := by omega
              have i0 : (0 : Int) ≤ (i : Int) := by omega
              go_wp2_with fail
              refine (CALL.out _ ?_ ?_).mono ?_
              · repeat (first | exact Fr.refl _ _ | apply Fr.alloc | exact Fr.setNo (by simp))
              · exact heap_alloc_new _ _
              rintro e w2 ⟨rfl, v2, h1, h2, h3, h4⟩
              have H1 := hide h1
              have H2 := hide h2
              have H3 := hide h3
              have H4 := hide h4
              clear h1 h2 h3 h4
              go_wp2_with fail
              go_roundw
              case rel => exact ⟨i + 1, by omega, by go_num, v2, H1.out, H2.out, H3.out, H4.out⟩
              case measure => simp [intOf]; omega
            · have hil : i = t.cases.length := by omega
              subst hil
              rw [List.take_length, ← HFIN.out] at hfs
              rw [sumW_all] at hfs
              have H1 := hide hfs
              have H2 := hide hmv
              clear hfs hmv hbx hln
              go_wp2_with fail
              go_end0
              exact ⟨rfl, vr, H1.out.mono (by have := HWT.out; have := HK2.out; omega), H2.out⟩
  | false =>
    have hk2 : ¬ kd = 1 := by intro e; rw [e] at hk1; exact absurd hk1 (by decide)
    have ea : acc1 = acc := by rw [HACC.out, ← HKD.out, if_neg (by rw [hk1]; decide)]
    have FS1 : Hid (FS B A Td Nm ab tb (K + 1) (((w.alloc (.cells #[.int .i64 kd, .int .i64 t.n, .string t.name, .string t.token, .slice a0 t.vars.length d0, .slice a1 t.args.length d1, .slice a2 t.cases.length d2] 32)).alloc (.cells #[.map (some A)] 153)).alloc (.cells #[Clo ab tb Nm] 91)) c acc1 v) := by rw [ea]; exact FS0.out.mono (by omega)
    have b0 := cell_of_heap BX0.out.t
    rw [HCSV.out] at b0
    have BX1 := BX0
    have MV1 := MV0
    clear FS0 MV0 BX0 ea
    by_cases hk6 : kd = 6
    · by_cases hk3 : t.args.length = 2
      · clear b0
        have hl2 : t.args.length = 2 := hk3
        have hsum := sum_two (Pu.wt k) t.args hl2
        have hfin : Pu.needs (k + 1) c t acc = Pu.needs k (Pu.with' c [t.name]) (t.args[1]'(by omega)) (Pu.needs k c (t.args[0]'(by omega)) acc1) := by
          rw [HACC.out]
          exact needsN_let _ _ _ _ (by rw [← HKD.out]; exact hk6) hl2
        have HFIN := hide hfin
        have HSUM := hide hsum
        clear hfin hsum
        subst hk6
        obtain ⟨g, o, cap, kd', n', x', y', b0, n0, e0, b1, n1, e1, b2, n2, e2, hav, hcap, hg, hgw, hrt, hcell⟩ := args_at HR.out HE.out 0 (by omega)
        injection hav with hav1 _ hav2
        subst hav1 hav2
        obtain ⟨W3, hW3⟩ : ∃ W3, W3 = (((w.alloc (.cells #[.int .i64 6, .int .i64 t.n, .string t.name, .string t.token, .slice a0 t.vars.length d0, .slice (some ⟨g, o, none⟩) t.args.length d1, .slice a2 t.cases.length d2] 32)).alloc (.cells #[.map (some A)] 153)).alloc (.cells #[Clo ab tb Nm] 91)) := ⟨_, rfl⟩
        rw [← hW3] at FS1 BX1 MV1
        have ho := HS.out.old MV1.out hB
        have hsz3 : w.heap.size ≤ W3.heap.size := MV1.out.1.size
        have cg : ∀ i, W3.cell? ⟨g, i, none⟩ = w.cell? ⟨g, i, none⟩ := fun i => ho.cell (a := ⟨g, i, none⟩) hg
        have q0 : W3.cell? ⟨g, o, none⟩ = some (.int .i64 kd') := by rw [cg]; have := hcell 0 (by omega); simpa using this
        have q1 : W3.cell? ⟨g, o + 1, none⟩ = some (.int .i64 n') := by rw [cg]; have := hcell 1 (by omega); simpa using this
        have q2 : W3.cell? ⟨g, o + 2, none⟩ = some (.string x') := by rw [cg]; have := hcell 2 (by omega); simpa using this
        have q3 : W3.cell? ⟨g, o + 3, none⟩ = some (.string y') := by rw [cg]; have := hcell 3 (by omega); simpa using this
        have q4 : W3.cell? ⟨g, o + 4, none⟩ = some (.slice b0 n0 e0) := by rw [cg]; have := hcell 4 (by omega); simpa using this
        have q5 : W3.cell? ⟨g, o + 5, none⟩ = some (.slice b1 n1 e1) := by rw [cg]; have := hcell 5 (by omega); simpa using this
        have q6 : W3.cell? ⟨g, o + 6, none⟩ = some (.slice b2 n2 e2) := by rw [cg]; have := hcell 6 (by omega); simpa using this
        have p0 : W3.cell? ⟨w.heap.size, 5, none⟩ = some (.slice (some ⟨g, o, none⟩) 2 d1) := by rw [cell_of_heap BX1.out.t, HCSV.out]; simp [hl2]
        have p1 : W3.cell? ⟨w.heap.size + 1, 0, none⟩ = some (.map (some A)) := by rw [cell_of_heap BX1.out.m]; rfl
        have p2 : W3.cell? ⟨w.heap.size + 1 + 1, 0, none⟩ = some (Clo ab tb Nm) := by rw [cell_of_heap BX1.out.f]; rfl
        have AS : Hid (Calls Tryz.prog 123 #[.agg #[.int .i64 kd', .int .i64 n', .string x', .string y', .slice b0 n0 e0, .slice b1 n1 e1, .slice b2 n2 e2], .map (some A), Clo ab tb Nm] W3.drew fun e w' => e = .returned (.tuple #[]) ∧ (∃ v', FS B A Td Nm ab tb (K + 1 + 3 * Pu.wt k (t.args[0]'(by omega))) w' c (Pu.needs k c (t.args[0]'(by omega)) acc1) v' ∧ Moved A Td Nm w w' v v' ∧ Bx A ab tb Nm w.heap.size (w.heap.size + 1) (w.heap.size + 1 + 1) w' csv) ∧ (w'.cell? ⟨g, o, none⟩ = some (.int .i64 kd') ∧ w'.cell? ⟨g, o + 1, none⟩ = some (.int .i64 n') ∧ w'.cell? ⟨g, o + 2, none⟩ = some (.string x') ∧ w'.cell? ⟨g, o + 3, none⟩ = some (.string y') ∧ w'.cell? ⟨g, o + 4, none⟩ = some (.slice b0 n0 e0) ∧ w'.cell? ⟨g, o + 5, none⟩ = some (.slice b1 n1 e1) ∧ w'.cell? ⟨g, o + 6, none⟩ = some (.slice b2 n2 e2) ∧ w'.cell? ⟨w.heap.size, 5, none⟩ = some (.slice (some ⟨g, o, none⟩) 2 d1) ∧ w'.cell? ⟨w.heap.size + 1, 0, none⟩ = some (.map (some A)) ∧ w'.cell? ⟨w.heap.size + 1 + 1, 0, none⟩ = some (Clo ab tb Nm))) := by
          have hwb := HWT.out
          have hsm := HSUM.out
          refine (HN.out B A Td Nm ab tb (K + 1) W3.drew c acc1 v _ _ (hrt.old (ho.trans (Old.of_heap rfl)) hsz3) (FS1.out.no (Fr.refl No W3).drew) (Nat.le_trans hB hsz3) (fun x => by have := HC.out x; omega) (by omega) (by omega)).mono ?_
          rintro e w' ⟨he, v', h1, h2⟩
          have hm3 : Moved A Td Nm W3 w' v v' := (Moved.refl.no (Fr.refl No W3).drew).trans h2
          have hm : Moved A Td Nm w w' v v' := MV1.out.trans hm3
          have ho3 := FS1.out.old hm3 (Nat.le_trans hB hsz3)
          have cg' : ∀ i u, W3.cell? ⟨g, i, none⟩ = some u → w'.cell? ⟨g, i, none⟩ = some u := fun i u hu => by rw [ho3.cell (a := ⟨g, i, none⟩) hg]; exact hu
          have hb' := BX1.out.moved FS1.out hm3
          exact ⟨he, ⟨v', h1, hm, hb'⟩, cg' _ _ q0, cg' _ _ q1, cg' _ _ q2, cg' _ _ q3, cg' _ _ q4, cg' _ _ q5, cg' _ _ q6, by rw [cell_of_heap hb'.t, HCSV.out]; simp [hl2], by rw [cell_of_heap hb'.m]; rfl, by rw [cell_of_heap hb'.f]; rfl⟩
        have HZ : Hid (W3.drew.cell? ⟨g, o, none⟩ = some (.int .i64 kd') ∧ W3.drew.cell? ⟨g, o + 1, none⟩ = some (.int .i64 n') ∧ W3.drew.cell? ⟨g, o + 2, none⟩ = some (.string x') ∧ W3.drew.cell? ⟨g, o + 3, none⟩ = some (.string y') ∧ W3.drew.cell? ⟨g, o + 4, none⟩ = some (.slice b0 n0 e0) ∧ W3.drew.cell? ⟨g, o + 5, none⟩ = some (.slice b1 n1 e1) ∧ W3.drew.cell? ⟨g, o + 6, none⟩ = some (.slice b2 n2 e2) ∧ W3.drew.cell? ⟨w.heap.size, 5, none⟩ = some (.slice (some ⟨g, o, none⟩) 2 d1) ∧ W3.drew.cell? ⟨w.heap.size + 1, 0, none⟩ = some (.map (some A)) ∧ W3.drew.cell? ⟨w.heap.size + 1 + 1, 0, none⟩ = some (Clo ab tb Nm)) := ⟨q0, q1, q2, q3, q4, q5, q6, p0, p1, p2⟩
        have bb0 := cell_of_heap BX1.out.t
        rw [HCSV.out, hl2] at bb0
        have HL2 := hide hl2
        rw [hl2]
        clear q0 q1 q2 q3 q4 q5 q6 p0 p1 p2 cg ho hcell hrt
        have hW3' : (((w.alloc (.cells #[.int .i64 6, .int .i64 t.n, .string t.name, .string t.token, .slice a0 t.vars.length d0, .slice (some ⟨g, o, none⟩) 2 d1, .slice a2 t.cases.length d2] 32)).alloc (.cells #[.map (some A)] 153)).alloc (.cells #[Clo ab tb Nm] 91)) = W3 := by rw [hW3, hl2]
        clear hW3
        go_enter Tryz.func123, Tryz.ntmps123
        go_wp2_with fail
        refine (asks_any _ _).mono ?_
        rw [hk1]
        rintro e w0 ⟨rfl, hw0⟩
        have hw0' : w0 = W3 := by first | exact hw0 | exact hw0.trans hW3'
        clear hw0 hW3'
        subst hw0'
        go_wp2_with fail
        clear bb0
        go_region_held3 (fun w' : World => w'.cell? ⟨g, o, none⟩ = some (.int .i64 kd') ∧ w'.cell? ⟨g, o + 1, none⟩ = some (.int .i64 n') ∧ w'.cell? ⟨g, o + 2, none⟩ = some (.string x') ∧ w'.cell? ⟨g, o + 3, none⟩ = some (.string y') ∧ w'.cell? ⟨g, o + 4, none⟩ = some (.slice b0 n0 e0) ∧ w'.cell? ⟨g, o + 5, none⟩ = some (.slice b1 n1 e1) ∧ w'.cell? ⟨g, o + 6, none⟩ = some (.slice b2 n2 e2) ∧ w'.cell? ⟨w.heap.size, 5, none⟩ = some (.slice (some ⟨g, o, none⟩) 2 d1) ∧ w'.cell? ⟨w.heap.size + 1, 0, none⟩ = some (.map (some A)) ∧ w'.cell? ⟨w.heap.size + 1 + 1, 0, none⟩ = some (Clo ab tb Nm)) (first | assumption | exact HZ.out | go_keep)
          (first
            | (go_at_call 123; refine AS.out.mono ?_; rintro e w1 ⟨rfl, hv1, hz1⟩))
        all_goals
          obtain ⟨v1, hfs1, hmv1, hbx1⟩ := hv1
          have r0 := cell_of_heap hbx1.t
          rw [HCSV.out, hl2] at r0
          have r1 : w1.cell? ⟨w.heap.size + 1, 0, none⟩ = some (.map (some A)) := by rw [cell_of_heap hbx1.m]; rfl
          have LC : Hid (Calls Tryz.prog 138 #[.map (some A), .slice (some ⟨w1.heap.size, 0, none⟩) 1 1, .func (.func 139) #[] #[.pointer (some ⟨w.heap.size, 0, none⟩), .pointer (some ⟨w.heap.size + 1, 0, none⟩), .pointer (some ⟨w.heap.size + 1 + 1, 0, none⟩)]] (w1.alloc (.cells #[.string t.name] 9)) fun e w' => e = .returned (.tuple #[]) ∧ ∃ v', FS B A Td Nm ab tb (K + 3 * Pu.wt (k + 1) t) w' c (Pu.needs (k + 1) c t acc) v' ∧ Moved A Td Nm w w' v v') := by
            have hwb := HWT.out
            have hsm := HSUM.out
            have hln := needs_length k c (t.args[0]'(by omega)) acc1
            have hbx2 := hbx1
            rw [HCSV.out] at hbx2
            have ho1 := HS.out.old hmv1 hB
            refine (let_call k HN.out B A Td Nm ab tb _ _ _ _ w1 c _ v1 _ _ _ _ _ _ _ acs t.args hl2 t.name HX.out hbx2 (HR.out.old ho1 hmv1.1.size) (args_old HE.out ho1 hmv1.1.size) hfs1 (Nat.le_trans hB hmv1.1.size) (fun x => by have := HC.out x; omega) (by omega) (by omega)).mono ?_
            rintro e w' ⟨he, v', h1, h2⟩
            rw [← HFIN.out] at h1
            exact ⟨he, v', h1.mono (by omega), hmv1.trans h2⟩
          clear hfs1 hmv1 hbx1 hz1 AS HZ
          have hmf : ∀ (fn : Fn) (first cap : Array Value) (w : World), (Instr.makeFunc fn first cap).run Tryz.prog w = .ok (.func fn first cap) w := fun _ _ _ _ => rfl
          go_wp2_with fail
          refine LC.out.mono ?_
          rintro e w2 ⟨rfl, hv2⟩
          have HV2 := hide hv2
          clear hv2
          go_wp2_with fail
          refine bodyPost_ret (results_none rfl _ _ _) rfl ?_
          exact ⟨rfl, HV2.out⟩
      · have hk3' : ¬ ((t.args.length : Int) = 2) := by omega
        have hfin : Pu.needs (k + 1) c t acc = Pu.needsCases (Pu.needs k) c t.cases (Pu.needsArgs (Pu.needs k) c t.args acc1) := by rw [HACC.out]; exact needsN_other _ _ _ _ (by rw [← HKD.out]; exact hk2) (fun h => hk3 h.2)
        have HFIN := hide hfin
        clear hfin
        subst hk6
        go_enter Tryz.func123, Tryz.ntmps123
        go_wp2_with fail
        refine (asks_any _ _).mono ?_
        rw [hk1]
        rintro e w0 ⟨rfl, rfl⟩
        go_wp2_with fail
        clear b0
        clear hk3' hk3
        generalize ((t.args.length : Int) == 2) = bq
        go_loopw [45] (fun q wr => ∃ i : Nat, i ≤ t.args.length ∧ q = .int .i64 i ∧ ∃ vr, FS B A Td Nm ab tb (K + 1 + 3 * sumW (Pu.wt k) t.args i) wr c (Pu.needsArgs (Pu.needs k) c (t.args.take i) acc1) vr ∧ Moved A Td Nm w wr v vr ∧
          Bx A ab tb Nm w.heap.size (w.heap.size + 1) (w.heap.size + 1 + 1) wr csv ∧ (Pu.needsArgs (Pu.needs k) c (t.args.take i) acc1).length ≤ acc.length + 1 + sumW (Pu.wt k) t.args i) (fun q _ => t.args.length - (intOf q).toNat)
        case atStart => exact ⟨0, Nat.zero_le _, rfl, _, FS1.out, MV1.out, BX1.out, by simp [sumW, Pu.needsArgs]; omega⟩
        case round =>
          clear FS1 MV1 BX1
          obtain ⟨i, hi, rfl, vr, hfs, hmv, hbx, hln⟩ := hrel
          by_cases hlt : i < t.args.length
          · have ho := HS.out.old hmv hB
            obtain ⟨g, o, cap, kd', n', x', y', b0, n0, e0, b1, n1, e1, b2, n2, e2, hav, hcap, hg, hgw, hrt, hcell⟩ := args_at HR.out HE.out i hlt
            injection hav with hav1 _ hav2
            subst hav1 hav2
            have hcw : ∀ j, j < 7 → wr.cell? ⟨g, o + i * 7 + j, none⟩ = [Value.int .i64 kd', .int .i64 n', .string x', .string y', .slice b0 n0 e0, .slice b1 n1 e1, .slice b2 n2 e2][j]? := fun j hj => by
              rw [ho.cell (a := ⟨g, o + i * 7 + j, none⟩) hg]; exact hcell j hj
            have q0 : wr.cell? ⟨g, o + i * 7, none⟩ = some (.int .i64 kd') := hcw 0 (by omega)
            have q1 := hcw 1 (by omega)
            have q2 := hcw 2 (by omega)
            have q3 := hcw 3 (by omega)
            have q4 := hcw 4 (by omega)
            have q5 := hcw 5 (by omega)
            have q6 := hcw 6 (by omega)
            have m0 : wr.cell? ⟨w.heap.size + 1, 0, none⟩ = some (.map (some A)) := by rw [cell_of_heap hbx.m]; rfl
            have f0 : wr.cell? ⟨w.heap.size + 1 + 1, 0, none⟩ = some (Clo ab tb Nm) := by rw [cell_of_heap hbx.f]; rfl
            have hsz2 : w.heap.size + 1 + 1 < wr.heap.size := lt_of_heap hbx.f
            have hsz1 : w.heap.size + 1 < wr.heap.size := by omega
            have hgl : g < wr.heap.size := by omega
            have hss := sumW_succ (Pu.wt k) t.args i hlt
            have hsl := sumW_le (Pu.wt k) t.args (i + 1)
            have hns := needsArgs_succ (Pu.needs k) c t.args i hlt acc1
            have hwb := HWT.out
            have CALL : Hid (∀ W, Fr No wr W → Calls Tryz.prog 123 #[.agg #[.int .i64 kd', .int .i64 n', .string x', .string y', .slice b0 n0 e0, .slice b1 n1 e1, .slice b2 n2 e2], .map (some A), Clo ab tb Nm] W fun e w' => e = .returned (.tuple #[]) ∧
                ∃ v', FS B A Td Nm ab tb (K + 1 + 3 * sumW (Pu.wt k) t.args (i + 1)) w' c (Pu.needsArgs (Pu.needs k) c (t.args.take (i + 1)) acc1) v' ∧ Moved A Td Nm w w' v v' ∧ Bx A ab tb Nm w.heap.size (w.heap.size + 1) (w.heap.size + 1 + 1) w' csv ∧ (Pu.needsArgs (Pu.needs k) c (t.args.take (i + 1)) acc1).length ≤ acc.length + 1 + sumW (Pu.wt k) t.args (i + 1)) := by
              intro W hW
              have hoW : Old B w W := ho.trans (hW.old (by omega) (fun _ _ e => e))
              refine (HN.out B A Td Nm ab tb (K + 1 + 3 * sumW (Pu.wt k) t.args i) W c _ vr _ t.args[i] (hrt.old hoW (Nat.le_trans hmv.1.size hW.size)) (hfs.no hW) (Nat.le_trans hB (Nat.le_trans hmv.1.size hW.size)) (fun x => by have := HC.out x; omega) (by omega) (by omega)).mono ?_
              rintro e w' ⟨he, v', h1, h2⟩
              have hm' : Moved A Td Nm wr w' vr v' := (Moved.refl.no hW).trans h2
              rw [← hns] at h1
              refine ⟨he, v', h1.mono (by omega), hmv.trans hm', hbx.moved hfs hm', ?_⟩
              rw [hns]
              exact Nat.le_trans (needs_length k c t.args[i] _) (by omega)
            have HMS := hide hmv.1.size
            clear hcw hcell hrt hfs hmv hbx hln hss hsl hns hwb ho
            have i1 : (i : Int) < (t.args.length : Int) := by omega
            have i0 : (0 : Int) ≤ (i : Int) := by omega
            go_wp2_with fail
            refine (CALL.out _ ?_).mono ?_
            · repeat (first | exact Fr.refl _ _ | apply Fr.alloc | exact Fr.setNo (by simp))
            rintro e w2 ⟨rfl, v2, h1, h2, h3, h4⟩
            have H1 := hide h1
            have H2 := hide h2
            have H3 := hide h3
            have H4 := hide h4
            clear h1 h2 h3 h4
            go_wp2_with fail
            go_roundw
            case rel => exact ⟨i + 1, by omega, by go_num, v2, H1.out, H2.out, H3.out, H4.out⟩
            case measure => simp [intOf]; omega
          · have hil : i = t.args.length := by omega
            subst hil
            rw [List.take_length] at hfs hln
            rw [sumW_all] at hfs hln
            have b0 := cell_of_heap hbx.t
            rw [HCSV.out] at b0
            have H1 := hide hfs
            have H2 := hide hmv
            have H3 := hide hbx
            have H4 := hide hln
            clear hfs hmv hbx hln
            go_wp2_with fail
            clear b0
            obtain ⟨acc2, hacc2⟩ : ∃ acc2, acc2 = Pu.needsArgs (Pu.needs k) c t.args acc1 := ⟨_, rfl⟩
            obtain ⟨K2, hK2⟩ : ∃ K2, K2 = K + 1 + 3 * (t.args.map (Pu.wt k)).sum := ⟨_, rfl⟩
            rw [← hacc2, ← hK2] at H1
            rw [← hacc2] at H4 HFIN
            have HK2 := hide hK2
            clear hacc2 hK2
            go_loopw [57] (fun q wr => ∃ i : Nat, i ≤ t.cases.length ∧ q = .int .i64 i ∧ ∃ vr, FS B A Td Nm ab tb (K2 + 3 * sumW (fun c => 1 + c.2.1.length + Pu.wt k c.2.2) t.cases i) wr c (Pu.needsCases (Pu.needs k) c (t.cases.take i) acc2) vr ∧ Moved A Td Nm w wr v vr ∧
              Bx A ab tb Nm w.heap.size (w.heap.size + 1) (w.heap.size + 1 + 1) wr csv ∧ (Pu.needsCases (Pu.needs k) c (t.cases.take i) acc2).length ≤ acc.length + 1 + (t.args.map (Pu.wt k)).sum + sumW (fun c => 1 + c.2.1.length + Pu.wt k c.2.2) t.cases i) (fun q _ => t.cases.length - (intOf q).toNat)
            case atStart => exact ⟨0, Nat.zero_le _, rfl, _, H1.out, H2.out, H3.out, H4.out⟩
            case round =>
              clear H1 H2 H3 H4
              obtain ⟨i, hi, rfl, vr, hfs, hmv, hbx, hln⟩ := hrel
              by_cases hlt : i < t.cases.length
              · have ho := HS.out.old hmv hB
                obtain ⟨g, o, cap, ag, an, ac, kd', n', x', y', b0, n0, e0, b1, n1, e1, b2, n2, e2, hav, hcap, hg, hgw, hnm, han, hrt, hcell⟩ := cases_at HQ.out HF.out i hlt
                injection hav with hav1 _ hav2
                subst hav1 hav2
                have hcw : ∀ j, j < 9 → wr.cell? ⟨g, o + i * 9 + j, none⟩ = [Value.int .i64 t.cases[i].1, .slice ag an ac, .int .i64 kd', .int .i64 n', .string x', .string y', .slice b0 n0 e0, .slice b1 n1 e1, .slice b2 n2 e2][j]? := fun j hj => by
                  rw [ho.cell (a := ⟨g, o + i * 9 + j, none⟩) hg]; exact hcell j hj
                have q0 : wr.cell? ⟨g, o + i * 9, none⟩ = some (.int .i64 t.cases[i].1) := hcw 0 (by omega)
                have q1 := hcw 1 (by omega)
                have q2 := hcw 2 (by omega)
                have q3 := hcw 3 (by omega)
                have q4 := hcw 4 (by omega)
                have q5 := hcw 5 (by omega)
                have q6 := hcw 6 (by omega)
                have q7 := hcw 7 (by omega)
                have q8 := hcw 8 (by omega)
                have m0 : wr.cell? ⟨w.heap.size + 1, 0, none⟩ = some (.map (some A)) := by rw [cell_of_heap hbx.m]; rfl
                have f0 : wr.cell? ⟨w.heap.size + 1 + 1, 0, none⟩ = some (Clo ab tb Nm) := by rw [cell_of_heap hbx.f]; rfl
                have hsz2 : w.heap.size + 1 + 1 < wr.heap.size := lt_of_heap hbx.f
                have hsz1 : w.heap.size + 1 < wr.heap.size := by omega
                have hgl : g < wr.heap.size := by omega
                have hss := sumW_succ (fun c : Int × List ByteArray × Pu.TT k => 1 + c.2.1.length + Pu.wt k c.2.2) t.cases i hlt
                have hsl := sumW_le (fun c : Int × List ByteArray × Pu.TT k => 1 + c.2.1.length + Pu.wt k c.2.2) t.cases (i + 1)
                have hns := needsCases_succ (Pu.needs k) c t.cases i hlt acc2
                have hwb := HWT.out
                have hk2' := HK2.out
                obtain ⟨cse, hcse⟩ : ∃ cse, cse = t.cases[i] := ⟨_, rfl⟩
                rw [← hcse] at hss hns hnm hrt han q0 hcw
                subst han
                have CALL : Hid (∀ W, Fr No wr W → W.heap[wr.heap.size]? = some (.cells #[.int .i64 cse.1, .slice ag cse.2.1.length ac, .int .i64 kd', .int .i64 n', .string x', .string y', .slice b0 n0 e0, .slice b1 n1 e1, .slice b2 n2 e2] 58 (0, 0)) → Calls Tryz.prog 138 #[.map (some A), .slice ag cse.2.1.length ac, .func (.func 140) #[] #[.pointer (some ⟨wr.heap.size, 0, none⟩), .pointer (some ⟨w.heap.size + 1, 0, none⟩), .pointer (some ⟨w.heap.size + 1 + 1, 0, none⟩)]] W fun e w' => e = .returned (.tuple #[]) ∧
                    ∃ v', FS B A Td Nm ab tb (K2 + 3 * sumW (fun c => 1 + c.2.1.length + Pu.wt k c.2.2) t.cases (i + 1)) w' c (Pu.needsCases (Pu.needs k) c (t.cases.take (i + 1)) acc2) v' ∧ Moved A Td Nm w w' v v' ∧ Bx A ab tb Nm w.heap.size (w.heap.size + 1) (w.heap.size + 1 + 1) w' csv ∧ (Pu.needsCases (Pu.needs k) c (t.cases.take (i + 1)) acc2).length ≤ acc.length + 1 + (t.args.map (Pu.wt k)).sum + sumW (fun c => 1 + c.2.1.length + Pu.wt k c.2.2) t.cases (i + 1)) := by
                  intro W hW hcs
                  have hoW : Old B w W := ho.trans (hW.old (by omega) (fun _ _ e => e))
                  have hszW : w.heap.size ≤ W.heap.size := Nat.le_trans hmv.1.size hW.size
                  have hfsW := hfs.no hW
                  have hbxW := hbx.no hW
                  have hb := case_call k HN.out B A Td Nm ab tb (K2 + 3 * sumW (fun c => 1 + c.2.1.length + Pu.wt k c.2.2) t.cases i) wr.heap.size (w.heap.size + 1) (w.heap.size + 1 + 1) W c _ vr _ ag cse.2.1.length ac cse.2.1 kd' n' x' y' b0 b1 b2 n0 e0 n1 e1 n2 e2 cse.2.2 hcs hbxW.m hbxW.f (hnm.kept hoW (Nat.le_refl _) hszW) (hrt.old hoW hszW) hfsW (by omega) (fun x => by have := HC.out x; omega) (by omega) (by omega)
                  refine hb.mono ?_
                  rintro e w' ⟨he, v', h1, h2⟩
                  have hm' : Moved A Td Nm wr w' vr v' := (Moved.refl.no hW).trans h2
                  rw [← hns] at h1
                  refine ⟨he, v', h1.mono (by omega), hmv.trans hm', hbx.moved hfs hm', ?_⟩
                  rw [hns]
                  exact Nat.le_trans (needs_length k _ cse.2.2 _) (by omega)
                have HMS := hide hmv.1.size
                clear hcw hcell hrt hfs hmv hbx hln hss hsl hns hwb ho hnm hk2' hcse
                have i1 : (i : Int) < (t.cases.length : Int) := by omega
                have i0 : (0 : Int) ≤ (i : Int) := by omega
                go_wp2_with fail
                refine (CALL.out _ ?_ ?_).mono ?_
                · repeat (first | exact Fr.refl _ _ | apply Fr.alloc | exact Fr.setNo (by simp))
                · exact heap_alloc_new _ _
                rintro e w2 ⟨rfl, v2, h1, h2, h3, h4⟩
                have H1 := hide h1
                have H2 := hide h2
                have H3 := hide h3
                have H4 := hide h4
                clear h1 h2 h3 h4
                go_wp2_with fail
                go_roundw
                case rel => exact ⟨i + 1, by omega, by go_num, v2, H1.out, H2.out, H3.out, H4.out⟩
                case measure => simp [intOf]; omega
              · have hil : i = t.cases.length := by omega
                subst hil
                rw [List.take_length, ← HFIN.out] at hfs
                rw [sumW_all] at hfs
                have H1 := hide hfs
                have H2 := hide hmv
                clear hfs hmv hbx hln
                go_wp2_with fail
                go_end0
                exact ⟨rfl, vr, H1.out.mono (by have := HWT.out; have := HK2.out; omega), H2.out⟩
    · have hfin : Pu.needs (k + 1) c t acc = Pu.needsCases (Pu.needs k) c t.cases (Pu.needsArgs (Pu.needs k) c t.args acc1) := by rw [HACC.out]; show Pu.needsN _ _ _ _ = _; simp only [Pu.needsN, ← HKD.out, hk2, hk6, if_false]
      have HFIN := hide hfin
      clear hfin
      go_enter Tryz.func123, Tryz.ntmps123
      go_wp2_with fail
      refine (asks_any _ _).mono ?_
      rw [hk1]
      rintro e w0 ⟨rfl, rfl⟩
      go_wp2_with fail
      clear b0
      go_loopw [45] (fun q wr => ∃ i : Nat, i ≤ t.args.length ∧ q = .int .i64 i ∧ ∃ vr, FS B A Td Nm ab tb (K + 1 + 3 * sumW (Pu.wt k) t.args i) wr c (Pu.needsArgs (Pu.needs k) c (t.args.take i) acc1) vr ∧ Moved A Td Nm w wr v vr ∧
        Bx A ab tb Nm w.heap.size (w.heap.size + 1) (w.heap.size + 1 + 1) wr csv ∧ (Pu.needsArgs (Pu.needs k) c (t.args.take i) acc1).length ≤ acc.length + 1 + sumW (Pu.wt k) t.args i) (fun q _ => t.args.length - (intOf q).toNat)
      case atStart => exact ⟨0, Nat.zero_le _, rfl, _, FS1.out, MV1.out, BX1.out, by simp [sumW, Pu.needsArgs]; omega⟩
      case round =>
        clear FS1 MV1 BX1
        obtain ⟨i, hi, rfl, vr, hfs, hmv, hbx, hln⟩ := hrel
        by_cases hlt : i < t.args.length
        · have ho := HS.out.old hmv hB
          obtain ⟨g, o, cap, kd', n', x', y', b0, n0, e0, b1, n1, e1, b2, n2, e2, hav, hcap, hg, hgw, hrt, hcell⟩ := args_at HR.out HE.out i hlt
          injection hav with hav1 _ hav2
          subst hav1 hav2
          have hcw : ∀ j, j < 7 → wr.cell? ⟨g, o + i * 7 + j, none⟩ = [Value.int .i64 kd', .int .i64 n', .string x', .string y', .slice b0 n0 e0, .slice b1 n1 e1, .slice b2 n2 e2][j]? := fun j hj => by
            rw [ho.cell (a := ⟨g, o + i * 7 + j, none⟩) hg]; exact hcell j hj
          have q0 : wr.cell? ⟨g, o + i * 7, none⟩ = some (.int .i64 kd') := hcw 0 (by omega)
          have q1 := hcw 1 (by omega)
          have q2 := hcw 2 (by omega)
          have q3 := hcw 3 (by omega)
          have q4 := hcw 4 (by omega)
          have q5 := hcw 5 (by omega)
          have q6 := hcw 6 (by omega)
          have m0 : wr.cell? ⟨w.heap.size + 1, 0, none⟩ = some (.map (some A)) := by rw [cell_of_heap hbx.m]; rfl
          have f0 : wr.cell? ⟨w.heap.size + 1 + 1, 0, none⟩ = some (Clo ab tb Nm) := by rw [cell_of_heap hbx.f]; rfl
          have hsz2 : w.heap.size + 1 + 1 < wr.heap.size := lt_of_heap hbx.f
          have hsz1 : w.heap.size + 1 < wr.heap.size := by omega
          have hgl : g < wr.heap.size := by omega
          have hss := sumW_succ (Pu.wt k) t.args i hlt
          have hsl := sumW_le (Pu.wt k) t.args (i + 1)
          have hns := needsArgs_succ (Pu.needs k) c t.args i hlt acc1
          have hwb := HWT.out
          have CALL : Hid (∀ W, Fr No wr W → Calls Tryz.prog 123 #[.agg #[.int .i64 kd', .int .i64 n', .string x', .string y', .slice b0 n0 e0, .slice b1 n1 e1, .slice b2 n2 e2], .map (some A), Clo ab tb Nm] W fun e w' => e = .returned (.tuple #[]) ∧
              ∃ v', FS B A Td Nm ab tb (K + 1 + 3 * sumW (Pu.wt k) t.args (i + 1)) w' c (Pu.needsArgs (Pu.needs k) c (t.args.take (i + 1)) acc1) v' ∧ Moved A Td Nm w w' v v' ∧ Bx A ab tb Nm w.heap.size (w.heap.size + 1) (w.heap.size + 1 + 1) w' csv ∧ (Pu.needsArgs (Pu.needs k) c (t.args.take (i + 1)) acc1).length ≤ acc.length + 1 + sumW (Pu.wt k) t.args (i + 1)) := by
            intro W hW
            have hoW : Old B w W := ho.trans (hW.old (by omega) (fun _ _ e => e))
            refine (HN.out B A Td Nm ab tb (K + 1 + 3 * sumW (Pu.wt k) t.args i) W c _ vr _ t.args[i] (hrt.old hoW (Nat.le_trans hmv.1.size hW.size)) (hfs.no hW) (Nat.le_trans hB (Nat.le_trans hmv.1.size hW.size)) (fun x => by have := HC.out x; omega) (by omega) (by omega)).mono ?_
            rintro e w' ⟨he, v', h1, h2⟩
            have hm' : Moved A Td Nm wr w' vr v' := (Moved.refl.no hW).trans h2
            rw [← hns] at h1
            refine ⟨he, v', h1.mono (by omega), hmv.trans hm', hbx.moved hfs hm', ?_⟩
            rw [hns]
            exact Nat.le_trans (needs_length k c t.args[i] _) (by omega)
          have HMS := hide hmv.1.size
          clear hcw hcell hrt hfs hmv hbx hln hss hsl hns hwb ho
          have i1 : (i : Int) < (t.args.length : Int) := by omega
          have i0 : (0 : Int) ≤ (i : Int) := by omega
          go_wp2_with fail
          refine (CALL.out _ ?_).mono ?_
          · repeat (first | exact Fr.refl _ _ | apply Fr.alloc | exact Fr.setNo (by simp))
          rintro e w2 ⟨rfl, v2, h1, h2, h3, h4⟩
          have H1 := hide h1
          have H2 := hide h2
          have H3 := hide h3
          have H4 := hide h4
          clear h1 h2 h3 h4
          go_wp2_with fail
          go_roundw
          case rel => exact ⟨i + 1, by omega, by go_num, v2, H1.out, H2.out, H3.out, H4.out⟩
          case measure => simp [intOf]; omega
        · have hil : i = t.args.length := by omega
          subst hil
          rw [List.take_length] at hfs hln
          rw [sumW_all] at hfs hln
          have b0 := cell_of_heap hbx.t
          rw [HCSV.out] at b0
          have H1 := hide hfs
          have H2 := hide hmv
          have H3 := hide hbx
          have H4 := hide hln
          clear hfs hmv hbx hln
          go_wp2_with fail
          clear b0
          obtain ⟨acc2, hacc2⟩ : ∃ acc2, acc2 = Pu.needsArgs (Pu.needs k) c t.args acc1 := ⟨_, rfl⟩
          obtain ⟨K2, hK2⟩ : ∃ K2, K2 = K + 1 + 3 * (t.args.map (Pu.wt k)).sum := ⟨_, rfl⟩
          rw [← hacc2, ← hK2] at H1
          rw [← hacc2] at H4 HFIN
          have HK2 := hide hK2
          clear hacc2 hK2
          go_loopw [57] (fun q wr => ∃ i : Nat, i ≤ t.cases.length ∧ q = .int .i64 i ∧ ∃ vr, FS B A Td Nm ab tb (K2 + 3 * sumW (fun c => 1 + c.2.1.length + Pu.wt k c.2.2) t.cases i) wr c (Pu.needsCases (Pu.needs k) c (t.cases.take i) acc2) vr ∧ Moved A Td Nm w wr v vr ∧
            Bx A ab tb Nm w.heap.size (w.heap.size + 1) (w.heap.size + 1 + 1) wr csv ∧ (Pu.needsCases (Pu.needs k) c (t.cases.take i) acc2).length ≤ acc.length + 1 + (t.args.map (Pu.wt k)).sum + sumW (fun c => 1 + c.2.1.length + Pu.wt k c.2.2) t.cases i) (fun q _ => t.cases.length - (intOf q).toNat)
          case atStart => exact ⟨0, Nat.zero_le _, rfl, _, H1.out, H2.out, H3.out, H4.out⟩
          case round =>
            clear H1 H2 H3 H4
            obtain ⟨i, hi, rfl, vr, hfs, hmv, hbx, hln⟩ := hrel
            by_cases hlt : i < t.cases.length
            · have ho := HS.out.old hmv hB
              obtain ⟨g, o, cap, ag, an, ac, kd', n', x', y', b0, n0, e0, b1, n1, e1, b2, n2, e2, hav, hcap, hg, hgw, hnm, han, hrt, hcell⟩ := cases_at HQ.out HF.out i hlt
              injection hav with hav1 _ hav2
              subst hav1 hav2
              have hcw : ∀ j, j < 9 → wr.cell? ⟨g, o + i * 9 + j, none⟩ = [Value.int .i64 t.cases[i].1, .slice ag an ac, .int .i64 kd', .int .i64 n', .string x', .string y', .slice b0 n0 e0, .slice b1 n1 e1, .slice b2 n2 e2][j]? := fun j hj => by
                rw [ho.cell (a := ⟨g, o + i * 9 + j, none⟩) hg]; exact hcell j hj
              have q0 : wr.cell? ⟨g, o + i * 9, none⟩ = some (.int .i64 t.cases[i].1) := hcw 0 (by omega)
              have q1 := hcw 1 (by omega)
              have q2 := hcw 2 (by omega)
              have q3 := hcw 3 (by omega)
              have q4 := hcw 4 (by omega)
              have q5 := hcw 5 (by omega)
              have q6 := hcw 6 (by omega)
              have q7 := hcw 7 (by omega)
              have q8 := hcw 8 (by omega)
              have m0 : wr.cell? ⟨w.heap.size + 1, 0, none⟩ = some (.map (some A)) := by rw [cell_of_heap hbx.m]; rfl
              have f0 : wr.cell? ⟨w.heap.size + 1 + 1, 0, none⟩ = some (Clo ab tb Nm) := by rw [cell_of_heap hbx.f]; rfl
              have hsz2 : w.heap.size + 1 + 1 < wr.heap.size := lt_of_heap hbx.f
              have hsz1 : w.heap.size + 1 < wr.heap.size := by omega
              have hgl : g < wr.heap.size := by omega
              have hss := sumW_succ (fun c : Int × List ByteArray × Pu.TT k => 1 + c.2.1.length + Pu.wt k c.2.2) t.cases i hlt
              have hsl := sumW_le (fun c : Int × List ByteArray × Pu.TT k => 1 + c.2.1.length + Pu.wt k c.2.2) t.cases (i + 1)
              have hns := needsCases_succ (Pu.needs k) c t.cases i hlt acc2
              have hwb := HWT.out
              have hk2' := HK2.out
              obtain ⟨cse, hcse⟩ : ∃ cse, cse = t.cases[i] := ⟨_, rfl⟩
              rw [← hcse] at hss hns hnm hrt han q0 hcw
              subst han
              have CALL : Hid (∀ W, Fr No wr W → W.heap[wr.heap.size]? = some (.cells #[.int .i64 cse.1, .slice ag cse.2.1.length ac, .int .i64 kd', .int .i64 n', .string x', .string y', .slice b0 n0 e0, .slice b1 n1 e1, .slice b2 n2 e2] 58 (0, 0)) → Calls Tryz.prog 138 #[.map (some A), .slice ag cse.2.1.length ac, .func (.func 140) #[] #[.pointer (some ⟨wr.heap.size, 0, none⟩), .pointer (some ⟨w.heap.size + 1, 0, none⟩), .pointer (some ⟨w.heap.size + 1 + 1, 0, none⟩)]] W fun e w' => e = .returned (.tuple #[]) ∧
                  ∃ v', FS B A Td Nm ab tb (K2 + 3 * sumW (fun c => 1 + c.2.1.length + Pu.wt k c.2.2) t.cases (i + 1)) w' c (Pu.needsCases (Pu.needs k) c (t.cases.take (i + 1)) acc2) v' ∧ Moved A Td Nm w w' v v' ∧ Bx A ab tb Nm w.heap.size (w.heap.size + 1) (w.heap.size + 1 + 1) w' csv ∧ (Pu.needsCases (Pu.needs k) c (t.cases.take (i + 1)) acc2).length ≤ acc.length + 1 + (t.args.map (Pu.wt k)).sum + sumW (fun c => 1 + c.2.1.length + Pu.wt k c.2.2) t.cases (i + 1)) := by
                intro W hW hcs
                have hoW : Old B w W := ho.trans (hW.old (by omega) (fun _ _ e => e))
                have hszW : w.heap.size ≤ W.heap.size := Nat.le_trans hmv.1.size hW.size
                have hfsW := hfs.no hW
                have hbxW := hbx.no hW
                have hb := case_call k HN.out B A Td Nm ab tb (K2 + 3 * sumW (fun c => 1 + c.2.1.length + Pu.wt k c.2.2) t.cases i) wr.heap.size (w.heap.size + 1) (w.heap.size + 1 + 1) W c _ vr _ ag cse.2.1.length ac cse.2.1 kd' n' x' y' b0 b1 b2 n0 e0 n1 e1 n2 e2 cse.2.2 hcs hbxW.m hbxW.f (hnm.kept hoW (Nat.le_refl _) hszW) (hrt.old hoW hszW) hfsW (by omega) (fun x => by have := HC.out x; omega) (by omega) (by omega)
                refine hb.mono ?_
                rintro e w' ⟨he, v', h1, h2⟩
                have hm' : Moved A Td Nm wr w' vr v' := (Moved.refl.no hW).trans h2
                rw [← hns] at h1
                refine ⟨he, v', h1.mono (by omega), hmv.trans hm', hbx.moved hfs hm', ?_⟩
                rw [hns]
                exact Nat.le_trans (needs_length k _ cse.2.2 _) (by omega)
              have HMS := hide hmv.1.size
              clear hcw hcell hrt hfs hmv hbx hln hss hsl hns hwb ho hnm hk2' hcse
              have i1 : (i : Int) < (t.cases.length : Int) := by omega
              have i0 : (0 : Int) ≤ (i : Int) := by omega
              go_wp2_with fail
              refine (CALL.out _ ?_ ?_).mono ?_
              · repeat (first | exact Fr.refl _ _ | apply Fr.alloc | exact Fr.setNo (by simp))
              · exact heap_alloc_new _ _
              rintro e w2 ⟨rfl, v2, h1, h2, h3, h4⟩
              have H1 := hide h1
              have H2 := hide h2
              have H3 := hide h3
              have H4 := hide h4
              clear h1 h2 h3 h4
              go_wp2_with fail
              go_roundw
              case rel => exact ⟨i + 1, by omega, by go_num, v2, H1.out, H2.out, H3.out, H4.out⟩
              case measure => simp [intOf]; omega
            · have hil : i = t.cases.length := by omega
              subst hil
              rw [List.take_length, ← HFIN.out] at hfs
              rw [sumW_all] at hfs
              have H1 := hide hfs
              have H2 := hide hmv
              clear hfs hmv hbx hln
              go_wp2_with fail
              go_end0
              exact ⟨rfl, vr, H1.out.mono (by have := HWT.out; have := HK2.out; omega), H2.out⟩
end Go.Proofs.YtomahbdidlglfacGreatDoor
