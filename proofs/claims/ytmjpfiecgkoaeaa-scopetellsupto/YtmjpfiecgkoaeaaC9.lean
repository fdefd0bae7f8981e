/- The check of a program. -/
import Derived.Test.YtmjpfiecgkoaeaaC8
namespace Go.Proofs.Ytmjpfiecgkoaeaa
open Go.RowKit Go.Maps Go.WideMaps

/-- A list of functions. -/
def Fns (k B : Nat) (w : World) (v : Value) (l : List (Pu.Fn k)) : Prop := ∃ acs, Row B w v l.length acs ∧ Each 9 (RF k B w) acs l
theorem Fns.old {k B : Nat} {w w' : World} {v : Value} {l : List (Pu.Fn k)} (h : Fns k B w v l) (ho : Old B w w') (hs : w.heap.size ≤ w'.heap.size) : Fns k B w' v l := by
  obtain ⟨acs, h1, h2⟩ := h
  exact ⟨acs, h1.old ho hs, h2.mono fun _ _ h => h.kept ho (Nat.le_refl _) hs⟩

theorem fns_at {k B : Nat} {w : World} {av : Value} {l : List (Pu.Fn k)} (h : Fns k B w av l) (i : Nat) (hi : i < l.length) :
    ∃ g o cap ag av0 ac kd n x y a0 n0 c0 a1 n1 c1 a2 n2 c2, av = .slice (some ⟨g, o, none⟩) l.length cap ∧ cap ≤ maxLen ∧ g < B ∧ g < w.heap.size ∧ Names B w (.slice ag av0 ac) l[i].2.1 ∧ av0 = l[i].2.1.length ∧ l[i].1.size ≤ maxLen ∧
      RT k B w [.int .i64 kd, .int .i64 n, .string x, .string y, .slice a0 n0 c0, .slice a1 n1 c1, .slice a2 n2 c2] l[i].2.2 ∧
      ∀ j, j < 9 → w.cell? ⟨g, o + i * 9 + j, none⟩ = [Value.string l[i].1, .slice ag av0 ac, Value.int .i64 kd, .int .i64 n, .string x, .string y, .slice a0 n0 c0, .slice a1 n1 c1, .slice a2 n2 c2][j]? := by
  obtain ⟨acs, hr, he⟩ := h
  obtain ⟨g, o, cap, h1, h2, h3, h4, h5, h6⟩ := hr.at (by omega)
  obtain ⟨ck, hl, ⟨vv, b, rfl, hx, hnm, _, hrt⟩, hxs⟩ := he.get i _ (List.getElem?_eq_getElem hi)
  obtain ⟨kd, n, x, y, a0, n0, c0, a1, n1, c1, a2, n2, c2, rfl⟩ := hrt.form
  obtain ⟨ag, ac, rfl, _⟩ := hnm.1.form
  refine ⟨g, o, cap, ag, _, ac, kd, n, x, y, a0, n0, c0, a1, n1, c1, a2, n2, c2, h1, h3, h4, h5, hnm, rfl, hx, hrt, fun j hj => ?_⟩
  have hlen := he.length
  rw [Nat.add_assoc, h6 _ (by rw [hlen]; have := Nat.mul_le_mul_right 9 (show i + 1 ≤ l.length by omega); omega), hxs j hj]

/-- How much is in a function. -/
def wf {k : Nat} (f : Pu.Fn k) : Nat := 1 + f.2.1.length + Pu.wt k f.2.2

theorem notes_snoc {k : Nat} (l : List (Pu.Fn k)) : ∀ (fns : ByteArray → Option Int) (f : Pu.Fn k), Pu.notes fns (l ++ [f]) = Pu.note (Pu.notes fns l) f := by
  induction l with
  | nil => intro fns f; rfl
  | cons a l ih => intro fns f; simp only [List.cons_append, Pu.notes]; exact ih _ f
theorem notes_succ {k : Nat} (l : List (Pu.Fn k)) (i : Nat) (h : i < l.length) (fns : ByteArray → Option Int) : Pu.notes fns (l.take (i + 1)) = Pu.note (Pu.notes fns (l.take i)) l[i] := by
  rw [List.take_succ_eq_append_getElem h, notes_snoc]
theorem heads_step {k : Nat} (l : List (Pu.Fn k)) (i : Nat) (h : i < l.length) (fns : ByteArray → Option Int) : Pu.heads fns (l.drop i) = if Pu.head fns l[i] = 0 then Pu.heads (Pu.note fns l[i]) (l.drop (i + 1)) else Pu.head fns l[i] := by
  rw [List.drop_eq_getElem_cons h]; rfl
theorem bodies_step {k : Nat} (l : List (Pu.Fn k)) (i : Nat) (h : i < l.length) (fns : ByteArray → Option Int) : Pu.bodies fns (l.drop i) = if Pu.term fns k (Pu.with' (fun _ => 0) l[i].2.1) l[i].2.2 0 = 0 then Pu.bodies fns (l.drop (i + 1)) else Pu.term fns k (Pu.with' (fun _ => 0) l[i].2.1) l[i].2.2 0 := by
  rw [List.drop_eq_getElem_cons h]; rfl

/-- The checker at the start. -/
theorem check_start (w : World) (B : Nat) (hB : B ≤ w.heap.size) : ∃ W, CkS B w.heap.size (w.heap.size + 1) (w.heap.size + 1 + 1) 0 W (fun _ => none) (fun _ => 0) ∧ Fr No w W ∧ W.heap[w.heap.size + 1 + 1 + 1]? = some (.cells (CkA w.heap.size (w.heap.size + 1) (w.heap.size + 1 + 1)) 67 (0, 0)) ∧
    W = (((w.alloc (.cells #[.func (.func 17) #[] #[]] 37)).alloc (.map #[] 0)).alloc (.map #[] 0)).alloc (.cells (CkA w.heap.size (w.heap.size + 1) (w.heap.size + 1 + 1)) 67) := by
  refine ⟨_, ?_, ?_, ?_, rfl⟩
  · have m1 := MapC.made (w.alloc (.cells #[.func (.func 17) #[] #[]] 37))
    rw [World.size_alloc] at m1
    have m2 := MapC.made ((w.alloc (.cells #[.func (.func 17) #[] #[]] 37)).alloc (.map #[] 0))
    rw [World.size_alloc, World.size_alloc] at m2
    exact ⟨fr_heap (fr_heap (fr_heap (heap_alloc_new _ _) ((Fr.refl No _).alloc _) (fun e => e)) ((Fr.refl No _).alloc _) (fun e => e)) ((Fr.refl No _).alloc _) (fun e => e),
      (m1.fr ((Fr.refl No _).alloc _) (fun e => e)).fr ((Fr.refl No _).alloc _) (fun e => e), ⟨_, m2.fr ((Fr.refl No _).alloc _) (fun e => e), fun _ => rfl⟩, by omega, by omega⟩
  · exact ((((Fr.refl No w).alloc _).alloc _).alloc _).alloc _
  · have := heap_alloc_new (((w.alloc (.cells #[.func (.func 17) #[] #[]] 37)).alloc (.map #[] 0)).alloc (.map #[] 0)) (.cells (CkA w.heap.size (w.heap.size + 1) (w.heap.size + 1 + 1)) 67)
    rw [World.size_alloc, World.size_alloc, World.size_alloc] at this
    exact this

set_option maxHeartbeats 4000000 in
theorem check_any (k B : Nat) (w : World) (v : Value) (l : List (Pu.Fn k)) (hl : Fns k B w v l) (hB : B ≤ w.heap.size) (hw : (l.map wf).sum ≤ 1073741824) :
    Calls Try.prog 16 #[v, .func (.func 17) #[] #[]] w fun e w' => e = .returned (.int .i64 (Pu.check l)) ∧ Fr No w w' := by
  have hform : ∃ a cap, v = .slice a l.length cap ∧ l.length ≤ cap ∧ cap ≤ maxLen := by obtain ⟨acs, hr, _⟩ := hl; exact hr.form
  obtain ⟨a0, cp0, rfl, hcp1, hcp2⟩ := hform
  unfold maxLen at hcp2
  have HL := hide hl
  clear hl
  by_cases h1 : l.length < 1
  · have h1' : (l.length : Int) < 1 := by omega
    have hv : Pu.check l = 5 := by unfold Pu.check; rw [if_pos (.inl h1)]
    rw [hv]
    go_enter Try.func16, Try.ntmps16
    go_wp2_with fail
    go_ret
    exact ⟨rfl, Fr.refl No w⟩
  have h1' : ¬ (l.length : Int) < 1 := by omega
  by_cases h6 : 6 < l.length
  · have h6' : 6 < (l.length : Int) := by omega
    have hv : Pu.check l = 5 := by unfold Pu.check; rw [if_pos (.inr h6)]
    rw [hv]
    go_enter Try.func16, Try.ntmps16
    go_wp2_with fail
    go_ret
    exact ⟨rfl, Fr.refl No w⟩
  have h6' : ¬ 6 < (l.length : Int) := by omega
  have hv : Pu.check l = if Pu.heads (fun _ => none) l = 0 then Pu.bodies (Pu.notes (fun _ => none) l) l else Pu.heads (fun _ => none) l := by unfold Pu.check; rw [if_neg (by omega)]
  have HV := hide hv
  clear hv
  have hmm := @run_makeMap Try.prog
  have hsf : ∀ (a : Addr) (fn : Fn) (x y : Array Value) (w : World), (store a (.func fn x y)).run Try.prog w = stored Try.prog w a (.func fn x y) .plain := fun a fn x y w => run_store Try.prog w a _ .plain rfl
  go_enter Try.func16, Try.ntmps16
  go_wp2_with fail
  refine (guarded_any _ _ rfl).mono ?_
  rintro e w0 ⟨rfl, rfl⟩
  go_wp2_with fail
  clear hmm hsf
  obtain ⟨W, hcs0, hf0, hbx0, hWd⟩ := check_start w B hB
  have HCS0 := hide hcs0
  have HF0 := hide hf0
  have HBX0 := hide hbx0
  rw [hWd] at HCS0 HF0 HBX0
  clear hcs0 hf0 hbx0 hWd
  go_loopw [27] (fun q wr => ∃ i : Nat, i ≤ l.length ∧ q = .int .i64 i ∧ Fr No w wr ∧ CkS B w.heap.size (w.heap.size + 1) (w.heap.size + 1 + 1) i wr (Pu.notes (fun _ => none) (l.take i)) (fun _ => 0) ∧ wr.heap[w.heap.size + 1 + 1 + 1]? = some (.cells (CkA w.heap.size (w.heap.size + 1) (w.heap.size + 1 + 1)) 67 (0, 0)) ∧
    Pu.heads (fun _ => none) l = Pu.heads (Pu.notes (fun _ => none) (l.take i)) (l.drop i)) (fun q _ => l.length - (intOf q).toNat)
  case atStart => exact ⟨0, Nat.zero_le _, rfl, HF0.out, HCS0.out, HBX0.out, rfl⟩
  case round =>
    clear HCS0 HF0 HBX0
    obtain ⟨i, hi, rfl, hf, hcs, hbx, hch⟩ := hrel
    have hbs : w.heap.size + 1 + 1 + 1 < wr.heap.size := lt_of_heap hbx
    have ho : Old B w wr := hf.old hB (fun _ _ e => e)
    have hszw := hf.size
    by_cases hlt : i < l.length
    · obtain ⟨g, o, cap, ag, an, ac, kd', n', x', y', b0, n0, e0, b1, n1, e1, b2, n2, e2, hav, hcap, hg, hgw, hnm, han, hxn, hrt, hcell⟩ := fns_at HL.out i hlt
      injection hav with hav1 _ hav2
      subst hav1 hav2
      have hcw : ∀ j, j < 9 → wr.cell? ⟨g, o + i * 9 + j, none⟩ = [Value.string l[i].1, .slice ag an ac, .int .i64 kd', .int .i64 n', .string x', .string y', .slice b0 n0 e0, .slice b1 n1 e1, .slice b2 n2 e2][j]? := fun j hj => by
        rw [ho.cell (a := ⟨g, o + i * 9 + j, none⟩) hg]; exact hcell j hj
      have q0 : wr.cell? ⟨g, o + i * 9, none⟩ = some (.string l[i].1) := hcw 0 (by omega)
      have q1 := hcw 1 (by omega)
      have q2 := hcw 2 (by omega)
      have q3 := hcw 3 (by omega)
      have q4 := hcw 4 (by omega)
      have q5 := hcw 5 (by omega)
      have q6 := hcw 6 (by omega)
      have q7 := hcw 7 (by omega)
      have q8 := hcw 8 (by omega)
      have hgl : g < wr.heap.size := by omega
      have hns := notes_succ l i hlt (fun _ => none)
      have hst := heads_step l i hlt (Pu.notes (fun _ => none) (l.take i))
      obtain ⟨f, hfd⟩ : ∃ f, f = l[i] := ⟨_, rfl⟩
      rw [← hfd] at hns hst hnm hrt han q0 hxn
      subst han
      have k0 := cell_of_heap hbx
      have CH : Hid (∀ u, Fr No wr u → Calls Try.prog 39 #[Ck w.heap.size (w.heap.size + 1) (w.heap.size + 1 + 1), .agg #[.string f.1, .slice ag f.2.1.length ac, .int .i64 kd', .int .i64 n', .string x', .string y', .slice b0 n0 e0, .slice b1 n1 e1, .slice b2 n2 e2]] u fun e w' => e = .returned (.int .i64 (Pu.head (Pu.notes (fun _ => none) (l.take i)) f)) ∧
          CkS B w.heap.size (w.heap.size + 1) (w.heap.size + 1 + 1) (i + 1) w' (noted (Pu.notes (fun _ => none) (l.take i)) f) (fun _ => 0) ∧ Fr No w w' ∧ w'.heap[w.heap.size + 1 + 1 + 1]? = some (.cells (CkA w.heap.size (w.heap.size + 1) (w.heap.size + 1 + 1)) 67 (0, 0))) := by
        intro u hu
        have ou : Old B w u := ho.trans (hu.old (by omega) (fun _ _ e => e))
        have su : w.heap.size ≤ u.heap.size := Nat.le_trans hszw hu.size
        refine (head_any k B _ _ _ i u _ _ f.1 _ f.2.1 _ f.2.2 hxn (hnm.kept ou (Nat.le_refl _) su) (hrt.old ou su) (hcs.no hu) (by omega) (by omega)).mono ?_
        rintro e w' ⟨he, h1, h2⟩
        exact ⟨he, h1, (hf.trans hu).trans' h2 (fun j hj e => by have e : j = w.heap.size + 1 := e; omega), fr_heap (fr_heap hbx hu (fun e => e)) h2 (by show ¬ w.heap.size + 1 + 1 + 1 = w.heap.size + 1; omega)⟩
      have HNS := hide hns
      have HST := hide hst
      have HCH := hide hch
      clear hcw hcell hrt hnm hns hst hch hf hcs hbx ho hfd hxn
      have i1 : (i : Int) < (l.length : Int) := by omega
      have i0 : (0 : Int) ≤ (i : Int) := by omega
      go_wp2_with fail
      refine (CH.out _ ?_).mono ?_
      · exact (Fr.refl No wr).alloc _
      obtain ⟨er, her⟩ : ∃ er, Pu.head (Pu.notes (fun _ => none) (l.take i)) f = er := ⟨_, rfl⟩
      rw [her]
      have HER := hide her
      clear her CH
      rintro e w1 ⟨rfl, hs1, hf1, hb1⟩
      have HS1 := hide hs1
      have HF1 := hide hf1
      have HB1 := hide hb1
      clear hs1 hf1 hb1 k0
      by_cases h0 : er = 0
      · subst h0
        go_wp2_with fail
        go_roundw
        case rel => exact ⟨i + 1, by omega, by go_num, HF1.out, by rw [HNS.out, ← noted_ok HER.out]; exact HS1.out, HB1.out, by rw [HCH.out, HST.out, HER.out, if_pos rfl, HNS.out]⟩
        case measure => simp [intOf]; omega
      · go_wp2_with fail
        go_ret
        have hv : Pu.check l = er := by rw [HV.out, HCH.out, HST.out, HER.out, if_neg h0, if_neg h0]
        rw [hv]
        exact ⟨rfl, HF1.out⟩
    · have hil : i = l.length := by omega
      subst hil
      rw [List.drop_length] at hch
      rw [List.take_length] at hch hcs
      have hh0 : Pu.heads (fun _ => none) l = 0 := by rw [hch]; rfl
      have hv2 : Pu.check l = Pu.bodies (Pu.notes (fun _ => none) l) l := by rw [HV.out, hh0, if_pos rfl]
      have HV2 := hide hv2
      obtain ⟨fns, hfns⟩ : ∃ fns, fns = Pu.notes (fun _ => none) l := ⟨_, rfl⟩
      rw [← hfns] at hcs HV2
      have H1 := hide hf
      have H2 := hide hcs
      have H3 := hide hbx
      clear hf hcs hbx hch hh0 hv2 HV hfns ho
      go_wp2_with fail
      go_loopw [40] (fun q wr => ∃ i : Nat, i ≤ l.length ∧ q = .int .i64 i ∧ Fr No w wr ∧ CkS B w.heap.size (w.heap.size + 1) (w.heap.size + 1 + 1) (l.length + 2 * sumW wf l i) wr fns (fun _ => 0) ∧ wr.heap[w.heap.size + 1 + 1 + 1]? = some (.cells (CkA w.heap.size (w.heap.size + 1) (w.heap.size + 1 + 1)) 67 (0, 0)) ∧
        Pu.bodies fns l = Pu.bodies fns (l.drop i)) (fun q _ => l.length - (intOf q).toNat)
      case atStart => exact ⟨0, Nat.zero_le _, rfl, H1.out, H2.out, H3.out, rfl⟩
      case round =>
        clear H1 H2 H3 hbs hszw
        obtain ⟨i, hi, rfl, hf, hcs, hbx, hch⟩ := hrel
        have hbs : w.heap.size + 1 + 1 + 1 < wr.heap.size := lt_of_heap hbx
        have ho : Old B w wr := hf.old hB (fun _ _ e => e)
        have hszw := hf.size
        by_cases hlt : i < l.length
        · obtain ⟨g, o, cap, ag, an, ac, kd', n', x', y', b0, n0, e0, b1, n1, e1, b2, n2, e2, hav, hcap, hg, hgw, hnm, han, hxn, hrt, hcell⟩ := fns_at HL.out i hlt
          injection hav with hav1 _ hav2
          subst hav1 hav2
          have hcw : ∀ j, j < 9 → wr.cell? ⟨g, o + i * 9 + j, none⟩ = [Value.string l[i].1, .slice ag an ac, .int .i64 kd', .int .i64 n', .string x', .string y', .slice b0 n0 e0, .slice b1 n1 e1, .slice b2 n2 e2][j]? := fun j hj => by
            rw [ho.cell (a := ⟨g, o + i * 9 + j, none⟩) hg]; exact hcell j hj
          have q0 : wr.cell? ⟨g, o + i * 9, none⟩ = some (.string l[i].1) := hcw 0 (by omega)
          have q1 := hcw 1 (by omega)
          have q2 := hcw 2 (by omega)
          have q3 := hcw 3 (by omega)
          have q4 := hcw 4 (by omega)
          have q5 := hcw 5 (by omega)
          have q6 := hcw 6 (by omega)
          have q7 := hcw 7 (by omega)
          have q8 := hcw 8 (by omega)
          have hgl : g < wr.heap.size := by omega
          have hst := bodies_step l i hlt fns
          have hss := sumW_succ wf l i hlt
          have hsl := sumW_le wf l (i + 1)
          obtain ⟨f, hfd⟩ : ∃ f, f = l[i] := ⟨_, rfl⟩
          rw [← hfd] at hst hnm hrt han q0 hxn hss
          subst han
          have k0 := cell_of_heap hbx
          have hwf : wf f = 1 + f.2.1.length + Pu.wt k f.2.2 := rfl
          have CN : Hid (∀ u, Fr No wr u → Calls Try.prog 40 #[Ck w.heap.size (w.heap.size + 1) (w.heap.size + 1 + 1), .slice ag f.2.1.length ac, .agg #[.int .i64 kd', .int .i64 n', .string x', .string y', .slice b0 n0 e0, .slice b1 n1 e1, .slice b2 n2 e2], .int .i64 0] u fun e w' => e = .returned (.int .i64 (Pu.term fns k (Pu.with' (fun _ => 0) f.2.1) f.2.2 0)) ∧
              CkS B w.heap.size (w.heap.size + 1) (w.heap.size + 1 + 1) (l.length + 2 * sumW wf l (i + 1)) w' fns (fun _ => 0) ∧ Fr No w w' ∧ w'.heap[w.heap.size + 1 + 1 + 1]? = some (.cells (CkA w.heap.size (w.heap.size + 1) (w.heap.size + 1 + 1)) 67 (0, 0))) := by
            intro u hu
            have ou : Old B w u := ho.trans (hu.old (by omega) (fun _ _ e => e))
            have su : w.heap.size ≤ u.heap.size := Nat.le_trans hszw hu.size
            refine (under_any k (term_all k) B B _ _ _ (l.length + 2 * sumW wf l i) u fns (fun _ => 0) 0 _ f.2.2 _ f.2.1 (hnm.kept ou (Nat.le_refl _) su) (names_A hcs.hA) (hrt.old ou su) (hcs.no hu) (by omega) (by omega) (by omega) (fun x => by omega) (by omega)).mono ?_
            rintro e w' ⟨he, h1, h2⟩
            exact ⟨he, h1.mono (by omega), (hf.trans hu).trans' h2 (fun j hj e => by have e : j = w.heap.size + 1 + 1 := e; omega), fr_heap (fr_heap hbx hu (fun e => e)) h2 (by show ¬ w.heap.size + 1 + 1 + 1 = w.heap.size + 1 + 1; omega)⟩
          have HST := hide hst
          have HCH := hide hch
          clear hcw hcell hrt hnm hst hch hf hcs hbx ho hfd hxn hss hsl hwf
          have i1 : (i : Int) < (l.length : Int) := by omega
          have i0 : (0 : Int) ≤ (i : Int) := by omega
          go_wp2_with fail
          refine (CN.out _ ?_).mono ?_
          · exact (Fr.refl No wr).alloc _
          obtain ⟨er, her⟩ : ∃ er, Pu.term fns k (Pu.with' (fun _ => 0) f.2.1) f.2.2 0 = er := ⟨_, rfl⟩
          rw [her]
          have HER := hide her
          clear her CN
          rintro e w1 ⟨rfl, hs1, hf1, hb1⟩
          have HS1 := hide hs1
          have HF1 := hide hf1
          have HB1 := hide hb1
          clear hs1 hf1 hb1 k0
          by_cases h0 : er = 0
          · subst h0
            go_wp2_with fail
            go_roundw
            case rel => exact ⟨i + 1, by omega, by go_num, HF1.out, HS1.out, HB1.out, by rw [HCH.out, HST.out, HER.out, if_pos rfl]⟩
            case measure => simp [intOf]; omega
          · go_wp2_with fail
            go_ret
            have hv : Pu.check l = er := by rw [HV2.out, HCH.out, HST.out, HER.out, if_neg h0]
            rw [hv]
            exact ⟨rfl, HF1.out⟩
        · have hil : i = l.length := by omega
          subst hil
          rw [List.drop_length] at hch
          have HF := hide hf
          have HCH := hide hch
          clear hf hcs hbx hch ho
          go_wp2_with fail
          go_ret
          have hv : Pu.check l = 0 := by rw [HV2.out, HCH.out]; rfl
          rw [hv]
          exact ⟨rfl, HF.out⟩
end Go.Proofs.Ytmjpfiecgkoaeaa
