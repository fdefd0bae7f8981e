/- 'Print' and 'Term', walked. -/
import Derived.Test.YtodolmdiebgmjaaDoorX5
namespace Go.Proofs.YtodolmdiebgmjaaDoor
open Go.RowKit

/-- The cells of a function's box. -/
abbrev FnS (g : Nat) (x : ByteArray) (vv : Value) : World → Prop := fun w => w.cell? ⟨g, 0, none⟩ = some (.string x) ∧ w.cell? ⟨g, 1, none⟩ = some vv

theorem fnS_of {w : World} {g : Nat} {x : ByteArray} {vv : Value} {c2 c3 c4 c5 c6 c7 c8 : Value} (h : w.heap[g]? = some (.cells #[.string x, vv, c2, c3, c4, c5, c6, c7, c8] 35 (0, 0))) : FnS g x vv w :=
  ⟨by rw [cell_of_heap h]; rfl, by rw [cell_of_heap h]; rfl⟩
theorem fn_vars {B b : Nat} {l : List UInt8} {w0 : World} {g : Nat} {x : ByteArray} {vv c2 c3 c4 c5 c6 c7 c8 : Value} {W : World} {vs : List ByteArray} (h : Wk B b l w0 g #[.string x, vv, c2, c3, c4, c5, c6, c7, c8] 35 W) (hr : Row (Lt B) w0 9 1 vv vs.length (vs.map .string)) (hl : (Pu.bracketB vs).length ≤ 1000000000) (hB : B ≤ w0.heap.size) :
    Calls Tryd.prog 30 #[vv] W fun e w' => e = .returned (.string ⟨(Pu.bracketB vs).toArray⟩) ∧ Wk B b l w0 g #[.string x, vv, c2, c3, c4, c5, c6, c7, c8] 35 w' ∧ FnS g x vv w' :=
  (bracketed_any (Lt B) vv vs W (hr.kept h.pf.stays) hl).mono fun _ _ ⟨he, hb⟩ => ⟨he, h.below hB hb, fnS_of (h.below hB hb).box⟩
theorem fn_write {B b : Nat} {l : List UInt8} {w0 : World} {g : Nat} {x : ByteArray} {vv c2 c3 c4 c5 c6 c7 c8 : Value} {W : World} (y : ByteArray) (h : Wk B b l w0 g #[.string x, vv, c2, c3, c4, c5, c6, c7, c8] 35 W) (hg : g ≠ b) (hl : l.length + y.size ≤ 1000000000) (hB : B ≤ w0.heap.size) :
    Calls Tryd.prog 29 #[.pointer (some ⟨b, 0, none⟩), .string y] W fun e w' => (∃ r, e = .returned r) ∧ Wk B b (l ++ y.data.toList) w0 g #[.string x, vv, c2, c3, c4, c5, c6, c7, c8] 35 w' ∧ FnS g x vv w' :=
  (write_any B b l y W h.bd hl (Nat.le_trans hB h.pf.below.size)).mono fun _ _ ⟨he, hb, hp⟩ => ⟨he, ⟨hb, h.pf.trans hp, hp.block h.box hg (by decide)⟩, fnS_of (hp.block h.box hg (by decide))⟩

theorem printB_take (l : List (ByteArray × List ByteArray × Pu.TT 26)) (i : Nat) (a : ByteArray × List ByteArray × Pu.TT 26) (h : l[i]? = some a) : Pu.printB (l.take (i + 1)) = Pu.printB (l.take i) ++ Pu.fnB a := by
  have hi : i < l.length := (List.getElem?_eq_some_iff.1 h).1
  rw [List.take_succ_eq_append_getElem hi]
  have : l[i] = a := by have := List.getElem?_eq_getElem hi; rw [this] at h; injection h
  simp [Pu.printB, this]
theorem printB_le (l : List (ByteArray × List ByteArray × Pu.TT 26)) (i : Nat) : (Pu.printB (l.take i)).length ≤ (Pu.printB l).length := by
  have e : Pu.printB l = Pu.printB (l.take i) ++ Pu.printB (l.drop i) := by
    unfold Pu.printB; rw [← List.flatten_append, ← List.map_append, List.take_append_drop]
  rw [e, List.length_append]; omega

/-- A builder that has just been made. -/
theorem Bd.fresh (w : World) : Bd w.heap.size w.heap.size [] (w.alloc (.cells #[.pointer none, .slice none 0 0] 58)) :=
  .inl ⟨Nat.le_refl _, _, heap_alloc_new _ _, World.ownsRow_nil _ _ _ _, by simp [Value.ownBlock]⟩

set_option maxHeartbeats 1000000 in
theorem print_any (a0 : Option Addr) (n0 c0 : Nat) (fs : List (ByteArray × List ByteArray × Pu.TT 26)) (xs : List Value) (w : World)
    (hrow : Row (Lt w.heap.size) w 35 9 (.slice a0 n0 c0) fs.length xs) (heach : Each 9 (RF (Lt w.heap.size) w) xs fs) (hgood : ∀ f, f ∈ fs → Pu.Good 26 f.2.2) (he : Env w) (h3 : 3 ≤ w.heap.size) (hl : (Pu.printB fs).length ≤ 1000000000) :
    Calls Tryd.prog 11 #[.slice a0 n0 c0] w fun e w' => e = .returned (.string ⟨(Pu.printB fs).toArray⟩) ∧ Below w.heap.size w w' := by
  have hn0 : n0 = fs.length := by obtain ⟨a, c, e⟩ := hrow.form; injection e
  subst hn0
  have HE := hide he
  have HR := hide hrow
  have HC := hide heach
  have HG := hide hgood
  clear he hrow heach hgood
  go_enter Tryd.func11, Tryd.ntmps11
  go_wp2_with fail
  go_loopw [8] (fun v wr => ∃ i : Nat, i ≤ fs.length ∧ v = .int .i64 i ∧ Bd w.heap.size w.heap.size (Pu.printB (fs.take i)) wr ∧ Pf w.heap.size w.heap.size w wr) (fun v _ => fs.length - (intOf v).toNat)
  case atStart =>
    refine ⟨0, Nat.zero_le _, rfl, ?_, (Pf.refl _ _ w).alloc (Nat.le_refl _) _⟩
    simpa [Pu.printB] using Bd.fresh w
  case round =>
    obtain ⟨i, hi, rfl, hbd, hp⟩ := hrel
    have HBr := hide hbd
    have HPr := hide hp
    clear hbd hp
    have hsr := HPr.out.below.size
    have hbr := HBr.out.ge
    by_cases hlt : i < fs.length
    · obtain ⟨g, cap, hv, hg, hS, hc1, hc2, hcell⟩ := HR.out.cells (by omega)
      injection hv with hv1 _ hv2
      subst hv1 hv2
      obtain ⟨a, ha⟩ : ∃ a, fs[i]? = some a := ⟨_, List.getElem?_eq_getElem hlt⟩
      obtain ⟨ck, hck, hrc, hxs⟩ := HC.out.get i a ha
      obtain ⟨vv, bb, rfl, hvrow, hb7, hrt⟩ := hrc
      obtain ⟨kd', n', x', a1', n1', c1', a2', n2', c2', rfl⟩ := hrt.form
      obtain ⟨av, cv, rfl⟩ := hvrow.form
      have hcw : ∀ j, j < 9 → wr.cell? ⟨g, i * 9 + j, none⟩ = [Value.string a.1, .slice av a.2.1.length cv, .int .i64 kd', .int .i64 n', .string x', .string ⟨#[]⟩, .slice none 0 0, .slice a1' n1' c1', .slice a2' n2' c2'][j]? := by
        intro j hj
        rw [HPr.out.below.cell (p := ⟨g, i * 9 + j, none⟩) hg, hcell _ (by omega), hxs j hj]
      have e0 : wr.cell? ⟨g, i * 9, none⟩ = some (.string a.1) := hcw 0 (by omega)
      have e1 := hcw 1 (by omega)
      have e2 := hcw 2 (by omega)
      have e3 := hcw 3 (by omega)
      have e4 := hcw 4 (by omega)
      have e5 := hcw 5 (by omega)
      have e6 := hcw 6 (by omega)
      have e7 := hcw 7 (by omega)
      have e8 := hcw 8 (by omega)
      have HT := hide hrt
      have HV := hide hvrow
      clear hcell hxs hcw hrt hvrow hck hb7
      unfold maxLen at hc2
      have hm1 := printB_le fs (i + 1)
      have hm2 := printB_take fs i a ha
      have HM := hide hm2
      rw [hm2] at hm1
      simp only [Pu.fnB, List.length_append, List.length_cons, List.length_nil, len_bytes] at hm1
      have HGa := hide (HG.out a (List.mem_of_getElem? ha))
      clear hm2 ha
      go_wp2_with fail
      clear e0 e1 e2 e3 e4 e5 e6 e7 e8
      have hw0 : Wk w.heap.size w.heap.size (Pu.printB (fs.take i)) w wr.heap.size #[.string a.1, .slice av a.2.1.length cv, .int .i64 kd', .int .i64 n', .string x', .string ⟨#[]⟩, .slice none 0 0, .slice a1' n1' c1', .slice a2' n2' c2'] 35 (wr.alloc (.cells #[.string a.1, .slice av a.2.1.length cv, .int .i64 kd', .int .i64 n', .string x', .string ⟨#[]⟩, .slice none 0 0, .slice a1' n1' c1', .slice a2' n2' c2'] 35)).drew :=
        ⟨(HBr.out.alloc _).below ⟨rfl, rfl, rfl, Nat.le_refl _, fun _ _ => rfl⟩, (HPr.out.alloc (by omega) _).drew, heap_alloc_new _ _⟩
      have hgb : wr.heap.size ≠ w.heap.size := by omega
      have hlb : (Pu.bracketB a.2.1).length ≤ 1000000000 := by omega
      have A30 := hide (fun W (hw : Wk w.heap.size w.heap.size (Pu.printB (fs.take i)) w wr.heap.size #[.string a.1, .slice av a.2.1.length cv, .int .i64 kd', .int .i64 n', .string x', .string ⟨#[]⟩, .slice none 0 0, .slice a1' n1' c1', .slice a2' n2' c2'] 35 W) => fn_vars hw HV.out hlb (Nat.le_refl _))
      have A29 := hide (fun W (hw : Wk w.heap.size w.heap.size (Pu.printB (fs.take i)) w wr.heap.size #[.string a.1, .slice av a.2.1.length cv, .int .i64 kd', .int .i64 n', .string x', .string ⟨#[]⟩, .slice none 0 0, .slice a1' n1' c1', .slice a2' n2' c2'] 35 W) => fn_write (⟨#[40, 102, 110, 32]⟩ ++ a.1 ++ ⟨#[32]⟩ ++ ⟨(Pu.bracketB a.2.1).toArray⟩ ++ ⟨#[32]⟩) hw hgb (by
        simp only [ByteArray.size_append]; show _ + (4 + a.1.size + 1 + (Pu.bracketB a.2.1).toArray.size + 1) ≤ _; simp only [List.size_toArray]; omega) (Nat.le_refl _))
      have q1 : ¬ 9223372036854775807 < 4 + a.1.size := by omega
      have q2 : ¬ 9223372036854775807 < 4 + a.1.size + 1 := by omega
      have q3 : ¬ 9223372036854775807 < 4 + a.1.size + 1 + (Pu.bracketB a.2.1).length := by omega
      have q4 : ¬ 9223372036854775807 < 4 + a.1.size + 1 + (Pu.bracketB a.2.1).length + 1 := by omega
      go_region_held3 (fun w' => w'.cell? ⟨wr.heap.size, 0, none⟩ = some (.string a.1) ∧ w'.cell? ⟨wr.heap.size, 1, none⟩ = some (.slice av a.2.1.length cv)) (first | assumption | go_keep)
        (first
          | (go_at_call 30; refine (A30.out _ ?_).mono ?_; assumption; rintro e w1 ⟨rfl, hw1, hS1⟩)
          | (go_at_call 29; refine (A29.out _ ?_).mono ?_; assumption; rintro e w1 ⟨⟨r, rfl⟩, hw1, hS1⟩))
      all_goals
        clear q1 q2 q3 q4
        have HW1 := hide hw1
        clear hS1
        have c9 := cell_of_heap HW1.out.box
        go_wp2_with fail
        clear c9
        refine (write_all 26 _ _ _ _ _ a.2.2 HW1.out.bd (RT.kept HW1.out.pf.stays HT.out) HGa.out (HW1.out.pf.env HE.out h3) h3 HW1.out.pf.below.size ?_).mono ?_
        · simp only [List.length_append, ByteArray.data_append, Array.toList_append, List.length_cons, List.length_nil, len_bytes]; omega
        rintro e w5 ⟨rfl, hb5, hp5⟩
        have HB5 := hide hb5
        have HP5 := hide hp5
        clear hb5 hp5
        go_wp2_with fail
        refine (write_any _ _ _ ⟨#[41, 10]⟩ _ HB5.out ?_ (Nat.le_trans HW1.out.pf.below.size HP5.out.below.size)).mono ?_
        · show _ + 2 ≤ _
          simp only [List.length_append, ByteArray.data_append, Array.toList_append, List.length_cons, List.length_nil, len_bytes]; omega
        rintro e w6 ⟨⟨r6, rfl⟩, hb6, hp6⟩
        have HB6 := hide hb6
        have HP6 := hide hp6
        clear hb6 hp6
        go_wp2_with fail
        go_roundw
        case rel =>
          refine ⟨i + 1, by omega, by go_num, ?_, (HW1.out.pf.trans HP5.out).trans HP6.out⟩
          have := HB6.out
          rw [HM.out]
          simpa [Pu.fnB] using this
        case measure => simp [intOf]; omega
    · have hi' : i = fs.length := by omega
      subst hi'
      go_wp2_with fail
      refine (Tryd.Builder_String_any w.heap.size w.heap.size _ _ HBr.out hsr).mono ?_
      rintro e w6 ⟨rfl, hb6⟩
      go_wp2_with fail
      go_ret
      exact ⟨rfl, HPr.out.below.trans hb6⟩

set_option maxHeartbeats 400000 in
theorem term_any (cs : List Value) (t : Pu.TT 26) (w : World) (hrt : RT 26 (Lt w.heap.size) w cs t) (hgood : Pu.Good 26 t) (he : Env w) (h3 : 3 ≤ w.heap.size) (hl : (Pu.showT 26 t).length ≤ 1000000000) :
    Calls Tryd.prog 13 #[.agg cs.toArray] w fun e w' => e = .returned (.string ⟨(Pu.showT 26 t).toArray⟩) ∧ Below w.heap.size w w' := by
  obtain ⟨kd', n', x', a1', n1', c1', a2', n2', c2', rfl⟩ := hrt.form
  have HT := hide hrt
  have HE := hide he
  have HG := hide hgood
  clear hrt he hgood
  go_enter Tryd.func13, Tryd.ntmps13
  go_wp2_with fail
  have hbd := Bd.fresh (w.alloc (.cells #[.int .i64 kd', .int .i64 n', .string x', .string ⟨#[]⟩, .slice none 0 0, .slice a1' n1' c1', .slice a2' n2' c2'] 33))
  rw [World.size_alloc] at hbd
  have HBD := hide hbd
  clear hbd
  have hb : Below w.heap.size w ((w.alloc (.cells #[.int .i64 kd', .int .i64 n', .string x', .string ⟨#[]⟩, .slice none 0 0, .slice a1' n1' c1', .slice a2' n2' c2'] 33)).alloc (.cells #[.pointer none, .slice none 0 0] 58)) := ((Below.refl _ w).alloc (Nat.le_refl _) _).alloc (by simp) _
  refine (write_all 26 _ _ [] _ _ t HBD.out (RT.kept (S := Lt w.heap.size) (fun g hg _ => ⟨by show g < w.heap.size + 1; have : g < w.heap.size := hg; omega, hb.block g hg⟩) HT.out) HG.out (HE.out.below hb h3) (by omega) (by simp) (by simpa using hl)).mono ?_
  rintro e w1 ⟨rfl, hb1, hp1⟩
  have HB1 := hide hb1
  have hs1 := hp1.below.size
  simp only [World.size_alloc] at hs1
  go_wp2_with fail
  refine (Tryd.Builder_String_any _ _ _ _ HB1.out (by omega)).mono ?_
  rintro e w2 ⟨rfl, hb2⟩
  go_wp2_with fail
  go_ret
  exact ⟨rfl, (hb.trans (hp1.below.mono (by omega))).trans (hb2.mono (by omega))⟩

end Go.Proofs.YtodolmdiebgmjaaDoor
