/- 'writeCases', walked. -/
import Derived.Test.YtodolmdiebgmjaaDoorX3
import Derived.Deep.RegionHeld3
namespace Go.Proofs.YtodolmdiebgmjaaDoor
open Go.RowKit

/-- A round of the writing: the builder holds l; all below B, and the round's box, stand. -/
structure Wk (B b : Nat) (l : List UInt8) (w0 : World) (g : Nat) (cs : Array Value) (t : TypeId) (w : World) : Prop where
  bd : Bd B b l w
  pf : Pf B b w0 w
  box : w.heap[g]? = some (.cells cs t (0, 0))

theorem Wk.below {B b : Nat} {l : List UInt8} {w0 : World} {g : Nat} {cs : Array Value} {t : TypeId} {w w' : World} (h : Wk B b l w0 g cs t w) (hB : B ≤ w0.heap.size) (hb : Below w.heap.size w w') : Wk B b l w0 g cs t w' :=
  ⟨h.bd.below hb, h.pf.trans (Pf.of_below hb (Nat.le_trans hB h.pf.below.size)), by rw [hb.block g (Array.getElem?_eq_some_iff.1 h.box).1]; exact h.box⟩

/-- The cells of a case's box. -/
abbrev CaseS (g : Nat) (n : Int) (vv : Value) : World → Prop := fun w => w.cell? ⟨g, 0, none⟩ = some (.int .i64 n) ∧ w.cell? ⟨g, 1, none⟩ = some vv

theorem caseS_of {w : World} {g : Nat} {n : Int} {vv : Value} {c2 c3 c4 c5 c6 c7 c8 : Value} (h : w.heap[g]? = some (.cells #[.int .i64 n, vv, c2, c3, c4, c5, c6, c7, c8] 67 (0, 0))) : CaseS g n vv w :=
  ⟨by rw [cell_of_heap h]; rfl, by rw [cell_of_heap h]; rfl⟩

theorem case_tag {B b : Nat} {l : List UInt8} {w0 : World} {g : Nat} {n : Int} {vv c2 c3 c4 c5 c6 c7 c8 : Value} {W : World} (h : Wk B b l w0 g #[.int .i64 n, vv, c2, c3, c4, c5, c6, c7, c8] 67 W) (hn : Pu.inI n) (he : Env w0) (h3 : 3 ≤ B) (hB : B ≤ w0.heap.size) :
    Calls Tryd.prog 61 #[.int .i64 n] W fun e w' => e = .returned (.string ⟨(Pu.tagB n).toArray⟩) ∧ Wk B b l w0 g #[.int .i64 n, vv, c2, c3, c4, c5, c6, c7, c8] 67 w' ∧ CaseS g n vv w' :=
  (tagged_any n W hn (h.pf.env he h3)).mono fun _ _ ⟨he, hb⟩ => ⟨he, h.below hB hb, caseS_of (h.below hB hb).box⟩
theorem case_vars {B b : Nat} {l : List UInt8} {w0 : World} {g : Nat} {n : Int} {vv c2 c3 c4 c5 c6 c7 c8 : Value} {W : World} {vs : List ByteArray} (h : Wk B b l w0 g #[.int .i64 n, vv, c2, c3, c4, c5, c6, c7, c8] 67 W) (hr : Row (Lt B) w0 9 1 vv vs.length (vs.map .string)) (hl : (Pu.bracketB vs).length ≤ 1000000000) (hB : B ≤ w0.heap.size) :
    Calls Tryd.prog 30 #[vv] W fun e w' => e = .returned (.string ⟨(Pu.bracketB vs).toArray⟩) ∧ Wk B b l w0 g #[.int .i64 n, vv, c2, c3, c4, c5, c6, c7, c8] 67 w' ∧ CaseS g n vv w' :=
  (bracketed_any (Lt B) vv vs W (hr.kept h.pf.stays) hl).mono fun _ _ ⟨he, hb⟩ => ⟨he, h.below hB hb, caseS_of (h.below hB hb).box⟩
theorem case_write {B b : Nat} {l : List UInt8} {w0 : World} {g : Nat} {n : Int} {vv c2 c3 c4 c5 c6 c7 c8 : Value} {W : World} (x : ByteArray) (h : Wk B b l w0 g #[.int .i64 n, vv, c2, c3, c4, c5, c6, c7, c8] 67 W) (hg : g ≠ b) (hl : l.length + x.size ≤ 1000000000) (hB : B ≤ w0.heap.size) :
    Calls Tryd.prog 29 #[.pointer (some ⟨b, 0, none⟩), .string x] W fun e w' => (∃ r, e = .returned r) ∧ Wk B b (l ++ x.data.toList) w0 g #[.int .i64 n, vv, c2, c3, c4, c5, c6, c7, c8] 67 w' ∧ CaseS g n vv w' :=
  (write_any B b l x W h.bd hl (Nat.le_trans hB h.pf.below.size)).mono fun _ _ ⟨he, hb, hp⟩ => ⟨he, ⟨hb, h.pf.trans hp, hp.block h.box hg (by decide)⟩, caseS_of (hp.block h.box hg (by decide))⟩

theorem casesB_take {α : Type} (S : α → List UInt8) (l : List (Int × List ByteArray × α)) (i : Nat) (a : Int × List ByteArray × α) (h : l[i]? = some a) : Pu.casesB S (l.take (i + 1)) = Pu.casesB S (l.take i) ++ Pu.caseB S a := by
  have hi : i < l.length := (List.getElem?_eq_some_iff.1 h).1
  rw [List.take_succ_eq_append_getElem hi]
  have : l[i] = a := by have := List.getElem?_eq_getElem hi; rw [this] at h; injection h
  simp [Pu.casesB, this]
theorem casesB_le {α : Type} (S : α → List UInt8) (l : List (Int × List ByteArray × α)) (i : Nat) : (Pu.casesB S (l.take i)).length ≤ (Pu.casesB S l).length := by
  have e : Pu.casesB S l = Pu.casesB S (l.take i) ++ Pu.casesB S (l.drop i) := by
    unfold Pu.casesB; rw [← List.flatten_append, ← List.map_append, List.take_append_drop]
  rw [e, List.length_append]; omega

set_option maxHeartbeats 1000000 in
theorem writeCases_any (k : Nat) (hW : WriteC k) (B b : Nat) (l : List UInt8) (w : World) (a2 : Option Addr) (n2 c2 : Nat) (cs : List (Int × List ByteArray × Pu.TT k)) (ccs : List Value)
    (h : Bd B b l w) (hB : B ≤ w.heap.size) (he : Env w) (h3 : 3 ≤ B)
    (hrow : Row (Lt B) w 67 9 (.slice a2 n2 c2) cs.length ccs) (heach : Each 9 (RC (RT k (Lt B) w) (Lt B) w) ccs cs) (hgood : ∀ c, c ∈ cs → Pu.inI c.1 ∧ Pu.Good k c.2.2)
    (hl : l.length + (Pu.casesB (Pu.showT k) cs).length ≤ 1000000000) :
    Calls Tryd.prog 52 #[.pointer (some ⟨b, 0, none⟩), .slice a2 n2 c2] w fun e w' => e = .returned (.tuple #[]) ∧ Bd B b (l ++ Pu.casesB (Pu.showT k) cs) w' ∧ Pf B b w w' := by
  have hn2 : n2 = cs.length := by obtain ⟨a, c, e⟩ := hrow.form; injection e
  subst hn2
  have H := hide h
  have hb := h.ge
  have HE := hide he
  have HR := hide hrow
  have HC := hide heach
  have HG := hide hgood
  have HW := hide hW
  clear h he hrow heach hgood hW
  go_enter Tryd.func52, Tryd.ntmps52
  go_wp2_with fail
  go_loopw [8] (fun v wr => ∃ i : Nat, i ≤ cs.length ∧ v = .int .i64 i ∧ Bd B b (l ++ Pu.casesB (Pu.showT k) (cs.take i)) wr ∧ Pf B b w wr) (fun v _ => cs.length - (intOf v).toNat)
  case atStart =>
    refine ⟨0, Nat.zero_le _, rfl, ?_, Pf.refl _ _ _⟩
    simpa [Pu.casesB] using H.out
  case round =>
    obtain ⟨i, hi, rfl, hbd, hp⟩ := hrel
    have HBr := hide hbd
    have HPr := hide hp
    clear hbd hp
    by_cases hlt : i < cs.length
    · obtain ⟨g, cap, hv, hg, hS, hc1, hc2, hcell⟩ := HR.out.cells (by omega)
      injection hv with hv1 _ hv2
      subst hv1 hv2
      obtain ⟨a, ha⟩ : ∃ a, cs[i]? = some a := ⟨_, List.getElem?_eq_getElem hlt⟩
      obtain ⟨ck, hck, hrc, hxs⟩ := HC.out.get i a ha
      obtain ⟨vv, bb, rfl, hvrow, hb7, hrt⟩ := hrc
      obtain ⟨kd', n', x', a1', n1', c1', a2', n2', c2', rfl⟩ := hrt.form
      obtain ⟨av, cv, rfl⟩ := hvrow.form
      have hS : g < B := hS
      have hcw : ∀ j, j < 9 → wr.cell? ⟨g, i * 9 + j, none⟩ = [Value.int .i64 a.1, .slice av a.2.1.length cv, .int .i64 kd', .int .i64 n', .string x', .string ⟨#[]⟩, .slice none 0 0, .slice a1' n1' c1', .slice a2' n2' c2'][j]? := by
        intro j hj
        rw [HPr.out.below.cell (p := ⟨g, i * 9 + j, none⟩) hS, hcell _ (by omega), hxs j hj]
      have e0 : wr.cell? ⟨g, i * 9, none⟩ = some (.int .i64 a.1) := hcw 0 (by omega)
      have e1 := hcw 1 (by omega)
      have e2 := hcw 2 (by omega)
      have e3 := hcw 3 (by omega)
      have e4 := hcw 4 (by omega)
      have e5 := hcw 5 (by omega)
      have e6 := hcw 6 (by omega)
      have e7 := hcw 7 (by omega)
      have e8 := hcw 8 (by omega)
      have HT := hide hrt
      have HV := hide hvrow
      clear hcell hxs hcw hrt hvrow hck hb7
      have hsr := HPr.out.below.size
      have hbr := HBr.out.ge
      have hB' : B ≤ wr.heap.size := by omega
      unfold maxLen at hc2
      have hm1 := casesB_le (Pu.showT k) cs (i + 1)
      have hm2 := casesB_take (Pu.showT k) cs i a ha
      have HM := hide hm2
      rw [hm2] at hm1
      simp only [Pu.caseB, List.length_append, List.length_cons, List.length_nil] at hm1
      have HGa := hide (HG.out a (List.mem_of_getElem? ha))
      clear hm2 ha
      go_wp2_with fail
      clear e0 e1 e2 e3 e4 e5 e6 e7 e8
      have hw0 : Wk B b (l ++ Pu.casesB (Pu.showT k) (cs.take i)) w wr.heap.size #[.int .i64 a.1, .slice av a.2.1.length cv, .int .i64 kd', .int .i64 n', .string x', .string ⟨#[]⟩, .slice none 0 0, .slice a1' n1' c1', .slice a2' n2' c2'] 67 (wr.alloc (.cells #[.int .i64 a.1, .slice av a.2.1.length cv, .int .i64 kd', .int .i64 n', .string x', .string ⟨#[]⟩, .slice none 0 0, .slice a1' n1' c1', .slice a2' n2' c2'] 67)).drew :=
        ⟨(HBr.out.alloc _).below ⟨rfl, rfl, rfl, Nat.le_refl _, fun _ _ => rfl⟩, (HPr.out.alloc hB' _).drew, heap_alloc_new _ _⟩
      have hgb : wr.heap.size ≠ b := by omega
      have hlb : (Pu.bracketB a.2.1).length ≤ 1000000000 := by omega
      have hlt1 : (Pu.tagB a.1).length ≤ 1000000000 := by omega
      have hll : (l ++ Pu.casesB (Pu.showT k) (cs.take i)).length = l.length + (Pu.casesB (Pu.showT k) (cs.take i)).length := List.length_append
      have A61 := hide (fun W (hw : Wk B b (l ++ Pu.casesB (Pu.showT k) (cs.take i)) w wr.heap.size #[.int .i64 a.1, .slice av a.2.1.length cv, .int .i64 kd', .int .i64 n', .string x', .string ⟨#[]⟩, .slice none 0 0, .slice a1' n1' c1', .slice a2' n2' c2'] 67 W) => case_tag hw HGa.out.1 HE.out h3 hB)
      have A30 := hide (fun W (hw : Wk B b (l ++ Pu.casesB (Pu.showT k) (cs.take i)) w wr.heap.size #[.int .i64 a.1, .slice av a.2.1.length cv, .int .i64 kd', .int .i64 n', .string x', .string ⟨#[]⟩, .slice none 0 0, .slice a1' n1' c1', .slice a2' n2' c2'] 67 W) => case_vars hw HV.out hlb hB)
      have A29 := hide (fun W (hw : Wk B b (l ++ Pu.casesB (Pu.showT k) (cs.take i)) w wr.heap.size #[.int .i64 a.1, .slice av a.2.1.length cv, .int .i64 kd', .int .i64 n', .string x', .string ⟨#[]⟩, .slice none 0 0, .slice a1' n1' c1', .slice a2' n2' c2'] 67 W) => case_write (⟨#[32, 40]⟩ ++ ⟨(Pu.tagB a.1).toArray⟩ ++ ⟨#[32]⟩ ++ ⟨(Pu.bracketB a.2.1).toArray⟩ ++ ⟨#[32]⟩) hw hgb (by
        rw [hll]; simp only [ByteArray.size_append]; show _ + (2 + (Pu.tagB a.1).toArray.size + 1 + (Pu.bracketB a.2.1).toArray.size + 1) ≤ _; simp only [List.size_toArray]; omega) hB)
      clear hll
      have q1 : ¬ 9223372036854775807 < 2 + (Pu.tagB a.1).length := by omega
      have q2 : ¬ 9223372036854775807 < 2 + (Pu.tagB a.1).length + 1 := by omega
      have q3 : ¬ 9223372036854775807 < 2 + (Pu.tagB a.1).length + 1 + (Pu.bracketB a.2.1).length := by omega
      have q4 : ¬ 9223372036854775807 < 2 + (Pu.tagB a.1).length + 1 + (Pu.bracketB a.2.1).length + 1 := by omega
      go_region_held3 (fun w' => w'.cell? ⟨wr.heap.size, 0, none⟩ = some (.int .i64 a.1) ∧ w'.cell? ⟨wr.heap.size, 1, none⟩ = some (.slice av a.2.1.length cv)) (first | assumption | go_keep)
        (first
          | (go_at_call 61; refine (A61.out _ ?_).mono ?_; assumption; rintro e w1 ⟨rfl, hw1, hS1⟩)
          | (go_at_call 30; refine (A30.out _ ?_).mono ?_; assumption; rintro e w1 ⟨rfl, hw1, hS1⟩)
          | (go_at_call 29; refine (A29.out _ ?_).mono ?_; assumption; rintro e w1 ⟨⟨r, rfl⟩, hw1, hS1⟩))
      all_goals
        clear q1 q2 q3 q4
        have HW1 := hide hw1
        clear hS1
        have c9 := cell_of_heap HW1.out.box
        go_wp2_with fail
        clear c9
        refine (HW.out B b _ _ _ a.2.2 HW1.out.bd (RT.kept HW1.out.pf.stays HT.out) HGa.out.2 (HW1.out.pf.env HE.out h3) h3 (Nat.le_trans hB HW1.out.pf.below.size) ?_).mono ?_
        · simp only [List.length_append, ByteArray.data_append, Array.toList_append, List.length_cons, List.length_nil]; omega
        rintro e w5 ⟨rfl, hb5, hp5⟩
        have HB5 := hide hb5
        have HP5 := hide hp5
        clear hb5 hp5
        go_wp2_with fail
        refine (write_any B b _ ⟨#[41]⟩ _ HB5.out ?_ (Nat.le_trans hB (Nat.le_trans HW1.out.pf.below.size HP5.out.below.size))).mono ?_
        · show _ + 1 ≤ _
          simp only [List.length_append, ByteArray.data_append, Array.toList_append, List.length_cons, List.length_nil]; omega
        rintro e w6 ⟨⟨r6, rfl⟩, hb6, hp6⟩
        have HB6 := hide hb6
        have HP6 := hide hp6
        clear hb6 hp6
        go_wp2_with fail
        go_roundw
        case rel =>
          refine ⟨i + 1, by omega, by go_num, ?_, (HW1.out.pf.trans HP5.out).trans HP6.out⟩
          have := HB6.out
          rw [HM.out]
          simpa [Pu.caseB] using this
        case measure => simp [intOf]; omega
    · have hi' : i = cs.length := by omega
      subst hi'
      go_wp2_with fail
      go_end0
      have := HBr.out
      rw [List.take_length] at this
      exact ⟨rfl, this, HPr.out⟩

end Go.Proofs.YtodolmdiebgmjaaDoor
