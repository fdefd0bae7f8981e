/- 'writeTerm' at all levels. -/
import Derived.Test.YtodolmdiebgmjaaDoorX4
namespace Go.Proofs.YtodolmdiebgmjaaDoor
open Go.RowKit

-- a match
set_option maxHeartbeats 1000000 in
set_option maxRecDepth 100000 in
theorem write_match (k : Nat) (hW : WriteC k) (B b : Nat) (l : List UInt8) (w : World) (kd n : Int) (x : ByteArray) (a1 : Option Addr) (n1 c1 : Nat) (a2 : Option Addr) (n2 c2 : Nat) (hd : List UInt8) (args : List (Pu.TT k)) (acs : List Value) (cs : List (Int × List ByteArray × Pu.TT k)) (ccs : List Value)
    (h : Bd B b l w) (hB : B ≤ w.heap.size) (he : Env w) (h3 : 3 ≤ B) (k1 : (kd == 1) = false) (k2 : (kd == 2) = false) (k7 : (kd == 7) = true)
    (hH : HeadC #[.int .i64 kd, .int .i64 n, .string x, .string ⟨#[]⟩, .slice none 0 0, .slice a1 n1 c1, .slice a2 n2 c2] hd)
    (hrow : Row (Lt B) w 33 7 (.slice a1 n1 c1) args.length acs) (heach : Each 7 (RT k (Lt B) w) acs args) (hgood : ∀ a, a ∈ args → Pu.Good k a)
    (hrow2 : Row (Lt B) w 67 9 (.slice a2 n2 c2) cs.length ccs) (heach2 : Each 9 (RC (RT k (Lt B) w) (Lt B) w) ccs cs) (hgood2 : ∀ c, c ∈ cs → Pu.inI c.1 ∧ Pu.Good k c.2.2)
    (hl : l.length + (40 :: hd ++ (Pu.argsB (Pu.showT k) args ++ (Pu.casesB (Pu.showT k) cs ++ [41]))).length ≤ 1000000000) :
    Calls Tryd.prog 31 #[.pointer (some ⟨b, 0, none⟩), .agg #[.int .i64 kd, .int .i64 n, .string x, .string ⟨#[]⟩, .slice none 0 0, .slice a1 n1 c1, .slice a2 n2 c2]] w fun e w' => e = .returned (.tuple #[]) ∧ Bd B b (l ++ (40 :: hd ++ (Pu.argsB (Pu.showT k) args ++ (Pu.casesB (Pu.showT k) cs ++ [41])))) w' ∧ Pf B b w w' := by
  have hn1 : n1 = args.length := by obtain ⟨a, c, e⟩ := hrow.form; injection e
  subst hn1
  simp only [List.length_cons, List.length_append, List.length_nil] at hl
  have H := hide h
  have hb := h.ge
  have HE := hide he
  have HH := hide hH
  have HR := hide hrow
  have HC := hide heach
  have HG := hide hgood
  have HW := hide hW
  have HR2 := hide hrow2
  have HC2 := hide heach2
  have HG2 := hide hgood2
  clear h he hH hrow heach hgood hW hrow2 heach2 hgood2
  go_enter Tryd.func31, Tryd.ntmps31
  go_wp2_with fail
  refine (HH.out _ (HE.out.below ((Below.refl B w).alloc hB _) h3) (by simp; omega)).mono ?_
  rintro e w1 ⟨rfl, hb1⟩
  have hs1 := hb1.size
  rw [World.size_alloc] at hs1
  have hd1 : w1.heap[w.heap.size]? = some (.cells #[.int .i64 kd, .int .i64 n, .string x, .string ⟨#[]⟩, .slice none 0 0, .slice a1 args.length c1, .slice a2 n2 c2] 33 (0, 0)) := by
    rw [hb1.block w.heap.size (by simp)]; exact heap_alloc_new _ _
  have HB1 := hide ((H.out.alloc (.cells #[.int .i64 kd, .int .i64 n, .string x, .string ⟨#[]⟩, .slice none 0 0, .slice a1 args.length c1, .slice a2 n2 c2] 33)).below hb1)
  have HP1 := hide (((Pf.refl B b w).alloc hB _).trans (Pf.of_below hb1 (by simp; omega)))
  have HD1 := hide hd1
  clear hb1 hd1
  go_wp2_with fail
  refine (write_any B b l ⟨(40 :: hd).toArray⟩ _ HB1.out (by show l.length + (40 :: hd).toArray.size ≤ _; simp only [List.size_toArray, List.length_cons]; omega) (by omega)).mono ?_
  rintro e w2 ⟨⟨r, rfl⟩, hbd, hp⟩
  have HB2 := hide hbd
  have HP2 := hide (HP1.out.trans hp)
  have HD2 := hide (hp.block HD1.out (by omega) (by decide))
  clear hbd hp
  have c2' := cell_of_heap HD2.out
  go_wp2_with fail
  go_loopw [39] (fun v wr => ∃ i : Nat, i ≤ args.length ∧ v = .int .i64 i ∧ Bd B b (l ++ (40 :: hd) ++ Pu.argsB (Pu.showT k) (args.take i)) wr ∧ Pf B b w wr ∧
    wr.heap[w.heap.size]? = some (.cells #[.int .i64 kd, .int .i64 n, .string x, .string ⟨#[]⟩, .slice none 0 0, .slice a1 args.length c1, .slice a2 n2 c2] 33 (0, 0))) (fun v _ => args.length - (intOf v).toNat)
  case atStart =>
    refine ⟨0, Nat.zero_le _, rfl, ?_, HP2.out, HD2.out⟩
    have := HB2.out
    simpa [Pu.argsB] using this
  case round =>
    obtain ⟨i, hi, rfl, hbd, hp, hdd⟩ := hrel
    have HBr := hide hbd
    have HPr := hide hp
    have HDr := hide hdd
    clear hbd hp hdd c2'
    by_cases hlt : i < args.length
    · obtain ⟨g, cap, hv, hg, hS, hc1, hc2, hcell⟩ := HR.out.cells (by omega)
      injection hv with hv1 _ hv2
      subst hv1 hv2
      obtain ⟨a, ha⟩ : ∃ a, args[i]? = some a := ⟨_, List.getElem?_eq_getElem hlt⟩
      obtain ⟨ck, hck, hrt, hxs⟩ := HC.out.get i a ha
      obtain ⟨kd', n', x', a1', n1', c1', a2', n2', c2', rfl⟩ := hrt.form
      have hS : g < B := hS
      have hcw : ∀ j, j < 7 → wr.cell? ⟨g, i * 7 + j, none⟩ = [Value.int .i64 kd', .int .i64 n', .string x', .string ⟨#[]⟩, .slice none 0 0, .slice a1' n1' c1', .slice a2' n2' c2'][j]? := by
        intro j hj
        rw [HPr.out.below.cell (p := ⟨g, i * 7 + j, none⟩) hS, hcell _ (by omega), hxs j hj]
      have e0 : wr.cell? ⟨g, i * 7, none⟩ = some (.int .i64 kd') := hcw 0 (by omega)
      have e1 := hcw 1 (by omega)
      have e2 := hcw 2 (by omega)
      have e3 := hcw 3 (by omega)
      have e4 := hcw 4 (by omega)
      have e5 := hcw 5 (by omega)
      have e6 := hcw 6 (by omega)
      have HT := hide hrt
      clear hcell hxs hcw hrt
      have hsr := HPr.out.below.size
      have hbr := HBr.out.ge
      have hB' : B ≤ wr.heap.size := by omega
      unfold maxLen at hc2
      have hm1 := argsB_le (Pu.showT k) args (i + 1)
      have hm2 := argsB_take (Pu.showT k) args i a ha
      have HM := hide hm2
      rw [hm2] at hm1
      simp only [List.length_append, List.length_cons] at hm1
      have HGa := hide (HG.out a (List.mem_of_getElem? ha))
      have HI := hide ha
      clear hm2 ha
      go_wp2_with fail
      refine (write_any B b _ ⟨#[32]⟩ _ (HBr.out.alloc _) (by show _ + 1 ≤ _; simp only [List.length_append, List.length_cons]; omega) (by simp; omega)).mono ?_
      rintro e w4 ⟨⟨r4, rfl⟩, hb4, hp4⟩
      have hd4 := hp4.block (heap_alloc_new wr _) (by omega) (by decide)
      have HB4 := hide hb4
      have HP4 := hide (((Pf.refl B b wr).alloc hB' _).trans hp4)
      have c4 := cell_of_heap hd4
      have hs4 := HP4.out.below.size
      clear hb4 hp4 hd4 e0 e1 e2 e3 e4 e5 e6
      go_wp2_with fail
      clear c4
      refine (HW.out B b _ _ _ a HB4.out (RT.kept (HPr.out.trans HP4.out).stays HT.out) HGa.out ((HPr.out.trans HP4.out).env HE.out h3) h3 (by omega) (by simp only [List.length_append, List.length_cons]; show _ + 1 + _ ≤ _; omega)).mono ?_
      rintro e w5 ⟨rfl, hb5, hp5⟩
      have HB5 := hide hb5
      have HP5 := hide hp5
      clear hb5 hp5
      go_wp2_with fail
      go_roundw
      case rel =>
        refine ⟨i + 1, by omega, by go_num, ?_, (HPr.out.trans HP4.out).trans HP5.out, (HP4.out.trans HP5.out).block HDr.out (by omega) (by decide)⟩
        have := HB5.out
        rw [HM.out]
        simpa using this
      case measure => simp [intOf]; omega
    · have hi' : i = args.length := by omega
      subst hi'
      have c5 := cell_of_heap HDr.out
      have hsr := HPr.out.below.size
      have hst := HPr.out.stays
      go_wp2_with fail
      refine (writeCases_any k HW.out B b _ _ a2 n2 c2 cs ccs HBr.out (by omega) (HPr.out.env HE.out h3) h3 (HR2.out.kept hst) (HC2.out.mono fun c t ht => RC.kept hst (fun _ _ hc => RT.kept hst hc) ht) HG2.out ?_).mono ?_
      · rw [List.take_length]; simp only [List.length_append, List.length_cons]; omega
      rintro e w7 ⟨rfl, hb7, hp7⟩
      have HB7 := hide hb7
      have HP7 := hide hp7
      clear hb7 hp7 c5
      go_wp2_with fail
      refine (write_any B b _ ⟨#[41]⟩ _ HB7.out ?_ (Nat.le_trans (by omega : B ≤ wr.heap.size) HP7.out.below.size)).mono ?_
      · rw [List.take_length]; show _ + 1 ≤ _; simp only [List.length_append, List.length_cons]; omega
      rintro e w6 ⟨⟨r6, rfl⟩, hb6, hp6⟩
      go_wp2_with fail
      go_end0
      refine ⟨rfl, ?_, (HPr.out.trans HP7.out).trans hp6⟩
      rw [List.take_length] at hb6
      simpa using hb6

theorem show_name {α : Type} (S : α → List UInt8) (n : Int) (x : ByteArray) (args : List α) (cl : List (Int × List ByteArray × α)) : Pu.showN S ⟨1, n, x, args, cl⟩ = x.data.toList := by simp [Pu.showN]
theorem show_num {α : Type} (S : α → List UInt8) (n : Int) (x : ByteArray) (args : List α) (cl : List (Int × List ByteArray × α)) : Pu.showN S ⟨2, n, x, args, cl⟩ = Lib.itoa n := by simp [Pu.showN]
theorem show_node {α : Type} (S : α → List UInt8) (kd n : Int) (x : ByteArray) (args : List α) (cl : List (Int × List ByteArray × α)) (h1 : ¬ kd = 1) (h2 : ¬ kd = 2) (h7 : ¬ kd = 7) :
    Pu.showN S ⟨kd, n, x, args, cl⟩ = 40 :: Pu.headB ⟨kd, n, x, args, cl⟩ ++ (Pu.argsB S args ++ [41]) := by simp [Pu.showN, h1, h2, h7]
theorem show_match {α : Type} (S : α → List UInt8) (n : Int) (x : ByteArray) (args : List α) (cl : List (Int × List ByteArray × α)) :
    Pu.showN S ⟨7, n, x, args, cl⟩ = 40 :: Pu.headB ⟨7, n, x, args, cl⟩ ++ (Pu.argsB S args ++ (Pu.casesB S cl ++ [41])) := by simp [Pu.showN]

theorem write_all : ∀ k, WriteC k
  | 0 => fun _ _ _ _ _ _ _ hrt => hrt.elim
  | k + 1 => by
    have hW := write_all k
    intro B b l w cs t h hrt hgood he h3 hB hl
    obtain ⟨av, cv, acs, ccs, hcs, hrow, heach, hrow2, heach2⟩ := hrt
    obtain ⟨a1, c1, rfl⟩ := hrow.form
    obtain ⟨a2, c2, rfl⟩ := hrow2.form
    obtain ⟨hk, h5, hn, hga, hgc⟩ := hgood
    subst hcs
    have e : Pu.showT (k + 1) t = Pu.showN (Pu.showT k) t := rfl
    rw [e] at hl ⊢
    clear e
    cases t with
    | mk kd n x args cl =>
      dsimp only at *
      rcases hk with rfl | rfl | rfl | rfl | rfl | rfl | rfl
      · rw [show_name] at hl ⊢
        exact write_name B b l w n x a1 _ c1 a2 _ c2 h hB (by rw [len_bytes] at hl; exact hl)
      · rw [show_num] at hl ⊢
        exact write_num B b l w n x a1 _ c1 a2 _ c2 h hB hn he h3 hl
      · rw [show_node _ _ _ _ _ _ (by decide) (by decide) (by decide)] at hl ⊢
        exact write_node k hW B b l w 3 n x a1 _ c1 a2 _ c2 _ args acs h hB he h3 rfl rfl rfl (fun w he h3 => headOf_3 n x args cl a1 _ c1 a2 _ c2 w hn he h3) hrow heach hga hl
      · rw [show_node _ _ _ _ _ _ (by decide) (by decide) (by decide)] at hl ⊢
        exact write_node k hW B b l w 4 n x a1 _ c1 a2 _ c2 _ args acs h hB he h3 rfl rfl rfl (fun w _ _ => headOf_4 n x args cl a1 _ c1 a2 _ c2 w) hrow heach hga hl
      · rw [show_node _ _ _ _ _ _ (by decide) (by decide) (by decide)] at hl ⊢
        exact write_node k hW B b l w 5 n x a1 _ c1 a2 _ c2 _ args acs h hB he h3 rfl rfl rfl (fun w _ _ => headOf_5 n x args cl a1 _ c1 a2 _ c2 w (h5 rfl)) hrow heach hga hl
      · rw [show_node _ _ _ _ _ _ (by decide) (by decide) (by decide)] at hl ⊢
        have hx : x.size ≤ 1000000000 := by
          simp only [Pu.headB, List.length_append, List.length_cons] at hl
          simp at hl
          have := len_bytes x
          omega
        exact write_node k hW B b l w 6 n x a1 _ c1 a2 _ c2 _ args acs h hB he h3 rfl rfl rfl (fun w _ _ => headOf_6 n x args cl a1 _ c1 a2 _ c2 w hx) hrow heach hga hl
      · rw [show_match] at hl ⊢
        exact write_match k hW B b l w 7 n x a1 _ c1 a2 _ c2 _ args acs cl ccs h hB he h3 rfl rfl rfl (fun w _ _ => headOf_7 n x args cl a1 _ c1 a2 _ c2 w) hrow heach hga hrow2 heach2 hgc hl

end Go.Proofs.YtodolmdiebgmjaaDoor
