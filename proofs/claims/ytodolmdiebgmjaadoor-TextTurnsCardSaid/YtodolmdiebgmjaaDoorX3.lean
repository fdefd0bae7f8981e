/- 'writeTerm' and 'writeCases', walked. -/
import Derived.Test.YtodolmdiebgmjaaDoorX2
namespace Go.Proofs.YtodolmdiebgmjaaDoor
open Go.RowKit

theorem Each.get {α : Type} {n : Nat} {P : List Value → α → Prop} : ∀ {l : List α} {xs : List Value}, Each n P xs l → ∀ (i : Nat) (a : α), l[i]? = some a → ∃ ck : List Value, ck.length = n ∧ P ck a ∧ ∀ j, j < n → xs[i * n + j]? = ck[j]?
  | [], _, _, i, a, hi => by simp at hi
  | b :: l, xs, ⟨ck, rest, h1, h2, h3, h4⟩, 0, a, hi => by
    simp at hi; subst hi
    refine ⟨ck, h2, h3, fun j hj => ?_⟩
    rw [h1, Nat.zero_mul, Nat.zero_add, List.getElem?_append_left (by omega)]
  | b :: l, xs, ⟨ck, rest, h1, h2, h3, h4⟩, i + 1, a, hi => by
    obtain ⟨c2, e1, e2, e3⟩ := Each.get h4 i a (by simpa using hi)
    refine ⟨c2, e1, e2, fun j hj => ?_⟩
    rw [h1, List.getElem?_append_right (by rw [h2, Nat.add_mul]; omega), ← e3 j hj, h2]
    congr 1
    rw [Nat.add_mul]; omega

abbrev Lt (B : Nat) : Nat → Prop := fun g => g < B

/-- What 'writeTerm' does at level k. -/
def WriteC (k : Nat) : Prop := ∀ (B b : Nat) (l : List UInt8) (w : World) (cs : List Value) (t : Pu.TT k), Bd B b l w → RT k (Lt B) w cs t → Pu.Good k t → Env w → 3 ≤ B → B ≤ w.heap.size → l.length + (Pu.showT k t).length ≤ 1000000000 →
  Calls Tryd.prog 31 #[.pointer (some ⟨b, 0, none⟩), .agg cs.toArray] w fun e w' => e = .returned (.tuple #[]) ∧ Bd B b (l ++ Pu.showT k t) w' ∧ Pf B b w w'

/-- What the laws lean on while it is written: the builder, the data below B, the library's variables. -/
theorem Pf.env {B b : Nat} {w w' : World} (h : Pf B b w w') (he : Env w) (h3 : 3 ≤ B) : Env w' := he.below h.below h3
theorem Pf.stays {B b : Nat} {w w' : World} (h : Pf B b w w') : Stays (Lt B) (Lt B) w w' := fun g hg _ => ⟨hg, h.below.block g hg⟩
theorem Bd.ge {B b : Nat} {l : List UInt8} {w : World} (h : Bd B b l w) : B ≤ b ∧ b < w.heap.size := by
  obtain ⟨p, v, h1, _, _, _, h2⟩ := h.at
  exact ⟨h2, (Array.getElem?_eq_some_iff.1 h1).1⟩
theorem Bd.alloc {B b : Nat} {l : List UInt8} {w : World} (h : Bd B b l w) (o : Obj) : Bd B b l (w.alloc o) := h.below ((Below.refl _ w).alloc (Nat.le_refl _) o)

-- a name, a number
set_option maxHeartbeats 400000 in
theorem write_name (B b : Nat) (l : List UInt8) (w : World) (n : Int) (x : ByteArray) (a1 : Option Addr) (n1 c1 : Nat) (a2 : Option Addr) (n2 c2 : Nat) (h : Bd B b l w) (hB : B ≤ w.heap.size) (hl : l.length + x.size ≤ 1000000000) :
    Calls Tryd.prog 31 #[.pointer (some ⟨b, 0, none⟩), .agg #[.int .i64 1, .int .i64 n, .string x, .string ⟨#[]⟩, .slice none 0 0, .slice a1 n1 c1, .slice a2 n2 c2]] w fun e w' => e = .returned (.tuple #[]) ∧ Bd B b (l ++ x.data.toList) w' ∧ Pf B b w w' := by
  have H := hide h
  have hb := h.ge.2
  clear h
  go_enter Tryd.func31, Tryd.ntmps31
  go_wp2_with fail
  refine (write_any B b l x _ (H.out.alloc _) hl (by simp; omega)).mono ?_
  rintro e w1 ⟨⟨r, rfl⟩, hbd, hp⟩
  go_wp2_with fail
  exact bodyPost_ret (v := .tuple #[]) (by simp [results, Tryd.results31, go_sem]) rfl ⟨rfl, hbd, ((Pf.refl B b w).alloc hB _).trans hp⟩

set_option maxHeartbeats 400000 in
theorem write_num (B b : Nat) (l : List UInt8) (w : World) (n : Int) (x : ByteArray) (a1 : Option Addr) (n1 c1 : Nat) (a2 : Option Addr) (n2 c2 : Nat) (h : Bd B b l w) (hB : B ≤ w.heap.size) (hn : Pu.inI n) (he : Env w) (h3 : 3 ≤ B) (hl : l.length + (Lib.itoa n).length ≤ 1000000000) :
    Calls Tryd.prog 31 #[.pointer (some ⟨b, 0, none⟩), .agg #[.int .i64 2, .int .i64 n, .string x, .string ⟨#[]⟩, .slice none 0 0, .slice a1 n1 c1, .slice a2 n2 c2]] w fun e w' => e = .returned (.tuple #[]) ∧ Bd B b (l ++ Lib.itoa n) w' ∧ Pf B b w w' := by
  have H := hide h
  have hb := h.ge.2
  have HE := hide he
  have HN := hide hn
  clear h he hn
  go_enter Tryd.func31, Tryd.ntmps31
  go_wp2_with fail
  refine (itoa_any n _ HN.out.1 HN.out.2 (HE.out.below ((Below.refl B w).alloc hB _) h3)).mono ?_
  rintro e w1 ⟨rfl, hb1⟩
  have hs := hb1.size
  rw [World.size_alloc] at hs
  go_wp2_with fail
  refine (write_any B b l ⟨(Lib.itoa n).toArray⟩ _ ((H.out.alloc _).below hb1) hl (by omega)).mono ?_
  rintro e w2 ⟨⟨r, rfl⟩, hbd, hp⟩
  go_wp2_with fail
  refine bodyPost_ret (v := .tuple #[]) (by simp [results, Tryd.results31, go_sem]) rfl ⟨rfl, by simpa using hbd, (((Pf.refl B b w).alloc hB _).trans (Pf.of_below hb1 (by simp; omega))).trans hp⟩

/-- What 'headOf' answers of these cells. -/
def HeadC (cs : Array Value) (h : List UInt8) : Prop := ∀ w, Env w → 3 ≤ w.heap.size → Calls Tryd.prog 51 #[.agg cs] w fun e w' => e = .returned (.tuple #[.string ⟨h.toArray⟩, .bool true]) ∧ Below w.heap.size w w'

theorem argsB_take {α : Type} (S : α → List UInt8) (l : List α) (i : Nat) (a : α) (h : l[i]? = some a) : Pu.argsB S (l.take (i + 1)) = Pu.argsB S (l.take i) ++ (32 :: S a) := by
  have hi : i < l.length := (List.getElem?_eq_some_iff.1 h).1
  rw [List.take_succ_eq_append_getElem hi]
  have : l[i] = a := by have := List.getElem?_eq_getElem hi; rw [this] at h; injection h
  simp [Pu.argsB, this]
theorem argsB_le {α : Type} (S : α → List UInt8) (l : List α) (i : Nat) : (Pu.argsB S (l.take i)).length ≤ (Pu.argsB S l).length := by
  have e : Pu.argsB S l = Pu.argsB S (l.take i) ++ Pu.argsB S (l.drop i) := by
    unfold Pu.argsB; rw [← List.flatten_append, ← List.map_append, List.take_append_drop]
  rw [e, List.length_append]; omega

-- a term in brackets: up to its arguments' end
set_option maxHeartbeats 1000000 in
set_option maxRecDepth 100000 in
theorem write_node (k : Nat) (hW : WriteC k) (B b : Nat) (l : List UInt8) (w : World) (kd n : Int) (x : ByteArray) (a1 : Option Addr) (n1 c1 : Nat) (a2 : Option Addr) (n2 c2 : Nat) (hd : List UInt8) (args : List (Pu.TT k)) (acs : List Value)
    (h : Bd B b l w) (hB : B ≤ w.heap.size) (he : Env w) (h3 : 3 ≤ B) (k1 : (kd == 1) = false) (k2 : (kd == 2) = false) (k7 : (kd == 7) = false)
    (hH : HeadC #[.int .i64 kd, .int .i64 n, .string x, .string ⟨#[]⟩, .slice none 0 0, .slice a1 n1 c1, .slice a2 n2 c2] hd)
    (hrow : Row (Lt B) w 33 7 (.slice a1 n1 c1) args.length acs) (heach : Each 7 (RT k (Lt B) w) acs args) (hgood : ∀ a, a ∈ args → Pu.Good k a)
    (hl : l.length + (40 :: hd ++ (Pu.argsB (Pu.showT k) args ++ [41])).length ≤ 1000000000) :
    Calls Tryd.prog 31 #[.pointer (some ⟨b, 0, none⟩), .agg #[.int .i64 kd, .int .i64 n, .string x, .string ⟨#[]⟩, .slice none 0 0, .slice a1 n1 c1, .slice a2 n2 c2]] w fun e w' => e = .returned (.tuple #[]) ∧ Bd B b (l ++ (40 :: hd ++ (Pu.argsB (Pu.showT k) args ++ [41]))) w' ∧ Pf B b w w' := by
  have hn1 : n1 = args.length := by obtain ⟨a, c, e⟩ := hrow.form; injection e
  subst hn1
  simp only [List.length_cons, List.length_append, List.length_nil] at hl
  have H := hide h
  have hb := h.ge
  have HE := hide he
  have HH := hide hH
  have HR := hide hrow
  have HC := hide heach
  have HG := hide hgood
  have HW := hide hW
  clear h he hH hrow heach hgood hW
  go_enter Tryd.func31, Tryd.ntmps31
  go_wp2_with fail
  refine (HH.out _ (HE.out.below ((Below.refl B w).alloc hB _) h3) (by simp; omega)).mono ?_
  rintro e w1 ⟨rfl, hb1⟩
  have hs1 := hb1.size
  rw [World.size_alloc] at hs1
  have hd1 : w1.heap[w.heap.size]? = some (.cells #[.int .i64 kd, .int .i64 n, .string x, .string ⟨#[]⟩, .slice none 0 0, .slice a1 args.length c1, .slice a2 n2 c2] 33 (0, 0)) := by
    rw [hb1.block w.heap.size (by simp)]; exact heap_alloc_new _ _
  have HB1 := hide ((H.out.alloc (.cells #[.int .i64 kd, .int .i64 n, .string x, .string ⟨#[]⟩, .slice none 0 0, .slice a1 args.length c1, .slice a2 n2 c2] 33)).below hb1)
  have HP1 := hide (((Pf.refl B b w).alloc hB _).trans (Pf.of_below hb1 (by simp; omega)))
  have HD1 := hide hd1
  clear hb1 hd1
  go_wp2_with fail
  refine (write_any B b l ⟨(40 :: hd).toArray⟩ _ HB1.out (by show l.length + (40 :: hd).toArray.size ≤ _; simp only [List.size_toArray, List.length_cons]; omega) (by omega)).mono ?_
  rintro e w2 ⟨⟨r, rfl⟩, hbd, hp⟩
  have HB2 := hide hbd
  have HP2 := hide (HP1.out.trans hp)
  have HD2 := hide (hp.block HD1.out (by omega) (by decide))
  clear hbd hp
  have c2' := cell_of_heap HD2.out
  go_wp2_with fail
  go_loopw [39] (fun v wr => ∃ i : Nat, i ≤ args.length ∧ v = .int .i64 i ∧ Bd B b (l ++ (40 :: hd) ++ Pu.argsB (Pu.showT k) (args.take i)) wr ∧ Pf B b w wr ∧
    wr.heap[w.heap.size]? = some (.cells #[.int .i64 kd, .int .i64 n, .string x, .string ⟨#[]⟩, .slice none 0 0, .slice a1 args.length c1, .slice a2 n2 c2] 33 (0, 0))) (fun v _ => args.length - (intOf v).toNat)
  case atStart =>
    refine ⟨0, Nat.zero_le _, rfl, ?_, HP2.out, HD2.out⟩
    have := HB2.out
    simpa [Pu.argsB] using this
  case round =>
    obtain ⟨i, hi, rfl, hbd, hp, hdd⟩ := hrel
    have HBr := hide hbd
    have HPr := hide hp
    have HDr := hide hdd
    clear hbd hp hdd c2'
    by_cases hlt : i < args.length
    · obtain ⟨g, cap, hv, hg, hS, hc1, hc2, hcell⟩ := HR.out.cells (by omega)
      injection hv with hv1 _ hv2
      subst hv1 hv2
      obtain ⟨a, ha⟩ : ∃ a, args[i]? = some a := ⟨_, List.getElem?_eq_getElem hlt⟩
      obtain ⟨ck, hck, hrt, hxs⟩ := HC.out.get i a ha
      obtain ⟨kd', n', x', a1', n1', c1', a2', n2', c2', rfl⟩ := hrt.form
      have hS : g < B := hS
      have hcw : ∀ j, j < 7 → wr.cell? ⟨g, i * 7 + j, none⟩ = [Value.int .i64 kd', .int .i64 n', .string x', .string ⟨#[]⟩, .slice none 0 0, .slice a1' n1' c1', .slice a2' n2' c2'][j]? := by
        intro j hj
        rw [HPr.out.below.cell (p := ⟨g, i * 7 + j, none⟩) hS, hcell _ (by omega), hxs j hj]
      have e0 : wr.cell? ⟨g, i * 7, none⟩ = some (.int .i64 kd') := hcw 0 (by omega)
      have e1 := hcw 1 (by omega)
      have e2 := hcw 2 (by omega)
      have e3 := hcw 3 (by omega)
      have e4 := hcw 4 (by omega)
      have e5 := hcw 5 (by omega)
      have e6 := hcw 6 (by omega)
      have HT := hide hrt
      clear hcell hxs hcw hrt
      have hsr := HPr.out.below.size
      have hbr := HBr.out.ge
      have hB' : B ≤ wr.heap.size := by omega
      unfold maxLen at hc2
      have hm1 := argsB_le (Pu.showT k) args (i + 1)
      have hm2 := argsB_take (Pu.showT k) args i a ha
      have HM := hide hm2
      rw [hm2] at hm1
      simp only [List.length_append, List.length_cons] at hm1
      have HGa := hide (HG.out a (List.mem_of_getElem? ha))
      have HI := hide ha
      clear hm2 ha
      go_wp2_with fail
      refine (write_any B b _ ⟨#[32]⟩ _ (HBr.out.alloc _) (by show _ + 1 ≤ _; simp only [List.length_append, List.length_cons]; omega) (by simp; omega)).mono ?_
      rintro e w4 ⟨⟨r4, rfl⟩, hb4, hp4⟩
      have hd4 := hp4.block (heap_alloc_new wr _) (by omega) (by decide)
      have HB4 := hide hb4
      have HP4 := hide (((Pf.refl B b wr).alloc hB' _).trans hp4)
      have c4 := cell_of_heap hd4
      have hs4 := HP4.out.below.size
      clear hb4 hp4 hd4 e0 e1 e2 e3 e4 e5 e6
      go_wp2_with fail
      clear c4
      refine (HW.out B b _ _ _ a HB4.out (RT.kept (HPr.out.trans HP4.out).stays HT.out) HGa.out ((HPr.out.trans HP4.out).env HE.out h3) h3 (by omega) (by simp only [List.length_append, List.length_cons]; show _ + 1 + _ ≤ _; omega)).mono ?_
      rintro e w5 ⟨rfl, hb5, hp5⟩
      have HB5 := hide hb5
      have HP5 := hide hp5
      clear hb5 hp5
      go_wp2_with fail
      go_roundw
      case rel =>
        refine ⟨i + 1, by omega, by go_num, ?_, (HPr.out.trans HP4.out).trans HP5.out, (HP4.out.trans HP5.out).block HDr.out (by omega) (by decide)⟩
        have := HB5.out
        rw [HM.out]
        simpa using this
      case measure => simp [intOf]; omega
    · have hi' : i = args.length := by omega
      subst hi'
      have c5 := cell_of_heap HDr.out
      have hsr := HPr.out.below.size
      go_wp2_with fail
      refine (write_any B b _ ⟨#[41]⟩ _ HBr.out (by rw [List.take_length]; show _ + 1 ≤ _; simp only [List.length_append, List.length_cons]; omega) (by omega)).mono ?_
      rintro e w6 ⟨⟨r6, rfl⟩, hb6, hp6⟩
      go_wp2_with fail
      go_end0
      refine ⟨rfl, ?_, HPr.out.trans hp6⟩
      rw [List.take_length] at hb6
      simpa using hb6

end Go.Proofs.YtodolmdiebgmjaaDoor
