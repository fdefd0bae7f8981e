/- What is written of a name's list, a tag, a head: walked. -/
import Derived.Test.YtodolmdiebgmjaaDoorX1
import Derived.Test.YtodolmdiebgmjaaDoorPr
import Derived.Deep.QuietTactic
import Derived.BigQuiet
import Derived.Lib.ItoaLen
namespace Go.Proofs.YtodolmdiebgmjaaDoor
open Go.RowKit

theorem ba_append (a b : List UInt8) : (⟨a.toArray⟩ : ByteArray) ++ ⟨b.toArray⟩ = ⟨(a ++ b).toArray⟩ := by
  apply ByteArray.ext; simp
theorem ba_data (s : ByteArray) : s = ⟨s.data.toList.toArray⟩ := by apply ByteArray.ext; simp
theorem ret_sb {a b : ByteArray} {c d : Bool} (h1 : a = b) (h2 : c = d) : Ending.returned (.tuple #[.string a, .bool c]) = .returned (.tuple #[.string b, .bool d]) := by rw [h1, h2]
theorem ret_ba {a b : ByteArray} (h : a = b) : Ending.returned (.string a) = .returned (.string b) := by rw [h]

set_option maxHeartbeats 400000 in
theorem tagged_any (n : Int) (w : World) (hn : Pu.inI n) (he : Env w) :
    Calls Tryd.prog 61 #[.int .i64 n] w fun e w' => e = .returned (.string ⟨(Pu.tagB n).toArray⟩) ∧ Below w.heap.size w w' := by
  have HE := hide he
  have hlen := Lib.itoa_length_le n hn.1 hn.2
  clear he
  go_enter Tryd.func61, Tryd.ntmps61
  go_wp2_with fail
  refine (itoa_any n _ hn.1 hn.2 HE.out).mono ?_
  rintro e w1 ⟨rfl, hb⟩
  go_wp2_with fail
  go_ret
  exact ⟨ret_ba (ba_append [35] _), hb⟩

theorem Row.cells {S : Nat → Prop} {w : World} {e : TypeId} {size : Nat} {v : Value} {n : Nat} {xs : List Value} (h : Row S w e size v n xs) (hn : 0 < n) :
    ∃ g cap, v = .slice (some ⟨g, 0, none⟩) n cap ∧ g < w.heap.size ∧ S g ∧ n ≤ cap ∧ cap ≤ maxLen ∧ ∀ j, j < n * size → w.cell? ⟨g, j, none⟩ = xs[j]? := by
  obtain ⟨⟨h1, h2⟩, h3⟩ := h
  rcases h2 with ⟨_, h0⟩ | ⟨g, cap, cur, rfl, hb, hg, h4, h5, h6, h7⟩
  · omega
  · refine ⟨g, cap, rfl, (Array.getElem?_eq_some_iff.1 hg).1, h3 g rfl, h4, h5, fun j hj => ?_⟩
    rw [cell_of_heap hg, ← h7, List.getElem?_take, if_pos hj]; simp

theorem join_len : ∀ l : List (List UInt8), l.length ≤ (Lib.join l [32]).length + 1
  | [] => by simp
  | [x] => by simp
  | x :: y :: r => by
    have h := join_len (y :: r)
    simp only [Lib.join, List.intercalate, List.intersperse, List.flatten_cons, List.length_append, List.length_cons] at h ⊢
    omega

set_option maxHeartbeats 400000 in
theorem bracketed_any (S : Nat → Prop) (v : Value) (l : List ByteArray) (w : World) (h : Row S w 9 1 v l.length (l.map .string)) (hl : (Pu.bracketB l).length ≤ 1000000000) :
    Calls Tryd.prog 30 #[v] w fun e w' => e = .returned (.string ⟨(Pu.bracketB l).toArray⟩) ∧ Below w.heap.size w w' := by
  have hlen : (Lib.join (l.map (·.data.toList)) [32]).length ≤ 1000000000 := by
    unfold Pu.bracketB at hl; simp only [List.length_cons, List.length_append] at hl; omega
  clear hl
  by_cases h0 : l = []
  · subst h0
    obtain ⟨a, c, rfl⟩ := h.form
    clear h hlen
    go_enter Tryd.func30, Tryd.ntmps30
    go_wp2_with fail
    refine (Tryd.strings_Join_none a c _ _).mono ?_
    rintro e w1 ⟨rfl, rfl⟩
    go_wp2_with fail
    go_ret
    exact ⟨ret_ba (by rw [show (⟨#[40]⟩ : ByteArray) ++ ⟨#[]⟩ ++ ⟨#[41]⟩ = ⟨#[40, 41]⟩ from by decide]; rfl), Below.refl _ _⟩
  · have hpos : 0 < l.length := List.length_pos_iff.2 h0
    obtain ⟨g, cap, rfl, hg, _, hc1, hc2, hcell⟩ := h.cells hpos
    have hcell2 : ∀ (j : Nat) x, l[j]? = some x → w.cell? ⟨g, 0 + j, none⟩ = some (.string x) := by
      intro j x hx
      have hj : j < l.length := (List.getElem?_eq_some_iff.1 hx).1
      rw [Nat.zero_add, hcell j (by omega), List.getElem?_map, hx]; rfl
    have HC := hide hcell2
    have hlen2 : (Lib.join (l.map (·.data.toList)) (⟨#[32]⟩ : ByteArray).data.toList).length ≤ 1000000000 := hlen
    have hN : l.length ≤ 1000000001 := by
      have := join_len (l.map (·.data.toList)); rw [List.length_map] at this; omega
    clear hcell hcell2 h h0
    go_enter Tryd.func30, Tryd.ntmps30
    go_wp2_with fail
    refine (Tryd.strings_Join g 0 cap l _ _ HC.out hg (by omega) hc1 (Nat.le_trans hlen2 (by decide))).mono ?_
    rintro e w1 ⟨rfl, hb⟩
    go_wp2_with fail
    go_ret
    exact ⟨ret_ba (by rw [show (⟨#[40]⟩ : ByteArray) = ⟨[40].toArray⟩ from rfl, show (⟨#[41]⟩ : ByteArray) = ⟨[41].toArray⟩ from rfl, ba_append, ba_append]; rfl), hb⟩

set_option maxHeartbeats 400000 in
theorem headOf_3 {α : Type} (n : Int) (x : ByteArray) (l : List α) (cl : List (Int × List ByteArray × α)) (a1 : Option Addr) (n1 c1 : Nat) (a2 : Option Addr) (n2 c2 : Nat) (w : World) (hn : Pu.inI n) (he : Env w) (h3 : 3 ≤ w.heap.size) :
    Calls Tryd.prog 51 #[.agg #[.int .i64 3, .int .i64 n, .string x, .string ⟨#[]⟩, .slice none 0 0, .slice a1 n1 c1, .slice a2 n2 c2]] w fun e w' => e = .returned (.tuple #[.string ⟨(Pu.headB (⟨3, n, x, l, cl⟩ : Pu.Node α)).toArray⟩, .bool true]) ∧ Below w.heap.size w w' := by
  have hE : Hid (Pu.headB (⟨3, n, x, l, cl⟩ : Pu.Node α) = Pu.tagB n) := by simp [Hid, Pu.headB]
  have HE := hide he
  have HN := hide hn
  clear he hn
  go_enter Tryd.func51, Tryd.ntmps51
  go_wp2_with fail
  refine (tagged_any n _ HN.out (HE.out.below ((Below.refl w.heap.size w).alloc (Nat.le_refl _) _) h3)).mono ?_
  rintro e w1 ⟨rfl, hb⟩
  go_wp2_with fail
  go_ret2
  exact ⟨by rw [hE.out]; rfl, ((Below.refl w.heap.size w).alloc (Nat.le_refl _) _).trans (hb.mono (by simp))⟩

set_option maxHeartbeats 400000 in
theorem headOf_4 {α : Type} (n : Int) (x : ByteArray) (l : List α) (cl : List (Int × List ByteArray × α)) (a1 : Option Addr) (n1 c1 : Nat) (a2 : Option Addr) (n2 c2 : Nat) (w : World) :
    Calls Tryd.prog 51 #[.agg #[.int .i64 4, .int .i64 n, .string x, .string ⟨#[]⟩, .slice none 0 0, .slice a1 n1 c1, .slice a2 n2 c2]] w fun e w' => e = .returned (.tuple #[.string ⟨(Pu.headB (⟨4, n, x, l, cl⟩ : Pu.Node α)).toArray⟩, .bool true]) ∧ Below w.heap.size w w' := by
  have hE : Hid (Pu.headB (⟨4, n, x, l, cl⟩ : Pu.Node α) = x.data.toList) := by simp [Hid, Pu.headB]
  go_enter Tryd.func51, Tryd.ntmps51
  go_wp2_with fail
  go_ret2
  exact ⟨by rw [hE.out, ← ba_data]; rfl, (Below.refl w.heap.size w).alloc (Nat.le_refl _) _⟩

set_option maxHeartbeats 400000 in
theorem headOf_6 {α : Type} (n : Int) (x : ByteArray) (l : List α) (cl : List (Int × List ByteArray × α)) (a1 : Option Addr) (n1 c1 : Nat) (a2 : Option Addr) (n2 c2 : Nat) (w : World) (hx : x.size ≤ 1000000000) :
    Calls Tryd.prog 51 #[.agg #[.int .i64 6, .int .i64 n, .string x, .string ⟨#[]⟩, .slice none 0 0, .slice a1 n1 c1, .slice a2 n2 c2]] w fun e w' => e = .returned (.tuple #[.string ⟨(Pu.headB (⟨6, n, x, l, cl⟩ : Pu.Node α)).toArray⟩, .bool true]) ∧ Below w.heap.size w w' := by
  have hE : Hid (Pu.headB (⟨6, n, x, l, cl⟩ : Pu.Node α) = [108, 101, 116, 32] ++ x.data.toList) := by simp [Hid, Pu.headB]
  go_enter Tryd.func51, Tryd.ntmps51
  go_wp2_with fail
  go_ret2
  refine ⟨?_, (Below.refl w.heap.size w).alloc (Nat.le_refl _) _⟩
  rw [hE.out, ← ba_append, ← ba_data]; rfl

set_option maxHeartbeats 400000 in
theorem headOf_7 {α : Type} (n : Int) (x : ByteArray) (l : List α) (cl : List (Int × List ByteArray × α)) (a1 : Option Addr) (n1 c1 : Nat) (a2 : Option Addr) (n2 c2 : Nat) (w : World) :
    Calls Tryd.prog 51 #[.agg #[.int .i64 7, .int .i64 n, .string x, .string ⟨#[]⟩, .slice none 0 0, .slice a1 n1 c1, .slice a2 n2 c2]] w fun e w' => e = .returned (.tuple #[.string ⟨(Pu.headB (⟨7, n, x, l, cl⟩ : Pu.Node α)).toArray⟩, .bool true]) ∧ Below w.heap.size w w' := by
  have hE : Hid (Pu.headB (⟨7, n, x, l, cl⟩ : Pu.Node α) = [109, 97, 116, 99, 104]) := by simp [Hid, Pu.headB]
  go_enter Tryd.func51, Tryd.ntmps51
  go_wp2_with fail
  go_ret2
  exact ⟨by rw [hE.out]; rfl, (Below.refl w.heap.size w).alloc (Nat.le_refl _) _⟩

set_option maxHeartbeats 400000 in
theorem headOf_5 {α : Type} (n : Int) (x : ByteArray) (l : List α) (cl : List (Int × List ByteArray × α)) (a1 : Option Addr) (n1 c1 : Nat) (a2 : Option Addr) (n2 c2 : Nat) (w : World) (hn : 1 ≤ n ∧ n ≤ 5) :
    Calls Tryd.prog 51 #[.agg #[.int .i64 5, .int .i64 n, .string x, .string ⟨#[]⟩, .slice none 0 0, .slice a1 n1 c1, .slice a2 n2 c2]] w fun e w' => e = .returned (.tuple #[.string ⟨(Pu.headB (⟨5, n, x, l, cl⟩ : Pu.Node α)).toArray⟩, .bool true]) ∧ Below w.heap.size w w' := by
  have hE : Hid (Pu.headB (⟨5, n, x, l, cl⟩ : Pu.Node α) = Pu.sign n) := by simp [Hid, Pu.headB]
  have hs : Hid ((Pu.sign n).isEmpty = false) := by
    have : n = 1 ∨ n = 2 ∨ n = 3 ∨ n = 4 ∨ n = 5 := by omega
    rcases this with rfl | rfl | rfl | rfl | rfl <;> rfl
  clear hn
  go_enter Tryd.func51, Tryd.ntmps51
  go_wp2_with fail
  go_quiet ((go_at_call 62; exact Calls.quiet_of_same (sign_any _ _)))
  go_wp2_with fail
  go_ret2
  refine ⟨ret_sb (by rw [hE.out]) (by rw [hs.out]; rfl), ?_⟩
  exact below_drewN ((Below.refl w.heap.size w).alloc (Nat.le_refl _) _) _

end Go.Proofs.YtodolmdiebgmjaaDoor
