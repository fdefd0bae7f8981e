/- 'Parse', walked. -/
import Derived.Test.YtodolmdiebgmjaaDoorW8
namespace Go.Proofs.YtodolmdiebgmjaaDoor
open Go.RowKit

set_option maxHeartbeats 400000 in
theorem clone_any (s : ByteArray) (w : World) (hs : s.size ≤ 1500) :
    Calls Tryd.prog 17 #[.string s] w fun e w' => e = .returned (.string s) ∧ Below w.heap.size w w' := by
  go_enter Tryd.func17, Tryd.ntmps17
  go_wp2_with fail
  refine (Tryd.stringslite_Clone s _ (by omega)).mono ?_
  rintro e w1 ⟨rfl, hb⟩
  go_wp2_with fail
  go_ret
  exact ⟨rfl, hb⟩

theorem Tryd.info35 : (Tryd.prog.info? 35).map (fun i => (i.zero, i.size, i.bytes)) = some (some (.agg #[.string ⟨#[]⟩, .slice none 0 0, .int .i64 0, .int .i64 0, .string ⟨#[]⟩, .string ⟨#[]⟩, .slice none 0 0, .slice none 0 0, .slice none 0 0]), 9, 160) := by kernel_rfl

/-- The words as the reader has them first. -/
theorem Ws.of_owns {base : Nat} {w w' : World} {v : Value} {ws : List ByteArray} {R : Nat} (h : w.ownsRow base 9 1 v ws.length (ws.map .string)) (hb : ∀ k, k < R → w'.heap[k]? = w.heap[k]?) (hR : w.heap.size = R) : Ws (R + 1) w' R v ws := by
  rcases h.2 with ⟨h1, h2⟩ | ⟨g, cap, cur, h1, _, h3, h4, h5, h6, h7⟩
  · exact .inl ⟨h1, List.length_eq_zero_iff.1 h2⟩
  · have hg : g < R := by rw [← hR]; exact (Array.getElem?_eq_some_iff.1 h3).1
    refine .inr ⟨g, 0, cap, cur, 9, h1, by omega, by omega, by rw [hb g hg]; exact h3, h4, h5, fun i x hx => ?_⟩
    have e : (cur.toList.take (ws.length * 1))[i]? = some (.string x) := by rw [h7, List.getElem?_map, hx]; rfl
    rw [List.getElem?_take] at e
    split at e
    · rw [Nat.zero_add]; simpa using e
    · cases e

theorem below_of_fr {B R B' : Nat} {a b : World} (h : Fr B R a b) (h1 : B' ≤ R) (h2 : B' ≤ B) : Below B' a b := ⟨h.os, h.tape, h.output, h.size, fun k hk => h.block k (by omega) (by omega)⟩
theorem ownsRow_base {w : World} {base base' : Nat} {e : TypeId} {size : Nat} {v : Value} {n : Nat} {xs : List Value} (h : w.ownsRow base e size v n xs) (hb : base' ≤ base) : w.ownsRow base' e size v n xs := by
  refine ⟨h.1, ?_⟩
  rcases h.2 with hn | ⟨g, cap, cur, hv, hg, rest⟩
  · exact .inl hn
  · exact .inr ⟨g, cap, cur, hv, by omega, rest⟩

/-- What 'Parse' answers. -/
def ParseC (s : ByteArray) (w : World) : Prop :=
  Calls Tryd.prog 6 #[.string s] w fun e w' => ∃ v, e = .returned (.tuple #[v, .int .i64 (Pu.parse s).2]) ∧ ∃ xs, w'.ownsRow w.heap.size 35 9 v (Pu.parse s).1.length xs ∧ Each 9 (RF (From w.heap.size) w') xs (Pu.parse s).1 ∧ Below w.heap.size w w'

set_option maxHeartbeats 1000000 in
theorem parse_much (s : ByteArray) (w : World) (hs : s.size ≤ maxLen) (hm : 1500 < s.size) : ParseC s w := by
  unfold ParseC
  unfold maxLen at hs
  have hE : Hid (Pu.parse s = ([], 4)) := by simp only [Hid, Pu.parse]; rw [if_pos hm]
  go_enter Tryd.func6, Tryd.ntmps6
  go_wp2_with fail
  go_ret2
  refine ⟨_, ?_, [], by rw [hE.out]; exact World.ownsRow_nil _ _ _ _, by rw [hE.out]; rfl, Below.refl _ _⟩
  rw [hE.out]; rfl

set_option maxHeartbeats 1000000 in
set_option maxRecDepth 100000 in
theorem parse_few (s : ByteArray) (w : World) (hs : s.size ≤ 1500) (he : Env w) (h3 : 3 ≤ w.heap.size) : ParseC s w := by
  unfold ParseC
  have hE : Hid (Pu.parse s = Pu.parseWs (Pu.split s)) := by simp only [Hid, Pu.parse]; rw [if_neg (by omega)]
  have HE := hide he
  clear he
  obtain ⟨i0, hi, hz0, hz1, hz2⟩ := info_parts Tryd.info35
  go_enter Tryd.func6, Tryd.ntmps6
  go_wp2_with fail
  refine (clone_any s _ hs).mono ?_
  rintro e w1 ⟨rfl, hb1⟩
  go_wp2_with fail
  refine (split_any s _ hs).mono ?_
  rintro e w2 ⟨v, rfl, hn, hb2⟩
  obtain ⟨an, cn, rfl⟩ := (Row.of_owns hn).form
  have hb : Below w.heap.size w w2 := hb1.trans (hb2.mono hb1.size)
  have hz2' := hb.size
  have HW : Hid (Ok (w2.heap.size + 1) (w2.alloc (.cells #[.slice an (Pu.split s).length cn, .int .i64 0] 43)) w2.heap.size ⟨Pu.split s, 0⟩) := by
    refine ⟨⟨by omega, _, heap_alloc_new _ _, ?_⟩, HE.out.below ((hb.alloc hb.size _)) h3, by omega, by simp, ?_, ?_⟩
    · exact Ws.of_owns hn (fun k hk => Below.heap_alloc _ _ _ hk) rfl
    · exact Nat.le_trans (Pu.split_length s) (by omega)
    · exact fun x hx => Nat.le_trans (Pu.split_size s x hx) (by omega)
  have HB := hide hb
  clear hn hb1 hb2 hb
  go_wp2_with fail
  go_loopg [5] ((Pu.split s).length + 1) (fun gn v wr => ∃ acc st xs, wr.ownsRow (w2.heap.size + 1) 35 9 v acc.length xs ∧ Each 9 (RF (But (w2.heap.size + 1) v) wr) xs acc ∧ Ok (w2.heap.size + 1) wr w2.heap.size st ∧
    Fr (w2.heap.size + 1) w2.heap.size (w2.alloc (.cells #[.slice an (Pu.split s).length cn, .int .i64 0] 43)) wr ∧
    Hid (Pu.functions ((Pu.split s).length + 1) ⟨Pu.split s, 0⟩ = (acc ++ (Pu.functions gn st).1, (Pu.functions gn st).2)) ∧ st.ws.length < gn ∧ acc.length + st.ws.length ≤ 1600)
  case atStart =>
    refine ⟨[], ⟨Pu.split s, 0⟩, [], World.ownsRow_nil _ _ _ _, rfl, HW.out, Fr.refl _ _ _, ?_, ?_, ?_⟩
    · simp [Hid]
    · simp
    · have := HW.out.few; simpa using this
  case round =>
    obtain ⟨acc, st, xs, hown, heach, hok, hfr, hE2, hlt, hle⟩ := hrel
    have HO := hide hown
    have HC := hide heach
    have HK := hide hok
    have HF := hide hfr
    clear hown hok heach hfr
    obtain ⟨v0, c0, c1, q0, q1, hws⟩ := HK.out.rdr.cells
    cases gk with
    | zero => omega
    | succ n =>
      obtain ⟨ws, er⟩ := st
      cases ws with
      | nil =>
        obtain ⟨a0, cap0, rfl⟩ := hws.none
        have hE3 : Hid (Pu.functions ((Pu.split s).length + 1) ⟨Pu.split s, 0⟩ = (acc, ⟨[], er⟩)) := by
          have := hE2.out; simpa [Hid, Pu.functions] using this
        clear hE2
        by_cases he0 : er = 0
        · subst he0
          have hP : Hid (Pu.parse s = (acc, 0)) := by simp only [Hid]; rw [hE.out]; unfold Pu.parseWs; rw [hE3.out]; rfl
          clear hE hE3
          go_wp2_with fail
          go_ret2
          refine ⟨u5, ?_, xs, ?_, ?_, ?_⟩
          · rw [hP.out]; rfl
          · rw [hP.out]; exact ownsRow_base HO.out (by omega)
          · rw [hP.out]; exact HC.out.mono fun c f hf => RF.kept (fun j hj _ => ⟨by have := hj.1; show w.heap.size ≤ j; omega, rfl⟩) hf
          · exact (HB.out.alloc HB.out.size _).trans (below_of_fr HF.out (by omega) (by omega))
        · have hP : Hid (Pu.parse s = ([], er)) := by simp only [Hid]; rw [hE.out]; unfold Pu.parseWs; rw [hE3.out]; simp [he0]
          have hb0 : (er == 0) = false := by simp [he0]
          clear hE hE3 he0
          go_wp2_with fail
          go_region
          go_wp2_with fail
          go_ret2
          refine ⟨.slice none 0 0, ?_, [], ?_, ?_, ?_⟩
          · rw [hP.out]; rfl
          · rw [hP.out]; exact World.ownsRow_nil _ _ _ _
          · rw [hP.out]; rfl
          · exact ((HB.out.alloc HB.out.size _).trans (below_of_fr HF.out (by omega) (by omega))).drew
      | cons x r =>
        obtain ⟨g0, off0, cap0, rfl, _⟩ := hws.cons
        have hE3 : Hid (Pu.functions ((Pu.split s).length + 1) ⟨Pu.split s, 0⟩ = (acc ++ (Pu.function ⟨x :: r, er⟩).1 :: (Pu.functions n (Pu.function ⟨x :: r, er⟩).2).1, (Pu.functions n (Pu.function ⟨x :: r, er⟩).2).2)) := by
          have := hE2.out; simpa [Hid, Pu.functions] using this
        have hln := Pu.function_less (s := ⟨x :: r, er⟩) (by simp)
        clear hE2 hws
        go_wp2_with fail
        refine (function_ok _ _ ⟨x :: r, er⟩ _ HK.out).mono ?_
        rintro e w4 ⟨cs, rfl, hrt, hr4, hf4⟩
        clear c0 c1 q0 q1
        obtain ⟨pv, b, rfl, hrow, hb7, hbt⟩ := id hrt
        obtain ⟨kd, nn, x1, a1, n1, e1, a2, n2, e2, rfl⟩ := hbt.form
        obtain ⟨a3, e3, rfl⟩ := hrow.form
        have R4 := hide hrt
        have H4 := hide hr4
        have F4 := hide hf4
        clear hrt hr4 hf4 hrow hbt hb7
        have HO4 := hide (ownsRow_fr HO.out F4.out (by omega))
        have hsz : w2.heap.size + 1 ≤ w4.heap.size := H4.out.bw
        go_wp2_with (at_builtin; refine wpList_append_lies _ rfl _ _ 22 rfl (w2.heap.size + 1) 35 i0 _ 9 160 Tryd.underlying22 hi hz0 hz1 hz2 rfl (by decide) _ _ _ rfl (HO4.out.alloc _) ⟨w4.heap.size, 0, none⟩ 1 1 (.string (Pu.function ⟨x :: r, er⟩).1.1 :: .slice a3 (Pu.function ⟨x :: r, er⟩).1.2.1.length e3 :: [.int .i64 kd, .int .i64 nn, .string x1, .string ⟨#[]⟩, .slice none 0 0, .slice a1 n1 e1, .slice a2 n2 e2]) rfl rfl (World.news_of_block (heap_alloc_new _ _)) ?c2 (by decide) ?c3 ?c4 ?c5 (w4.heap.size + 1) ?c6 ?_)
        case c2 =>
          intro u hu
          simp only [List.mem_cons, List.not_mem_nil, or_false] at hu
          rcases hu with rfl | rfl | rfl | rfl | rfl | rfl | rfl | rfl | rfl <;> rfl
        case c3 => unfold maxLen; omega
        case c4 => omega
        case c5 => simp; omega
        case c6 => simp
        intro g cap w5 hown' hgrow' hgv hg5
        have HO5 := hide hown'
        have HG5 := hide hgrow'
        have HV := hide hgv
        clear hown' hgrow' hgv
        go_wp2_with fail
        go_roundg n
        case measure => omega
        case rel =>
          have hg := HG5.out
          have hkk := ownBlock_ge HO4.out
          have hlt4 := HO.out.lt
          simp only [List.length_cons] at hlt hle hln
          refine ⟨acc ++ [(Pu.function ⟨x :: r, er⟩).1], (Pu.function ⟨x :: r, er⟩).2, _, by rw [List.length_append]; exact HO5.out, ?_, ?_, ?_, ?_, ?_, ?_⟩
          · have hsa := stays_append (B := w2.heap.size + 1) (n := acc.length + 1) (cap := cap) F4.out (by omega) hg HV.out
            have e1 : Each 9 (RF (But (w2.heap.size + 1) (.slice (some ⟨g, 0, none⟩) (acc.length + 1) cap)) w5) xs acc := HC.out.mono fun c f hf => RF.kept hsa hf
            refine Each.snoc (n := 9) rfl ?_ e1
            exact RF.kept (stays_new HK.out.bw (fun j hj => (hlt4 j hj).2) hg HV.out) R4.out
          · exact (H4.out.alloc).below ((Below.refl _ _).grown hg (by have := H4.out.bw; simp; omega) hkk) (Nat.le_refl _)
          · exact ((HF.out.trans' F4.out HK.out.bw).alloc hsz _).grown hg (by simp; omega) hkk
          · simp only [Hid]; rw [hE3.out]; simp
          · omega
          · simp; omega

theorem parse_any (s : ByteArray) (w : World) (hs : s.size ≤ maxLen) (he : Env w) (h3 : 3 ≤ w.heap.size) : ParseC s w := by
  by_cases h : 1500 < s.size
  · exact parse_much s w hs h
  · exact parse_few s w (by omega) he h3

end Go.Proofs.YtodolmdiebgmjaaDoor
