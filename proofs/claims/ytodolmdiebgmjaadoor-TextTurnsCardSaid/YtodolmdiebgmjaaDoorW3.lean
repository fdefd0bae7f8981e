/- The reader's methods that read terms, walked, over a contract of the term's own. -/
import Derived.Test.YtodolmdiebgmjaaDoorW2
import Derived.Test.YtodolmdiebgmjaaDoorRel2
namespace Go.Proofs.YtodolmdiebgmjaaDoor
open Go.RowKit

/-- What 'term' answers at level k. -/
def TermC (k : Nat) : Prop := ∀ (B R : Nat) (s : Pu.St) (a : Nat) (w : World), Ok B w R s → a + k = 26 →
  Calls Tryd.prog 40 #[.pointer (some ⟨R, 0, none⟩), .int .i64 a] w fun e w' => ∃ cs : List Value, e = .returned (.agg cs.toArray) ∧ RT k (From w.heap.size) w' cs (Pu.term k s).1 ∧ Ok B w' R (Pu.term k s).2 ∧ Fr w.heap.size R w w'

theorem list7 {l : List Value} (h : l.length = 7) : ∃ a b c d e f g, l = [a, b, c, d, e, f, g] := by
  match l, h with
  | [a, b, c, d, e, f, g], _ => exact ⟨a, b, c, d, e, f, g, rfl⟩

theorem Tryd.info33 : (Tryd.prog.info? 33).map (fun i => (i.zero, i.size, i.bytes)) = some (some (.agg #[.int .i64 0, .int .i64 0, .string ⟨#[]⟩, .string ⟨#[]⟩, .slice none 0 0, .slice none 0 0, .slice none 0 0]), 7, 120) := by kernel_rfl

/-- Behind an append the elements stand. -/
theorem stays_append {B R : Nat} {wr w4 w5 : World} {o : Obj} {v : Value} {g n cap : Nat} (hf : Fr wr.heap.size R wr w4) (hR : R < B)
    (hg : (w4.alloc o).grownBy w5 v.ownBlock) (hgv : v.ownBlock = some g ∨ g = w4.heap.size + 1) : Stays (But B v) (But B (.slice (some ⟨g, 0, none⟩) n cap)) wr w5 := by
  intro j hj hlt
  obtain ⟨h1, h2⟩ := hj
  have hl4 : j < w4.heap.size := Nat.lt_of_lt_of_le hlt hf.size
  refine ⟨⟨h1, ?_⟩, ?_⟩
  · simp only [Value.ownBlock, ne_eq, Option.some.injEq]
    rintro rfl
    rcases hgv with h | h
    · exact h2 h
    · omega
  · rw [hg.block j (by simp; omega) (fun e => h2 e.symm), Below.heap_alloc w4 o j hl4, hf.block j hlt (by omega)]
theorem stays_new {B X : Nat} {w4 w5 : World} {o : Obj} {v : Value} {g n cap : Nat} (hB : B ≤ X) (hv : ∀ k, v.ownBlock = some k → k < X)
    (hg : (w4.alloc o).grownBy w5 v.ownBlock) (hgv : v.ownBlock = some g ∨ g = w4.heap.size + 1) : Stays (From X) (But B (.slice (some ⟨g, 0, none⟩) n cap)) w4 w5 := by
  intro j hj hlt
  have hj : X ≤ j := hj
  refine ⟨⟨Nat.le_trans hB hj, ?_⟩, ?_⟩
  · simp only [Value.ownBlock, ne_eq, Option.some.injEq]
    rintro rfl
    rcases hgv with h | h
    · have := hv _ h; omega
    · omega
  · rw [hg.block j (by simp; omega) (fun e => by have := hv j e.symm; omega), Below.heap_alloc w4 o j hlt]

-- 'terms'
set_option maxHeartbeats 1000000 in
theorem terms_ok (k : Nat) (hk : 1 ≤ k) (hT : TermC k) (B R : Nat) (s : Pu.St) (a : Nat) (w : World) (h : Ok B w R s) (ha : a + k = 26) :
    Calls Tryd.prog 67 #[.pointer (some ⟨R, 0, none⟩), .int .i64 a] w fun e w' => ∃ v xs, e = .returned v ∧ w'.ownsRow w.heap.size 33 7 v (Pu.terms (Pu.term k) (s.ws.length + 1) s).1.length xs ∧
      Each 7 (RT k (From w.heap.size) w') xs (Pu.terms (Pu.term k) (s.ws.length + 1) s).1 ∧ Ok B w' R (Pu.terms (Pu.term k) (s.ws.length + 1) s).2 ∧ Fr w.heap.size R w w' := by
  obtain ⟨i0, hi, hz0, hz1, hz2⟩ := info_parts Tryd.info33
  have H := hide h
  have HA := hide ha
  have HT := hide hT
  clear h ha hT
  go_enter Tryd.func67, Tryd.ntmps67
  go_wp2_with fail
  go_loopg [5] (s.ws.length + 1) (fun gn v wr => ∃ acc st xs, wr.ownsRow w.heap.size 33 7 v acc.length xs ∧ Each 7 (RT k (But w.heap.size v) wr) xs acc ∧ Ok B wr R st ∧ Fr w.heap.size R w wr ∧
    Hid (Pu.terms (Pu.term k) (s.ws.length + 1) s = (acc ++ (Pu.terms (Pu.term k) gn st).1, (Pu.terms (Pu.term k) gn st).2)) ∧ st.ws.length < gn ∧ acc.length + st.ws.length ≤ 1600)
  case atStart =>
    refine ⟨[], s, [], World.ownsRow_nil _ _ _ _, rfl, H.out, Fr.refl _ _ _, ?_, by omega, ?_⟩
    · simp [Hid]
    · have := H.out.few; simpa using this
  case round =>
    obtain ⟨acc, st, xs, hown, heach, hok, hfr, hE, hlt, hle⟩ := hrel
    have HO := hide hown
    have HC := hide heach
    have HK := hide hok
    clear hown hok heach
    cases gk with
    | zero => omega
    | succ n =>
      go_wp2_with fail
      refine (more_ok B R st _ HK.out).mono ?_
      rintro e w2 ⟨rfl, hr2, hf2⟩
      have H2 := hide hr2
      clear hr2
      have hRb : R < w.heap.size := H.out.lt
      cases hm : (Pu.more st).1
      · have hE2 : Hid (Pu.terms (Pu.term k) (s.ws.length + 1) s = (acc, (Pu.more st).2)) := by
          have := hE.out; rw [Hid, this]; simp [Pu.terms, hm]
        clear hE
        go_wp2_with fail
        go_ret
        refine ⟨_, xs, rfl, ?_, ?_, ?_, hfr.trans' hf2 hfr.size⟩
        · rw [hE2.out]; exact ownsRow_fr HO.out hf2 hRb
        · rw [hE2.out]; exact HC.out.mono fun c t ht => RT.kept (fun j hj hl => ⟨hj.1, hf2.block j hl (by have := hj.1; omega)⟩) ht
        · rw [hE2.out]; exact H2.out
      · obtain ⟨hms, hpos⟩ := Pu.more_true hm
        have H2 : Hid (Ok B w2 R st) := by have := H2.out; rw [hms] at this; exact this
        have hE2 : Hid (Pu.terms (Pu.term k) (s.ws.length + 1) s = (acc ++ (Pu.term k st).1 :: (Pu.terms (Pu.term k) n (Pu.term k st).2).1, (Pu.terms (Pu.term k) n (Pu.term k st).2).2)) := by
          have := hE.out; rw [Hid, this]; simp [Pu.terms, hm, hms]
        clear hE
        go_wp2_with fail
        refine (HT.out B R st a _ H2.out HA.out).mono ?_
        rintro e w4 ⟨cs, rfl, hrt, hr4, hf4⟩
        obtain ⟨c0, c1, c2, c3, c4, c5, c6, rfl⟩ := list7 hrt.length
        have hln := Pu.term_less k hk st hpos
        have HR4 := hide hrt
        have H4 := hide hr4
        clear hrt hr4
        have hf : Fr wr.heap.size R wr w4 := hf2.trans' hf4 hf2.size
        have HO4 := hide (ownsRow_fr HO.out hf hRb)
        have hsz : w.heap.size ≤ w4.heap.size := Nat.le_trans hfr.size hf.size
        go_wp2_with (at_builtin; refine wpList_append_lies _ rfl _ _ 30 rfl w.heap.size 33 i0 _ 7 120 Tryd.underlying30 hi hz0 hz1 hz2 rfl (by decide) _ _ _ rfl (HO4.out.alloc _) ⟨w4.heap.size, 0, none⟩ 1 1 [c0, c1, c2, c3, c4, c5, c6] rfl rfl (World.news_of_block (heap_alloc_new _ _)) HR4.out.one (by decide) ?c3 ?c4 ?c5 (w4.heap.size + 1) ?c6 ?_)
        case c3 => unfold maxLen; omega
        case c4 => omega
        case c5 => simp; omega
        case c6 => simp
        intro g cap w5 hown' hgrow' hgv hg5
        have HO5 := hide hown'
        have HG5 := hide hgrow'
        have HV := hide hgv
        clear hown' hgrow' hgv
        go_wp2_with fail
        go_roundg n
        case measure => omega
        case rel =>
          have hg := HG5.out
          have hown := HO5.out
          have hkk := ownBlock_ge HO4.out
          have hlt4 := HO.out.lt
          refine ⟨acc ++ [(Pu.term k st).1], (Pu.term k st).2, xs ++ [c0, c1, c2, c3, c4, c5, c6], ?_, ?_, ?_, ?_, ?_, ?_, ?_⟩
          · simpa using hown
          · have e1 : Each 7 (RT k (But w.heap.size (.slice (some ⟨g, 0, none⟩) (acc.length + 1) cap)) w5) xs acc := HC.out.mono fun c t ht => RT.kept (stays_append hf hRb hg HV.out) ht
            refine Each.snoc (n := 7) rfl ?_ e1
            exact RT.kept (stays_new (Nat.le_trans hfr.size hf2.size) (fun j hj => Nat.lt_of_lt_of_le (hlt4 j hj).2 hf2.size) hg HV.out) HR4.out
          · exact (H4.out.alloc).below ((Below.refl B _).grown hg (by have := H4.out.bw; simp; omega) (fun j hj => by have := hkk j hj; have := H.out.bw; omega)) (Nat.le_refl _)
          · exact ((hfr.trans' hf hfr.size).alloc hsz _).grown hg (by simp; omega) hkk
          · simp only [Hid]; rw [hE2.out]; simp
          · omega
          · simp; omega

theorem Each.two {α : Type} {n : Nat} {P : List Value → α → Prop} {a b : α} {c d : List Value} (hc : c.length = n) (hd : d.length = n) (ha : P c a) (hb : P d b) : Each n P (c ++ d) [a, b] :=
  ⟨c, d, rfl, hc, ha, d, [], by simp, hd, hb, rfl⟩

-- 'two'
set_option maxHeartbeats 1000000 in
theorem two_ok (k : Nat) (hT : TermC k) (B R : Nat) (s : Pu.St) (a : Nat) (w : World) (h : Ok B w R s) (ha : a + k = 26) :
    Calls Tryd.prog 68 #[.pointer (some ⟨R, 0, none⟩), .int .i64 a] w fun e w' => ∃ v xs, e = .returned v ∧ w'.ownsRow w.heap.size 33 7 v 2 xs ∧
      Each 7 (RT k (From w.heap.size) w') xs (Pu.two (Pu.term k) s).1 ∧ Ok B w' R (Pu.two (Pu.term k) s).2 ∧ Fr w.heap.size R w w' := by
  have H := hide h
  have HA := hide ha
  have HT := hide hT
  clear h ha hT
  go_enter Tryd.func68, Tryd.ntmps68
  go_wp2_with fail
  refine (HT.out B R s a _ H.out HA.out).mono ?_
  rintro e w1 ⟨cs, rfl, hrt, hr1, hf1⟩
  obtain ⟨kd, nn, x, a1, n1, q1, a2, n2, q2, rfl⟩ := hrt.form
  have HR1 := hide hrt
  have H1 := hide hr1
  clear hrt hr1
  go_wp2_with fail
  refine (HT.out B R _ a _ H1.out.alloc HA.out).mono ?_
  rintro e w2 ⟨cs, rfl, hrt, hr2, hf2⟩
  obtain ⟨kd', nn', x', a1', n1', q1', a2', n2', q2', rfl⟩ := hrt.form
  have HR2 := hide hrt
  have H2 := hide hr2
  clear hrt hr2
  go_wp2_with fail
  refine (expect_ok B R _ _ _ H2.out.alloc).mono ?_
  rintro e w3 ⟨rfl, hr3, hf3⟩
  have H3 := hide hr3
  clear hr3
  have hRb : R < w.heap.size := H.out.lt
  have hb2 := fresh_block hf2 H1.out.lt
  have hb3 := fresh_block hf3 H2.out.lt
  have hb23 := block_later hb2 hf3.of_alloc (by have := H1.out.lt; omega)
  have k1 := cell_of_heap hb23
  have k2 := cell_of_heap hb3
  clear hb2 hb3 hb23
  have HF1 := hide hf1
  have HF2 := hide hf2
  have HF3 := hide hf3
  clear hf1 hf2 hf3
  go_wp2_with fail
  go_ret
  have f12 : Fr w1.heap.size R w1 w2 := HF2.out.of_alloc
  have f23 : Fr w2.heap.size R w2 w3 := HF3.out.of_alloc
  have s1 := HF1.out.size
  have s2 := f12.size
  have s3 := f23.size
  have f3' : ∀ o, Fr w3.heap.size R w3 (w3.alloc o) := fun o => (Fr.refl _ R w3).alloc (Nat.le_refl _) o
  refine ⟨_, [Value.int .i64 kd, .int .i64 nn, .string x, .string ⟨#[]⟩, .slice none 0 0, .slice a1 n1 q1, .slice a2 n2 q2, .int .i64 kd', .int .i64 nn', .string x', .string ⟨#[]⟩, .slice none 0 0, .slice a1' n1' q1', .slice a2' n2' q2'], rfl, ?_, ?_, ?_, ?_⟩
  · exact World.ownsRow_lit w3 _ 2 (by omega) (by unfold maxLen; omega) rfl
  · refine Each.two (c := [Value.int .i64 kd, .int .i64 nn, .string x, .string ⟨#[]⟩, .slice none 0 0, .slice a1 n1 q1, .slice a2 n2 q2]) (d := [.int .i64 kd', .int .i64 nn', .string x', .string ⟨#[]⟩, .slice none 0 0, .slice a1' n1' q1', .slice a2' n2' q2']) rfl rfl ?_ ?_
    · exact RT.kept (stays_fr (B := w.heap.size) ((f12.trans' f23 s2).trans' (f3' _) (by omega)) hRb (Nat.le_refl _)) HR1.out
    · exact RT.kept (stays_fr (B := (w1.alloc _).heap.size) (f23.trans' (f3' _) (by omega)) (by have := H1.out.lt; simp; omega) (by simp; omega)) HR2.out
  · exact H3.out.alloc
  · exact (((HF1.out.trans' f12 s1).trans' f23 (by omega)).trans' (f3' _) (by omega))

end Go.Proofs.YtodolmdiebgmjaaDoor
