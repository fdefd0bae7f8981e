/- The check: what a term is by itself. -/
import Derived.Test.YtmjpfiecgkoaeaaC2
namespace Go.Proofs.Ytmjpfiecgkoaeaa
open Go.RowKit Go.Maps Go.WideMaps

theorem look_ok {w : World} {b K : Nat} {m : ByteArray → Option Int} (h : MapC w b K m) {x : ByteArray} (hx : x.size ≤ maxLen) :
    (Instr.lookup 60 (.map (some b)) (.string x) true).run Try.prog w = .ok (.tuple #[.int .i64 ((m x).getD 0), .bool (m x).isSome]) w := by
  obtain ⟨kk, D, hkk, hown, hD⟩ := h
  have hw0 : (Lit.int .i64 0).wf = true := by decide
  obtain ⟨v, ps, hrun, hv⟩ := hown.look_ok law Try.underlying60 (zeroE _) (plainElem_int Try.underlying3 hw0) (keyS hx)
  obtain ⟨c, rfl, hc, _⟩ := plainElem_int_inv Try.underlying3 hv
  simp only [Prod.mk.injEq] at hc
  rw [(hD x hx).1] at hc
  rw [hrun, (hD x hx).2]
  have := hc.1
  simp at this
  rw [this]

/-- The checker in memory. -/
structure CkS (B P Pm A K : Nat) (w : World) (fns : ByteArray → Option Int) (c : Pu.Cnt) : Prop where
  p : Gd w P
  m : MapC w Pm K fns
  a : CntAt w A K c
  ne : A ≠ Pm
  hA : B ≤ A

theorem CkS.no {B P Pm A K : Nat} {w w' : World} {fns : ByteArray → Option Int} {c : Pu.Cnt} (h : CkS B P Pm A K w fns c) (hf : Fr No w w') : CkS B P Pm A K w' fns c :=
  ⟨fr_heap h.p hf (fun e => e), h.m.fr hf (fun e => e), h.a.fr hf (fun e => e), h.ne, h.hA⟩
theorem CkS.turn {B P Pm A K K' : Nat} {w w' : World} {fns : ByteArray → Option Int} {c c' : Pu.Cnt} (h : CkS B P Pm A K w fns c) (hf : Fr (· = A) w w') (hK : K ≤ K') (hc : CntAt w' A K' c') : CkS B P Pm A K' w' fns c' :=
  ⟨fr_heap h.p hf (h.a.ne_cells h.p), (h.m.fr hf (fun e => h.ne e.symm)).mono hK, hc, h.ne, h.hA⟩
theorem CkS.mono {B P Pm A K K' : Nat} {w : World} {fns : ByteArray → Option Int} {c : Pu.Cnt} (h : CkS B P Pm A K w fns c) (hK : K ≤ K') : CkS B P Pm A K' w fns c :=
  ⟨h.p, h.m.mono hK, h.a.mono hK, h.ne, h.hA⟩

theorem fr2 (w : World) (o1 o2 : Obj) : Fr No w ((w.alloc o1).alloc o2) := ((Fr.refl No w).alloc _).alloc _

theorem wrap_in (n : Int) : (wrap64 (wrap32 n) == n) = decide (-2147483648 ≤ n ∧ n ≤ 2147483647) := by
  rw [Bool.eq_iff_iff]
  simp only [beq_iff_eq, decide_eq_true_eq]
  unfold wrap64 wrap32
  omega

set_option maxHeartbeats 4000000 in
theorem alone_any {α : Type} (B P Pm A K : Nat) (w : World) (fns : ByteArray → Option Int) (c : Pu.Cnt) (t : Pu.Node α) (y : ByteArray) (v4 v6 : Value) (a1 : Option Addr) (c1 : Nat) (hs : CkS B P Pm A K w fns c) (hx : t.name.size ≤ maxLen) (hn : (Lit.int .i64 t.n).wf = true) (hl : t.args.length ≤ maxLen) :
    Calls Try.prog 57 #[Ck P Pm A, .agg #[.int .i64 t.kind, .int .i64 t.n, .string t.name, .string y, v4, .slice a1 t.args.length c1, v6]] w fun e w' => e = .returned (.int .i64 (Pu.alone fns c t)) ∧ Fr No w w' := by
  obtain ⟨kd, n, x, tk, vs, args, cases⟩ := t
  simp only at hx hn hl ⊢
  have had : Pu.alone fns c (⟨kd, n, x, tk, vs, args, cases⟩ : Pu.Node α) = (if kd = 1 then Pu.orErr (decide (0 < c x)) 6
    else if kd = 2 then Pu.orErr (decide (-2147483648 ≤ n ∧ n ≤ 2147483647)) 3
    else if kd = 3 then Pu.orErr (Pu.isTag n) 3
    else if kd = 5 then Pu.orErr (decide (1 ≤ n ∧ n ≤ 5)) 1
    else if kd = 6 then Pu.orErr (isName x) 7
    else if kd = 4 then
      match fns x with
      | none => 6
      | some m => Pu.orErr (decide (m = (args.length : Int))) 5
    else 0) := rfl
  rw [had]
  clear had
  generalize args.length = na at *
  have hn' : -9223372036854775808 ≤ n ∧ n ≤ 9223372036854775807 := by simpa [Lit.wf, IntKind.min, IntKind.max, IntKind.signed, IntKind.bits] using hn
  unfold maxLen at hl
  have HS := hide hs
  have hPs : P < w.heap.size := lt_of_heap hs.p
  show Calls Try.prog 57 #[.agg #[.func (.func 49) #[] #[.pointer (some ⟨P, 0, none⟩)], .map (some Pm), .map (some A)], .agg #[.int .i64 kd, .int .i64 n, .string x, .string y, v4, .slice a1 na c1, v6]] w _
  obtain ⟨W, hW⟩ : ∃ W, W = (w.alloc (.cells #[.func (.func 49) #[] #[.pointer (some ⟨P, 0, none⟩)], .map (some Pm), .map (some A)] 67)).alloc (.cells #[.int .i64 kd, .int .i64 n, .string x, .string y, v4, .slice a1 na c1, v6] 27) := ⟨_, rfl⟩
  have fW : Fr No w W := by rw [hW]; exact fr2 _ _ _
  have hsW := hs.no fW
  clear hs
  by_cases k1 : kd = 1
  · subst k1
    have h1 := look_cnt 61 Try.underlying61 hsW.a hx
    rw [hW] at h1
    rw [if_pos rfl]
    go_enter Try.func57, Try.ntmps57
    go_wp2_with fail
    refine (unless_any _ _ _).mono ?_
    rintro e w1 ⟨rfl, rfl⟩
    clear h1
    go_wp2_with fail
    go_ret
    refine ⟨?_, fr2 _ _ _⟩
    first | (congr 3; done) | (congr 3; simp)
  rw [if_neg k1]
  by_cases k2 : kd = 2
  · subst k2
    rw [if_pos rfl]
    go_enter Try.func57, Try.ntmps57
    go_wp2_with fail
    refine (unless_any _ _ _).mono ?_
    rintro e w1 ⟨rfl, rfl⟩
    go_wp2_with fail
    go_ret
    refine ⟨?_, fr2 _ _ _⟩
    first | (rw [wrap_in]; done) | (rw [wrap_in]; rfl) | (congr 3; exact wrap_in n)
  rw [if_neg k2]
  by_cases k3 : kd = 3
  · subst k3
    rw [if_pos rfl]
    go_enter Try.func57, Try.ntmps57
    go_wp2_with fail
    refine (isTag_any _ _).mono ?_
    rintro e w1 ⟨rfl, rfl⟩
    go_wp2_with fail
    refine (unless_any _ _ _).mono ?_
    rintro e w1 ⟨rfl, rfl⟩
    go_wp2_with fail
    go_ret
    exact ⟨rfl, fr2 _ _ _⟩
  rw [if_neg k3]
  by_cases k5 : kd = 5
  · subst k5
    rw [if_pos rfl]
    by_cases n1 : 1 ≤ n
    · by_cases n5 : n ≤ 5
      · rw [decide_eq_true ⟨n1, n5⟩]
        go_enter Try.func57, Try.ntmps57
        go_wp2_with fail
        refine (unless_any _ _ _).mono ?_
        rintro e w1 ⟨rfl, rfl⟩
        go_wp2_with fail
        go_ret
        exact ⟨by first | rfl | (simp; done) | (simp [Pu.orErr, n1, n5]; done), fr2 _ _ _⟩
      · rw [decide_eq_false (fun h => n5 h.2)]
        go_enter Try.func57, Try.ntmps57
        go_wp2_with fail
        refine (unless_any _ _ _).mono ?_
        rintro e w1 ⟨rfl, rfl⟩
        go_wp2_with fail
        go_ret
        exact ⟨by first | rfl | (simp; done) | (simp [Pu.orErr, n5]; done), fr2 _ _ _⟩
    · rw [decide_eq_false (fun h => n1 h.1)]
      go_enter Try.func57, Try.ntmps57
      go_wp2_with fail
      refine (unless_any _ _ _).mono ?_
      rintro e w1 ⟨rfl, rfl⟩
      go_wp2_with fail
      go_ret
      exact ⟨by first | rfl | (simp; done) | (simp [Pu.orErr, n1]; done), fr2 _ _ _⟩
  rw [if_neg k5]
  by_cases k6 : kd = 6
  · subst k6
    rw [if_pos rfl]
    have HG := hide (guard_any P x W hx hsW.p)
    rw [hW] at HG
    go_enter Try.func57, Try.ntmps57
    go_wp2_with fail
    refine HG.out.mono ?_
    rintro e w1 ⟨rfl, hf1⟩
    have HF1 := hide hf1
    clear hf1
    go_wp2_with fail
    refine (unless_any _ _ _).mono ?_
    rintro e w2 ⟨rfl, rfl⟩
    go_wp2_with fail
    go_ret
    exact ⟨rfl, (fr2 _ _ _).trans HF1.out⟩
  rw [if_neg k6]
  by_cases k4 : kd = 4
  · subst k4
    rw [if_pos rfl]
    have h1 := look_ok hsW.m hx
    rw [hW] at h1
    obtain ⟨r, hr⟩ : ∃ r, fns x = r := ⟨_, rfl⟩
    rw [hr] at h1 ⊢
    cases r with
    | none =>
      simp only [Option.getD_none, Option.isSome_none] at h1
      go_enter Try.func57, Try.ntmps57
      go_wp2_with fail
      go_ret
      exact ⟨rfl, fr2 _ _ _⟩
    | some m =>
      simp only [Option.getD_some, Option.isSome_some] at h1
      go_enter Try.func57, Try.ntmps57
      go_wp2_with fail
      refine (unless_any _ _ _).mono ?_
      rintro e w2 ⟨rfl, rfl⟩
      clear h1
      go_wp2_with fail
      go_ret
      refine ⟨?_, fr2 _ _ _⟩
      congr 3
  rw [if_neg k4]
  go_enter Try.func57, Try.ntmps57
  go_wp2_with fail
  go_ret
  exact ⟨rfl, fr2 _ _ _⟩
end Go.Proofs.Ytmjpfiecgkoaeaa
