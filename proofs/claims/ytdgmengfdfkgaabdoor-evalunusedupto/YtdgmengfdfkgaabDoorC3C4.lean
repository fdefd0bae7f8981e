/- The check: what a term is by itself. -/
import Derived.Test.YtdgmengfdfkgaabDoorC2
namespace Go.Proofs.YtdgmengfdfkgaabDoor
open Go.RowKit Go.Maps Go.WideMaps
theorem look_ok {w : World} {b K : Nat} {m : ByteArray → Option Int} (h : MapC w b K m) {x : ByteArray} (hx : x.size ≤ maxLen) :
    (Instr.lookup 57 (.map (some b)) (.string x) true).run Tryd.prog w = .ok (.tuple #[.int .i64 ((m x).getD 0), .bool (m x).isSome]) w := by
  obtain ⟨kk, D, hkk, hown, hD⟩ := h
  have hw0 : (Lit.int .i64 0).wf = true := by decide
  obtain ⟨v, ps, hrun, hv⟩ := hown.look_ok law Tryd.underlying57 (zeroE _) (plainElem_int Tryd.underlying3 hw0) (keyS hx)
  obtain ⟨c, rfl, hc, _⟩ := plainElem_int_inv Tryd.underlying3 hv
  simp only [Prod.mk.injEq] at hc
  rw [(hD x hx).1] at hc
  rw [hrun, (hD x hx).2]
  have := hc.1
  simp at this
  rw [this]
/-- The checker in memory. -/
structure CkS (B P Pm A K : Nat) (w : World) (fns : ByteArray → Option Int) (c : Pu.Cnt) : Prop where
  p : Gd w P
  m : MapC w Pm K fns
  a : CntAt w A K c
  ne : A ≠ Pm
  hA : B ≤ A
theorem CkS.no {B P Pm A K : Nat} {w w' : World} {fns : ByteArray → Option Int} {c : Pu.Cnt} (h : CkS B P Pm A K w fns c) (hf : Fr No w w') : CkS B P Pm A K w' fns c :=
  ⟨fr_heap h.p hf (fun e => e), h.m.fr hf (fun e => e), h.a.fr hf (fun e => e), h.ne, h.hA⟩
theorem CkS.mono {B P Pm A K K' : Nat} {w : World} {fns : ByteArray → Option Int} {c : Pu.Cnt} (h : CkS B P Pm A K w fns c) (hK : K ≤ K') : CkS B P Pm A K' w fns c :=
  ⟨h.p, h.m.mono hK, h.a.mono hK, h.ne, h.hA⟩
end Go.Proofs.YtdgmengfdfkgaabDoor

/- The check: is a tag taken? -/
namespace Go.Proofs.YtdgmengfdfkgaabDoor
open Go.RowKit Go.Maps Go.WideMaps
theorem taken_snoc {α : Type} (l : List (Int × List ByteArray × α)) (i : Nat) (h : i < l.length) (n : Int) : Pu.taken (l.take (i + 1)) n = (Pu.taken (l.take i) n || decide (l[i].1 = n)) := by
  unfold Pu.taken
  rw [List.take_succ_eq_append_getElem h, List.any_append]
  simp
end Go.Proofs.YtdgmengfdfkgaabDoor
