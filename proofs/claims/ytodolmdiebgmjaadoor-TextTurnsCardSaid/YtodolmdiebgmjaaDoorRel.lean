/- How the reader and what it makes lie in memory; what stays while the program goes on. No walk in it. -/
import Derived.Test.YtodolmdiebgmjaaDoorPu
import Derived.WalkKit
import Derived.KernelRfl
import Derived.Lib.LaidTab
import Derived.Shelf.Strconv.Itoa3
import Derived.Test.YtodolmdiebgmjaaDoorProg
namespace Go.Proofs.YtodolmdiebgmjaaDoor
open Go.RowKit

theorem hide {p : Prop} (h : p) : Hid p := h

/-- Below block number B the world is as it was, but for block R. -/
structure Fr (B R : Nat) (w w' : World) : Prop where
  os : w'.os = w.os
  tape : w'.tape = w.tape
  output : w'.output = w.output
  size : w.heap.size ≤ w'.heap.size
  block : ∀ k, k < B → k ≠ R → w'.heap[k]? = w.heap[k]?

theorem Fr.refl (B R : Nat) (w : World) : Fr B R w w := ⟨rfl, rfl, rfl, Nat.le_refl _, fun _ _ _ => rfl⟩
theorem Fr.trans {B R : Nat} {a b c : World} (h : Fr B R a b) (k : Fr B R b c) : Fr B R a c :=
  ⟨k.os.trans h.os, k.tape.trans h.tape, k.output.trans h.output, Nat.le_trans h.size k.size, fun i hi hr => (k.block i hi hr).trans (h.block i hi hr)⟩
theorem Fr.mono {B B' R : Nat} {w w' : World} (h : Fr B R w w') (hB : B' ≤ B) : Fr B' R w w' := ⟨h.os, h.tape, h.output, h.size, fun k hk hr => h.block k (Nat.lt_of_lt_of_le hk hB) hr⟩
theorem Fr.trans' {B B' R : Nat} {a b c : World} (h : Fr B R a b) (k : Fr B' R b c) (hB : B ≤ B') : Fr B R a c := h.trans (k.mono hB)
theorem Fr.of_below {B R : Nat} {w w' : World} (h : Below B w w') : Fr B R w w' := ⟨h.os, h.tape, h.output, h.size, fun k hk _ => h.block k hk⟩
theorem Fr.alloc {B R : Nat} {a w : World} (h : Fr B R a w) (hB : B ≤ w.heap.size) (o : Obj) : Fr B R a (w.alloc o) :=
  h.trans (Fr.of_below ((Below.refl B w).alloc hB o))
theorem Fr.drew {B R : Nat} {a w : World} (h : Fr B R a w) : Fr B R a w.drew := ⟨h.os, h.tape, h.output, h.size, h.block⟩
theorem Fr.setCell {B R : Nat} {a w : World} (h : Fr B R a w) {p : Addr} (hp : B ≤ p.block) (u : Value) : Fr B R a (w.setCell p u) :=
  h.trans (Fr.of_below ((Below.refl B w).setCell hp u))
theorem Fr.setR {B R : Nat} {a w : World} (h : Fr B R a w) (o : Nat) (u : Value) : Fr B R a (w.setCell ⟨R, o, none⟩ u) :=
  h.trans ⟨rfl, rfl, rfl, by simp [World.setCell], fun k _ hr => Below.heap_setCell _ _ _ _ hr⟩
theorem Fr.grown {B R : Nat} {a w w' : World} {row : Option Nat} (h : Fr B R a w) (hg : w.grownBy w' row) (hB : B ≤ w.heap.size) (hr : ∀ k, row = some k → B ≤ k) : Fr B R a w' :=
  h.trans (Fr.of_below ((Below.refl B w).grown hg hB hr))

/-- The words of a reader at block R, all below B. -/
def Ws (B : Nat) (w : World) (R : Nat) (v : Value) (ws : List ByteArray) : Prop :=
  (v = .slice none 0 0 ∧ ws = []) ∨
  ∃ g off cap cur t, v = .slice (some ⟨g, off, none⟩) ws.length cap ∧ g < B ∧ g ≠ R ∧ w.heap[g]? = some (.cells cur t (0, 0)) ∧ ws.length ≤ cap ∧ cap ≤ maxLen ∧
    ∀ i x, ws[i]? = some x → cur[off + i]? = some (.string x)

/-- A reader at block R. -/
def Rdr (B : Nat) (w : World) (R : Nat) (s : Pu.St) : Prop :=
  R < B ∧ ∃ v, w.heap[R]? = some (.cells #[v, .int .i64 s.err] 43 (0, 0)) ∧ Ws B w R v s.ws

theorem Ws.kept {B : Nat} {w w' : World} {R : Nat} {v : Value} {ws : List ByteArray} (h : Ws B w R v ws) (hb : ∀ k, k < B → k ≠ R → w'.heap[k]? = w.heap[k]?) : Ws B w' R v ws := by
  rcases h with h | ⟨g, off, cap, cur, t, h1, h2, h3, h4, h5⟩
  · exact .inl h
  · exact .inr ⟨g, off, cap, cur, t, h1, h2, h3, by rw [hb g h2 h3]; exact h4, h5⟩

theorem Rdr.kept {B : Nat} {w w' : World} {R : Nat} {s : Pu.St} (h : Rdr B w R s) (hb : ∀ k, k < B → w'.heap[k]? = w.heap[k]?) : Rdr B w' R s := by
  obtain ⟨hR, v, h1, h2⟩ := h
  exact ⟨hR, v, by rw [hb R hR]; exact h1, h2.kept (fun k hk _ => hb k hk)⟩
theorem Rdr.below {B B' : Nat} {w w' : World} {R : Nat} {s : Pu.St} (h : Rdr B w R s) (hb : Below B' w w') (hB : B ≤ B') : Rdr B w' R s :=
  h.kept (fun k hk => hb.block k (Nat.lt_of_lt_of_le hk hB))
theorem Rdr.alloc {B : Nat} {w : World} {R : Nat} {s : Pu.St} (h : Rdr B w R s) (hB : B ≤ w.heap.size) (o : Obj) : Rdr B (w.alloc o) R s :=
  h.below ((Below.refl B w).alloc hB o) (Nat.le_refl _)
theorem Rdr.setCell {B : Nat} {w : World} {R : Nat} {s : Pu.St} (h : Rdr B w R s) {p : Addr} (hp : B ≤ p.block) (u : Value) : Rdr B (w.setCell p u) R s :=
  h.below ((Below.refl B w).setCell hp u) (Nat.le_refl _)
theorem Rdr.grown {B : Nat} {w w' : World} {R : Nat} {s : Pu.St} {row : Option Nat} (h : Rdr B w R s) (hg : w.grownBy w' row) (hB : B ≤ w.heap.size) (hr : ∀ k, row = some k → B ≤ k) : Rdr B w' R s :=
  h.below ((Below.refl B w).grown hg hB hr) (Nat.le_refl _)

theorem cell_of_heap {w : World} {R : Nat} {cur : Array Value} {t : TypeId} {z : Nat × Nat} (h : w.heap[R]? = some (.cells cur t z)) (o : Nat) : w.cell? ⟨R, o, none⟩ = cur[o]? := by
  simp [World.cell?, h]
theorem frozen_of_heap {w : World} {R : Nat} {cur : Array Value} {t : TypeId} (h : w.heap[R]? = some (.cells cur t (0, 0))) (o : Nat) : w.frozen? ⟨R, o, none⟩ = false := by
  simp [World.frozen?, h]
theorem heap_setCell_at {w : World} {R : Nat} {cur : Array Value} {t : TypeId} {z : Nat × Nat} (h : w.heap[R]? = some (.cells cur t z)) (o : Nat) (u : Value) :
    (w.setCell ⟨R, o, none⟩ u).heap[R]? = some (.cells (cur.setIfInBounds o u) t z) := by
  simp [World.setCell, Array.getElem?_modify, h]

theorem blocks_setR (w : World) (R o : Nat) (u : Value) (k : Nat) (hk : k ≠ R) : (w.setCell ⟨R, o, none⟩ u).heap[k]? = w.heap[k]? := Below.heap_setCell _ _ _ _ hk

/-- The words are set anew. -/
theorem Rdr.set0 {B : Nat} {w : World} {R : Nat} {s : Pu.St} (h : Rdr B w R s) {v : Value} {ws : List ByteArray} (hw : Ws B w R v ws) : Rdr B (w.setCell ⟨R, 0, none⟩ v) R ⟨ws, s.err⟩ := by
  obtain ⟨hR, v0, h1, h2⟩ := h
  refine ⟨hR, v, ?_, hw.kept (fun k _ hk => blocks_setR w R 0 v k hk)⟩
  rw [heap_setCell_at h1 0 v]; rfl
/-- The error is set anew. -/
theorem Rdr.set1 {B : Nat} {w : World} {R : Nat} {s : Pu.St} (h : Rdr B w R s) (c : Int) : Rdr B (w.setCell ⟨R, 1, none⟩ (.int .i64 c)) R ⟨s.ws, c⟩ := by
  obtain ⟨hR, v0, h1, h2⟩ := h
  refine ⟨hR, v0, ?_, h2.kept (fun k _ hk => blocks_setR w R 1 _ k hk)⟩
  rw [heap_setCell_at h1 1 _]; rfl
theorem Ws.nil (B : Nat) (w : World) (R : Nat) : Ws B w R (.slice none 0 0) [] := .inl ⟨rfl, rfl⟩

/-- What a walk reads of a reader. -/
theorem Rdr.cells {B : Nat} {w : World} {R : Nat} {s : Pu.St} (h : Rdr B w R s) :
    ∃ v, w.cell? ⟨R, 0, none⟩ = some v ∧ w.cell? ⟨R, 1, none⟩ = some (.int .i64 s.err) ∧ w.frozen? ⟨R, 0, none⟩ = false ∧ w.frozen? ⟨R, 1, none⟩ = false ∧ Ws B w R v s.ws := by
  obtain ⟨hR, v, h1, h2⟩ := h
  exact ⟨v, by rw [cell_of_heap h1]; rfl, by rw [cell_of_heap h1]; rfl, frozen_of_heap h1 0, frozen_of_heap h1 1, h2⟩

/-- A reader with no word left: its slice has no length. -/
theorem Ws.none {B : Nat} {w : World} {R : Nat} {v : Value} (h : Ws B w R v []) : ∃ a cap, v = .slice a 0 cap := by
  rcases h with ⟨h, _⟩ | ⟨g, off, cap, cur, t, h1, _⟩
  · exact ⟨_, _, h⟩
  · exact ⟨_, _, h1⟩
/-- A reader with a word left. -/
theorem Ws.cons {B : Nat} {w : World} {R : Nat} {v : Value} {x : ByteArray} {r : List ByteArray} (h : Ws B w R v (x :: r)) :
    ∃ g off cap, v = .slice (some ⟨g, off, .none⟩) (r.length + 1) cap ∧ w.cell? ⟨g, off, .none⟩ = some (.string x) ∧ r.length + 1 ≤ cap ∧ cap ≤ maxLen ∧
      Ws B w R (.slice (some ⟨g, off + 1, .none⟩) r.length (cap - 1)) r ∧ (cap = 1 → Ws B w R (.slice (some ⟨g, off, .none⟩) r.length 0) r) := by
  rcases h with ⟨_, h⟩ | ⟨g, off, cap, cur, t, h1, h2, h3, h4, h5, h6, h7⟩
  · cases h
  · refine ⟨g, off, cap, h1, ?_, h5, h6, .inr ⟨g, off + 1, cap - 1, cur, t, rfl, h2, h3, h4, ?_, by omega, ?_⟩, ?_⟩
    · rw [cell_of_heap h4]; exact h7 0 x rfl
    · simp at h5; omega
    · intro i y hy
      have := h7 (i + 1) y hy
      rw [show off + 1 + i = off + (i + 1) from by omega]; exact this
    · intro hc
      have : r = [] := by simp at h5; exact List.length_eq_zero_iff.1 (by omega)
      subst this
      exact .inr ⟨g, off, 0, cur, t, rfl, h2, h3, h4, by simp, by omega, fun i x hx => by simp at hx⟩

/-- The library's variables that the reading of numbers takes. -/
def Env (w : World) : Prop :=
  Lib.TabIs Tryd.prog w "internal/strconv.uint64pow10" .u64 Lib.pow10Tab ∧ (∃ tp p, w.var? Tryd.prog "strconv.ErrSyntax" = some #[.iface tp p]) ∧ (∃ tp p, w.var? Tryd.prog "strconv.ErrRange" = some #[.iface tp p])

theorem var_kept {w w' : World} (name : String) (g : Nat) (hg : Tryd.prog.globalNamed name = some g) (h : w'.heap[g]? = w.heap[g]?) : w'.var? Tryd.prog name = w.var? Tryd.prog name := by
  simp only [World.var?, hg, Option.bind_some, h]
theorem named0 : Tryd.prog.globalNamed "strconv.ErrSyntax" = some 1 := by kernel_rfl
theorem named1 : Tryd.prog.globalNamed "strconv.ErrRange" = some 2 := by kernel_rfl
theorem named2 : Tryd.prog.globalNamed "internal/strconv.uint64pow10" = some 0 := by kernel_rfl

theorem Env.kept {w w' : World} (h : Env w) (hb : ∀ k, k < 3 → w'.heap[k]? = w.heap[k]?) : Env w' := by
  obtain ⟨h1, ⟨tp, p, h2⟩, ⟨tp', p', h3⟩⟩ := h
  refine ⟨?_, ⟨tp, p, ?_⟩, ⟨tp', p', ?_⟩⟩
  · unfold Lib.TabIs; rw [var_kept _ 0 named2 (hb 0 (by omega))]; exact h1
  · rw [var_kept _ 1 named0 (hb 1 (by omega))]; exact h2
  · rw [var_kept _ 2 named1 (hb 2 (by omega))]; exact h3
theorem Env.fr {B R : Nat} {w w' : World} (h : Env w) (hf : Fr B R w w') (hB : 3 ≤ B) (hR : 3 ≤ R) : Env w' :=
  h.kept (fun k hk => hf.block k (by omega) (by omega))
theorem Env.below {B : Nat} {w w' : World} (h : Env w) (hf : Below B w w') (hB : 3 ≤ B) : Env w' :=
  h.kept (fun k hk => hf.block k (by omega))

/-- A reader at block R, and all that its methods lean on. -/
structure Ok (B : Nat) (w : World) (R : Nat) (s : Pu.St) : Prop where
  rdr : Rdr B w R s
  env : Env w
  r3 : 3 ≤ R
  bw : B ≤ w.heap.size
  few : s.ws.length ≤ 1600
  short : ∀ x, x ∈ s.ws → x.size ≤ 1600

theorem Ok.step {B : Nat} {w w' : World} {R : Nat} {s s' : Pu.St} (h : Ok B w R s) (hr : Rdr B w' R s') (hf : Fr w.heap.size R w w') (hs : s'.ws <:+ s.ws) : Ok B w' R s' := by
  have hR := h.rdr.1
  refine ⟨hr, h.env.fr hf (by have := h.r3; have := h.bw; omega) h.r3, h.r3, Nat.le_trans h.bw hf.size, ?_, fun x hx => h.short x (hs.subset hx)⟩
  exact Nat.le_trans hs.length_le h.few
theorem Ok.below {B B' : Nat} {w w' : World} {R : Nat} {s : Pu.St} (h : Ok B w R s) (hb : Below B' w w') (hB : B ≤ B') : Ok B w' R s := by
  have hR := h.rdr.1
  exact ⟨h.rdr.below hb hB, h.env.below hb (by have := h.r3; omega), h.r3, Nat.le_trans h.bw hb.size, h.few, h.short⟩
theorem Ok.next_size {B : Nat} {w : World} {R : Nat} {s : Pu.St} (h : Ok B w R s) : (Pu.next s).1.size ≤ 1600 := by
  rcases Pu.next_mem s with e | e
  · rw [e]; decide
  · exact h.short _ e

theorem ownsRow_fr {w w' : World} {base : Nat} {e : TypeId} {size : Nat} {v : Value} {n : Nat} {xs : List Value} {R : Nat} (h : w.ownsRow base e size v n xs) (hf : Fr w.heap.size R w w') (hR : R < base) :
    w'.ownsRow base e size v n xs := by
  refine ⟨h.1, ?_⟩
  rcases h.2 with hn | ⟨g, cap, cur, rfl, hb, hgg, rest⟩
  · exact .inl hn
  · refine .inr ⟨g, cap, cur, rfl, hb, ?_, rest⟩
    rw [hf.block g (Array.getElem?_eq_some_iff.1 hgg).1 (by omega)]
    exact hgg
theorem ownBlock_ge {w : World} {base : Nat} {e : TypeId} {size : Nat} {v : Value} {n : Nat} {xs : List Value} (h : w.ownsRow base e size v n xs) : ∀ k, v.ownBlock = some k → base ≤ k := fun k hk => (h.lt k hk).1

theorem fresh_block {w w' : World} {o : Obj} {R : Nat} (hf : Fr (w.alloc o).heap.size R (w.alloc o) w') (hR : R < w.heap.size) : w'.heap[w.heap.size]? = some o := by
  rw [hf.block w.heap.size (by simp) (by omega)]; exact heap_alloc_new w o
theorem Fr.of_alloc {w w' : World} {o : Obj} {R : Nat} (hf : Fr (w.alloc o).heap.size R (w.alloc o) w') : Fr w.heap.size R w w' :=
  ((Fr.refl w.heap.size R w).alloc (Nat.le_refl _) o).trans' hf (by simp)

theorem Ok.setCell {B : Nat} {w : World} {R : Nat} {s : Pu.St} {p : Addr} {u : Value} (h : Ok B w R s) (hp : B ≤ p.block) : Ok B (w.setCell p u) R s :=
  h.below ((Below.refl B w).setCell hp u) (Nat.le_refl _)
theorem Ok.alloc {B : Nat} {w : World} {R : Nat} {s : Pu.St} {o : Obj} (h : Ok B w R s) : Ok B (w.alloc o) R s :=
  h.below ((Below.refl B w).alloc h.bw o) (Nat.le_refl _)
theorem Fr.setCell' {B R : Nat} {a w : World} {p : Addr} {u : Value} (h : Fr B R a w) (hp : B ≤ p.block) : Fr B R a (w.setCell p u) := h.setCell hp u
theorem Ok.lt {B : Nat} {w : World} {R : Nat} {s : Pu.St} (h : Ok B w R s) : R < w.heap.size := by have := h.rdr.1; have := h.bw; omega

/-- Seven cells of a block written one behind the other. -/
theorem Ok.set7 {B : Nat} {w : World} {R : Nat} {s : Pu.St} {g a0 a1 a2 a3 a4 a5 a6 : Nat} {u0 u1 u2 u3 u4 u5 u6 : Value} (h : Ok B w R s) (hg : B ≤ g) :
    Ok B (((((((w.setCell ⟨g, a0, none⟩ u0).setCell ⟨g, a1, none⟩ u1).setCell ⟨g, a2, none⟩ u2).setCell ⟨g, a3, none⟩ u3).setCell ⟨g, a4, none⟩ u4).setCell ⟨g, a5, none⟩ u5).setCell ⟨g, a6, none⟩ u6) R s :=
  ((((((h.setCell hg).setCell hg).setCell hg).setCell hg).setCell hg).setCell hg).setCell hg
theorem Fr.set7 {B : Nat} {a w : World} {R : Nat} {g a0 a1 a2 a3 a4 a5 a6 : Nat} {u0 u1 u2 u3 u4 u5 u6 : Value} (h : Fr B R a w) (hg : B ≤ g) :
    Fr B R a (((((((w.setCell ⟨g, a0, none⟩ u0).setCell ⟨g, a1, none⟩ u1).setCell ⟨g, a2, none⟩ u2).setCell ⟨g, a3, none⟩ u3).setCell ⟨g, a4, none⟩ u4).setCell ⟨g, a5, none⟩ u5).setCell ⟨g, a6, none⟩ u6) :=
  ((((((h.setCell' hg).setCell' hg).setCell' hg).setCell' hg).setCell' hg).setCell' hg).setCell' hg

theorem block_later {w w' : World} {g R : Nat} {o : Obj} (h : w.heap[g]? = some o) (hf : Fr w.heap.size R w w') (hg : g ≠ R) : w'.heap[g]? = some o := by
  rw [hf.block g (Array.getElem?_eq_some_iff.1 h).1 hg]; exact h

end Go.Proofs.YtodolmdiebgmjaaDoor
