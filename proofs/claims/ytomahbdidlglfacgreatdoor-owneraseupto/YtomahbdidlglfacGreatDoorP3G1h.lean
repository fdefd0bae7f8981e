/- The document's reader: a parameter read by a closure, walked; 'many' with it. -/
import Derived.Test.YtomahbdidlglfacGreatDoorP1ShelfP2
import Derived.Deep.AppendLies
import Derived.Deep.RegionWith
import Derived.Test.YtomahbdidlglfacGreatDoorO1O2O3C9O4O5W6Rs
namespace Go.Proofs.YtomahbdidlglfacGreatDoor
open Go.RowKit Go.Maps Go.WideMaps

/-- A function as it is read. -/
abbrev fnCells (nm : ByteArray) (v : Value) : Array Value := #[.string nm, v, .int .i64 0, .int .i64 0, .string ⟨#[]⟩, .string ⟨#[]⟩, .slice none 0 0, .slice none 0 0, .slice none 0 0]

end Go.Proofs.YtomahbdidlglfacGreatDoor

/- The document's reader: an argument read by a closure, walked. -/
namespace Go.Proofs.YtomahbdidlglfacGreatDoor
open Go.RowKit Go.Maps Go.WideMaps

theorem Tryz.infoTm : (Tryz.prog.info? 32).map (fun i => (i.zero, i.size, i.bytes)) = some (some (.agg #[.int .i64 0, .int .i64 0, .string ⟨#[]⟩, .string ⟨#[]⟩, .slice none 0 0, .slice none 0 0, .slice none 0 0]), 7, 120) := by kernel_rfl
theorem Tryz.ulTms : Tryz.prog.underlying 29 = some (.slice 32) := by kernel_rfl

/-- A term as it is read. -/
abbrev tmCells (kd n : Int) (nm : ByteArray) (v cv : Value) : Array Value := #[.int .i64 kd, .int .i64 n, .string nm, .string ⟨#[]⟩, .slice none 0 0, v, cv]

/-- One term behind a row of terms: in a region that draws its order. -/
theorem step_append_term {w : World} {ops : Array Oper} {o : Oper} {a : Act} {K : Act → World → Prop} {Q : Exit → Act → World → Prop} {E : Prop} (hgd : o.guard = none) (s x : Operand)
    (ho : o.op = .call { callee := .builtin .append, args := #[s, x], argTypes := #[29, 29] }) (hty : o.type = 29) {base n R : Nat} {v : Value} {xs : List Value} {cs : Array Value} (hs : a.eval s = v) (hx : a.eval x = .slice (some ⟨R, 0, none⟩) 1 1) (hown : w.ownsRow base 32 7 v n xs) (hl : w.heap[R]? = some (.cells cs 32 (0, 0))) (hy : cs.size = 7) (h1 : ∀ u ∈ cs.toList, u.oneCell' = true)
    (hn : n + 1 ≤ 1073741824) (hb : base ≤ w.heap.size)
    (h : ∀ v' w', w'.ownsRow base 32 7 v' (n + 1) (xs ++ cs.toList) → w.grownBy w' v.ownBlock → (v'.ownBlock = v.ownBlock ∨ v'.ownBlock = some w.heap.size) → K (a.put o.dst v') w') :
    if Region.wanted o (yielded ops a.tmps) = true then Oper.wp Tryz.prog o a w K Q else E := by
  have hw : Region.wanted o (yielded ops a.tmps) = true := by simp [Region.wanted, hgd]
  rw [if_pos hw]
  obtain ⟨i0, hi, hz0, hz1, hz2⟩ := info_parts Tryz.infoTm
  obtain ⟨v', w', hrun, h1, h2, _, h3⟩ := run_append_own_at (P := Tryz.prog) (w := w) base 29 29 32 i0 _ 7 120 Tryz.ulTms hi hz0 hz1 hz2 rfl (by decide) v n xs hown ⟨R, 0, none⟩ 1 1 cs.toList (by simpa using hy) (fun j u hu => by
      rw [Addr.add_lit, show 0 + j = j by omega, cell_of_heap hl]; simpa using hu) h1 (by unfold maxLen; omega) (by omega) hb
  unfold Oper.wp execOp
  simp only [ho, hty, resolve, invoke, builtin, Sem.run_bind, Sem.run_pure, Result.andThen_ok, List.map_toArray, List.map_cons, List.map_nil, hs, hx, hrun]
  exact h v' w' h1 h2 h3

theorem own_form {w : World} {base n : Nat} {v : Value} {xs : List Value} {e : TypeId} {sz : Nat} (h : w.ownsRow base e sz v n xs) (hn : 0 < n) : ∃ g cap, v = .slice (some ⟨g, 0, none⟩) n cap ∧ base ≤ g ∧ g < w.heap.size ∧ n ≤ cap ∧ cap ≤ maxLen := by
  rcases h.2 with ⟨_, h0⟩ | ⟨g, cap, cur, h1, h2, h3, h4, h5, _⟩
  · omega
  · exact ⟨g, cap, h1, h2, lt_of_heap h3, h4, h5⟩

/-- Seven cells stored in a row. -/
abbrev put7 (w : World) (g o : Nat) (u0 u1 u2 u3 u4 u5 u6 : Value) : World := (((((((w.setCell ⟨g, o, none⟩ u0).setCell ⟨g, o + 1, none⟩ u1).setCell ⟨g, o + 2, none⟩ u2).setCell ⟨g, o + 3, none⟩ u3).setCell ⟨g, o + 4, none⟩ u4).setCell ⟨g, o + 5, none⟩ u5).setCell ⟨g, o + 6, none⟩ u6)
theorem fr_put7 {w : World} {g o : Nat} {u0 u1 u2 u3 u4 u5 u6 : Value} : Fr (· = g) w (put7 w g o u0 u1 u2 u3 u4 u5 u6) :=
  ((((((((Fr.refl (· = g) w).setCell (p := ⟨g, o, none⟩) (.inl rfl) u0).setCell (p := ⟨g, o + 1, none⟩) (.inl rfl) u1).setCell (p := ⟨g, o + 2, none⟩) (.inl rfl) u2).setCell (p := ⟨g, o + 3, none⟩) (.inl rfl) u3).setCell (p := ⟨g, o + 4, none⟩) (.inl rfl) u4).setCell (p := ⟨g, o + 5, none⟩) (.inl rfl) u5).setCell (p := ⟨g, o + 6, none⟩) (.inl rfl) u6)
theorem own_put7 {w : World} {base g n cap : Nat} {xs zs : List Value} {e : TypeId} (h : w.ownsRow base e 7 (.slice (some ⟨g, 0, none⟩) n cap) n (xs ++ zs)) (o : Nat) (hx : xs.length = o) (hz : zs.length = 7) (u0 u1 u2 u3 u4 u5 u6 : Value) :
    (put7 w g o u0 u1 u2 u3 u4 u5 u6).ownsRow base e 7 (.slice (some ⟨g, 0, none⟩) n cap) n (xs ++ [u0, u1, u2, u3, u4, u5, u6]) := by
  have k := (((((((h.stored o u0).1.stored (o + 1) u1).1.stored (o + 2) u2).1.stored (o + 3) u3).1.stored (o + 4) u4).1.stored (o + 5) u5).1.stored (o + 6) u6).1
  subst hx
  match zs, hz with
  | [z0, z1, z2, z3, z4, z5, z6], _ =>
    simpa [List.set_append] using k
theorem fin_a {w2 : World} {base g2 tb pb o n c2 : Nat} {S : ByteArray} {k : Nat} {kd tn : Int} {nm : ByteArray} {v cv : Value} {xs zs : List Value} (ho : w2.ownsRow base 32 7 (.slice (some ⟨g2, 0, none⟩) n c2) n (xs ++ zs)) (ht : w2.heap[tb]? = some (.cells (tmCells kd tn nm v cv) 32 (0, 0))) (hp : PS pb S k 0 w2) (h1 : g2 ≠ tb) (h2 : pb ≠ g2) (h3 : tb ≠ pb) (hx : xs.length = o) (hz : zs.length = 7) (u0 u1 u2 u3 u4 u5 u6 : Value) :
    Fr (fun i => i = tb ∨ i = g2) w2 (put7 (w2.setCell ⟨tb, 5, none⟩ (.slice (some ⟨g2, 0, none⟩) n c2)) g2 o u0 u1 u2 u3 u4 u5 u6) ∧ PS pb S k 0 (put7 (w2.setCell ⟨tb, 5, none⟩ (.slice (some ⟨g2, 0, none⟩) n c2)) g2 o u0 u1 u2 u3 u4 u5 u6) ∧
      (put7 (w2.setCell ⟨tb, 5, none⟩ (.slice (some ⟨g2, 0, none⟩) n c2)) g2 o u0 u1 u2 u3 u4 u5 u6).heap[tb]? = some (.cells (tmCells kd tn nm (.slice (some ⟨g2, 0, none⟩) n c2) cv) 32 (0, 0)) ∧
      (put7 (w2.setCell ⟨tb, 5, none⟩ (.slice (some ⟨g2, 0, none⟩) n c2)) g2 o u0 u1 u2 u3 u4 u5 u6).ownsRow base 32 7 (.slice (some ⟨g2, 0, none⟩) n c2) n (xs ++ [u0, u1, u2, u3, u4, u5, u6]) := by
  have f0 : Fr (· = tb) w2 (w2.setCell ⟨tb, 5, none⟩ (.slice (some ⟨g2, 0, none⟩) n c2)) := (Fr.refl (· = tb) w2).setCell (p := ⟨tb, 5, none⟩) (.inl rfl) _
  have t0 : (w2.setCell ⟨tb, 5, none⟩ (.slice (some ⟨g2, 0, none⟩) n c2)).heap[tb]? = some (.cells (tmCells kd tn nm (.slice (some ⟨g2, 0, none⟩) n c2) cv) 32 (0, 0)) := by
    simp [World.setCell, Array.getElem?_modify, ht, tmCells]
  refine ⟨(f0.mono (fun _ _ e => .inl e)).trans (fr_put7.mono (fun _ _ e => .inr e)), (hp.fr f0 (fun e => h3 e.symm)).fr fr_put7 h2, fr_heap t0 fr_put7 (fun e => h1 e.symm), ?_⟩
  exact own_put7 (row_fr ho f0 (fun g hg e => by
    have e : g = tb := e
    have hg : g2 = g := Option.some.inj hg
    exact h1 (hg.trans e))) o hx hz u0 u1 u2 u3 u4 u5 u6
theorem fin_b {w2 : World} {base g2 tb pb o n c2 : Nat} {S : ByteArray} {k : Nat} {kd tn : Int} {nm : ByteArray} {v cv : Value} {xs zs : List Value} (ho : w2.ownsRow base 32 7 (.slice (some ⟨g2, 0, none⟩) n c2) n (xs ++ zs)) (ht : w2.heap[tb]? = some (.cells (tmCells kd tn nm v cv) 32 (0, 0))) (hp : PS pb S k 0 w2) (h1 : g2 ≠ tb) (h2 : pb ≠ g2) (h3 : tb ≠ pb) (hx : xs.length = o) (hz : zs.length = 7) (u0 u1 u2 u3 u4 u5 u6 : Value) :
    Fr (fun i => i = tb ∨ i = g2) w2 ((put7 w2 g2 o u0 u1 u2 u3 u4 u5 u6).setCell ⟨tb, 5, none⟩ (.slice (some ⟨g2, 0, none⟩) n c2)) ∧ PS pb S k 0 ((put7 w2 g2 o u0 u1 u2 u3 u4 u5 u6).setCell ⟨tb, 5, none⟩ (.slice (some ⟨g2, 0, none⟩) n c2)) ∧
      ((put7 w2 g2 o u0 u1 u2 u3 u4 u5 u6).setCell ⟨tb, 5, none⟩ (.slice (some ⟨g2, 0, none⟩) n c2)).heap[tb]? = some (.cells (tmCells kd tn nm (.slice (some ⟨g2, 0, none⟩) n c2) cv) 32 (0, 0)) ∧
      ((put7 w2 g2 o u0 u1 u2 u3 u4 u5 u6).setCell ⟨tb, 5, none⟩ (.slice (some ⟨g2, 0, none⟩) n c2)).ownsRow base 32 7 (.slice (some ⟨g2, 0, none⟩) n c2) n (xs ++ [u0, u1, u2, u3, u4, u5, u6]) := by
  obtain ⟨W, hW⟩ : ∃ W, W = put7 w2 g2 o u0 u1 u2 u3 u4 u5 u6 := ⟨_, rfl⟩
  have fp : Fr (· = g2) w2 W := by rw [hW]; exact fr_put7
  have t1 : W.heap[tb]? = some (.cells (tmCells kd tn nm v cv) 32 (0, 0)) := fr_heap ht fp (fun e => h1 e.symm)
  have o1 : W.ownsRow base 32 7 (.slice (some ⟨g2, 0, none⟩) n c2) n (xs ++ [u0, u1, u2, u3, u4, u5, u6]) := by rw [hW]; exact own_put7 ho o hx hz u0 u1 u2 u3 u4 u5 u6
  rw [← hW]
  clear hW
  have f0 : Fr (· = tb) W (W.setCell ⟨tb, 5, none⟩ (.slice (some ⟨g2, 0, none⟩) n c2)) := (Fr.refl (· = tb) W).setCell (p := ⟨tb, 5, none⟩) (.inl rfl) _
  have t0 : (W.setCell ⟨tb, 5, none⟩ (.slice (some ⟨g2, 0, none⟩) n c2)).heap[tb]? = some (.cells (tmCells kd tn nm (.slice (some ⟨g2, 0, none⟩) n c2) cv) 32 (0, 0)) := by
    simp [World.setCell, Array.getElem?_modify, t1, tmCells]
  refine ⟨(fp.mono (fun _ _ e => .inr e)).trans (f0.mono (fun _ _ e => .inl e)), (hp.fr fp h2).fr f0 (fun e => h3 e.symm), t0, ?_⟩
  exact row_fr o1 f0 (fun g hg e => by
    have e : g = tb := e
    have hg : g2 = g := Option.some.inj hg
    exact h1 (hg.trans e))

/-- Terms in a row that is the reader's own; what they are made of lies elsewhere. -/
def ArgsAt (K base : Nat) (w : World) (v : Value) (ts : List (Pu.TT K)) : Prop :=
  ∃ xs, w.ownsRow base 32 7 v ts.length xs ∧ Each 7 (RTS K (fun g => base ≤ g ∧ v.ownBlock ≠ some g) w) xs ts
theorem ArgsAt.nil (K base : Nat) (w : World) : ArgsAt K base w (.slice none 0 0) ([] : List (Pu.TT K)) := ⟨[], ⟨rfl, .inl ⟨rfl, rfl⟩⟩, rfl⟩

/-- At a place, so deep, the reader reads this term, up to another place. -/
def RdT (K pb : Nat) (S : ByteArray) (a b d : Nat) (t : Pu.TT K) : Prop :=
  ∀ w, PS pb S a 0 w → Env w → 3 ≤ pb → Calls Tryz.prog 61 #[.pointer (some ⟨pb, 0, none⟩), .int .i64 (d : Int)] w fun e w' => ∃ cs : List Value, e = .returned (.agg cs.toArray) ∧ RTS K (New w w') w' cs t ∧ Fr (· = pb) w w' ∧ PS pb S b 0 w'

theorem arg_fin {K base pb tb g2 n m c2 : Nat} {w w1 w2 wf : World} {v : Value} {xs cs : List Value} {ts : List (Pu.TT K)} {t : Pu.TT K} (hown : w.ownsRow base 32 7 v n xs) (he : Each 7 (RTS K (fun g => base ≤ g ∧ v.ownBlock ≠ some g) w) xs ts) (hb : base ≤ w.heap.size) (F1 : Fr (· = pb) w w1) (hpb : pb < base) (htb : tb < base)
    (hrt : RTS K (fun g => w.heap.size ≤ g ∧ g < w1.heap.size) w1 cs t) (hcs : cs.length = 7) (F12 : Fr (fun i => v.ownBlock = some i) w1 w2) (r1 : Fr (fun i => i = tb ∨ i = g2) w2 wf) (G2 : v.ownBlock = some g2 ∨ w1.heap.size ≤ g2) (r4 : wf.ownsRow base 32 7 (.slice (some ⟨g2, 0, none⟩) m c2) (n + 1) (xs ++ cs)) (hn : ts.length = n) :
    Fr (fun i => i = pb ∨ i = tb ∨ v.ownBlock = some i) w wf ∧ ArgsAt K base wf (.slice (some ⟨g2, 0, none⟩) m c2) (ts ++ [t]) := by
  have s1 := F1.size
  have s2 := F12.size
  have ob : (Value.slice (some ⟨g2, 0, none⟩) m c2).ownBlock = some g2 := rfl
  have f12 : Fr (fun i => i = tb ∨ v.ownBlock = some i) w1 wf := (F12.mono (fun _ _ e => .inr e)).trans' r1 (fun i hi e => by
    rcases e with e | e
    · exact .inl e
    · subst e; exact .inr (G2.resolve_right (by omega)))
  have f : Fr (fun i => i = pb ∨ i = tb ∨ v.ownBlock = some i) w wf := (F1.mono (fun _ _ e => .inl e)).trans' f12 (fun i _ e => .inr e)
  refine ⟨f, xs ++ cs, by rw [List.length_append, hn]; exact r4, Each.snoc hcs (hrt.kept ⟨f12.size, fun g hg hl => ?_⟩) (he.mono fun _ _ h => h.kept ⟨f.size, fun g hg hl => ?_⟩)⟩
  · have hne : v.ownBlock ≠ some g := fun e => by have := (hown.lt g e).2; omega
    refine ⟨⟨by omega, fun e => ?_⟩, f12.block g hl (fun e => e.elim (by omega) hne)⟩
    rw [ob] at e
    injection e with e
    subst e
    exact G2.elim hne (by omega)
  · refine ⟨⟨hg.1, fun e => ?_⟩, f.block g hl (fun e => ?_)⟩
    · rw [ob] at e
      injection e with e
      subst e
      exact G2.elim hg.2 (by omega)
    · rcases e with e | e | e
      · omega
      · omega
      · exact hg.2 e

end Go.Proofs.YtomahbdidlglfacGreatDoor
