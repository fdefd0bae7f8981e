/- Arguments as they are handed in: terms, functions. No walk in it. -/
import Derived.Deep.Strs
import Derived.Test.YtdcdegeeaakekacDoorRows
import Derived.Test.YtdcdegeeaakekacDoorC2C3C4C6C7C9
import Derived.ProofKit
import Derived.OpenShut
import Derived.JoinedCond
import Derived.ReadAgain
namespace Go.Proofs.YtdcdegeeaakekacDoor
open Go.RowKit Go.Maps Go.WideMaps Go.ChangeShapes Go.WideShapes Go.Deep
set_option maxRecDepth 100000
theorem cells9 : Tryd.prog.cellsOf 9 = 1 := by kernel_rfl
theorem cells3 : Tryd.prog.cellsOf 3 = 1 := by kernel_rfl
theorem cells23 : Tryd.prog.cellsOf 27 = 1 := by kernel_rfl
theorem cells24 : Tryd.prog.cellsOf 28 = 1 := by kernel_rfl
theorem cells25 : Tryd.prog.cellsOf 29 = 1 := by kernel_rfl
theorem cells27 : Tryd.prog.cellsOf 31 = 7 := by kernel_rfl
theorem cells48 : Tryd.prog.cellsOf 40 = 9 := by kernel_rfl
theorem cells44 : Tryd.prog.cellsOf 33 = 9 := by kernel_rfl
theorem wt_get' {α : Type} (f : α → Nat) (l : List α) (i : Nat) (h : i < l.length) : f l[i] ≤ (l.map f).sum := by
  have h1 := sumW_succ f l i h
  have h2 := sumW_le f l (i + 1)
  omega
section
variable {H : Type} {enc : TypeId × Value → H} {w : World} {spare : Nat → Bool} {held : Bool}
theorem bulk_pos (d : DataW H) : 1 ≤ Rows.uptoBulk d := by
  cases d with
  | lit l => cases l <;> simp [Rows.uptoBulk]
  | nil => simp [Rows.uptoBulk]
  | ptr d => simp [Rows.uptoBulk]
  | slice elems spare => simp [Rows.uptoBulk]
  | agg parts => simp [Rows.uptoBulk]
  | iface t d => simp [Rows.uptoBulk]
  | map entries => simp [Rows.uptoBulk]
  | held h => simp [Rows.uptoBulk]
/-- A sum over places. -/
theorem bulk_range (n : Nat) (D : Nat → DataW H) : Rows.uptoBulkAll ((List.range n).map D) = ((List.range n).map fun i => Rows.uptoBulk (D i)).sum := by
  have : ∀ l : List Nat, Rows.uptoBulkAll (l.map D) = (l.map fun i => Rows.uptoBulk (D i)).sum := by
    intro l
    induction l with
    | nil => rfl
    | cons a l ih => simp only [List.map_cons, Rows.uptoBulkAll, List.sum_cons, ih]
  exact this _
theorem bulk_part (n i : Nat) (h : i < n) (D : Nat → DataW H) : Rows.uptoBulk (D i) ≤ Rows.uptoBulkAll ((List.range n).map D) := by
  rw [bulk_range]
  have := wt_get' (fun i => Rows.uptoBulk (D i)) (List.range n) i (by simpa using h)
  simpa using this
/-- A row opened, element by element. -/
theorem open_row {α : Type} (sz : Nat) (hsz : 0 < sz) (t e : TypeId) (ht : Tryd.prog.underlying t = some (.slice e)) (hc : Tryd.prog.cellsOf e = sz) (fuel : Nat) (cs : List Value) (x : DataW H × List MemPlace) (h : DataW.trod enc Tryd.prog w 0 spare held fuel t cs = some x)
    (P : List Value → α → Prop) (W : α → Nat)
    (hel : ∀ n cs' y, DataW.trod enc Tryd.prog w 0 spare held n e cs' = some y → Rows.uptoBulk y.1 < Rows.uptoBulk x.1 → ∃ a, P cs' a ∧ W a ≤ Rows.uptoBulk y.1) :
    ∃ v l xs, cs = [v] ∧ Row w.heap.size w v l.length xs ∧ Each sz P xs l ∧ (l.map W).sum + 1 ≤ Rows.uptoBulk x.1 := by
  rcases open_slice ht h with ⟨rfl, rfl⟩ | ⟨a, len, cap, m, n, D, Pl, rfl, hb, hl, hm, hmm, rfl, hx⟩
  · exact ⟨_, [], [], rfl, Row.nil _ _, rfl, by simp [Rows.uptoBulk]⟩
  rw [hc] at hx
  have hlm : len ≤ m := by rw [hmm]; split <;> omega
  have hbk : Rows.uptoBulk (DataW.slice ((List.range len).map D) ((List.range (m - len)).map fun j => D (len + j))) = Rows.uptoBulkAll ((List.range len).map D) + Rows.uptoBulkAll ((List.range (m - len)).map fun j => D (len + j)) + 1 := by simp [Rows.uptoBulk]
  have each : ∀ i, i < len → ∃ c a', w.cells? 0 (a.add (i * sz)) sz = some c ∧ P c a' ∧ W a' ≤ Rows.uptoBulk (D i) := fun i hi => by
    obtain ⟨cs', h1, h2⟩ := hx i (by omega)
    have hlt : Rows.uptoBulk (D i) < Rows.uptoBulk (DataW.slice ((List.range len).map D) ((List.range (m - len)).map fun j => D (len + j))) := by
      rw [hbk]
      have := bulk_part len i hi D
      omega
    obtain ⟨a', h3, h4⟩ := hel n cs' _ h2 hlt
    exact ⟨cs', a', h1, h3, h4⟩
  -- the elements one behind the other
  have build : ∀ j, j ≤ len → ∃ l xs, l.length = j ∧ Each sz P xs l ∧ (∀ i, i < j * sz → w.cell? (a.add i) = xs[i]?) ∧ (l.map W).sum ≤ ((List.range j).map fun i => Rows.uptoBulk (D i)).sum := by
    intro j
    induction j with
    | zero => intro _; exact ⟨[], [], rfl, rfl, fun i hi => by omega, by simp⟩
    | succ j ih =>
      intro hj
      obtain ⟨l, xs, h1, h2, h3, h4⟩ := ih (by omega)
      obtain ⟨c, a', h5, h6, h7⟩ := each j (by omega)
      obtain ⟨_, hcl, hcc⟩ := World.cells?_some h5
      have hxl : xs.length = j * sz := by rw [h2.length, h1]
      refine ⟨l ++ [a'], xs ++ c, by simp [h1], Each.snoc hcl h6 h2, fun i hi => ?_, ?_⟩
      · by_cases hij : i < j * sz
        · rw [h3 i hij, List.getElem?_append_left (by omega)]
        · rw [List.getElem?_append_right (by omega), hxl]
          have hi2 : i - j * sz < sz := by rw [Nat.add_mul] at hi; omega
          have := hcc (i - j * sz) (by omega)
          rw [add_add, show j * sz + (i - j * sz) = i by omega] at this
          exact this
      · rw [List.range_succ, List.map_append, List.sum_append, List.map_append, List.sum_append]
        simp
        omega
  obtain ⟨l, xs, h1, h2, h3, h4⟩ := build len (Nat.le_refl _)
  refine ⟨_, l, xs, rfl, ⟨some a, cap, by rw [h1], by omega, hm, fun hn => ?_⟩, h2, ?_⟩
  · have hlen : xs.length = len * sz := by rw [h2.length, h1]
    have hpos : 0 < len * sz := Nat.mul_pos (by omega) hsz
    have h0 := h3 0 hpos
    rw [List.getElem?_eq_getElem (by omega)] at h0
    obtain ⟨b, o, spot⟩ := a
    have hspot : spot = none := by simpa [Addr.add] using World.cell?_spot h0
    subst hspot
    refine ⟨b, o, rfl, World.block_lt_of_cell? w _ h0, World.block_lt_of_cell? w _ h0, fun i hi => ?_⟩
    have := h3 i (by omega)
    rw [Addr.add_lit] at this
    exact this
  · rw [hbk, bulk_range]
    omega
theorem bulk_agg (l : List (DataW H)) : Rows.uptoBulk (.agg l) = Rows.uptoBulkAll l + 1 := by simp [Rows.uptoBulk]
theorem each_strings {xs : List Value} : ∀ {l : List ByteArray}, Each 1 (fun cs (a : ByteArray) => cs = [.string a] ∧ a.size ≤ maxLen) xs l → xs = l.map .string ∧ Short l := by
  intro l
  induction l generalizing xs with
  | nil => intro h; exact ⟨h, fun x hx => by simp at hx⟩
  | cons a l ih =>
    rintro ⟨ck, rest, h1, _, ⟨h3, h4⟩, h5⟩
    obtain ⟨h6, h7⟩ := ih h5
    refine ⟨by rw [h1, h3, h6]; rfl, fun x hx => ?_⟩
    rcases List.mem_cons.1 hx with rfl | hx
    · exact h4
    · exact h7 x hx
theorem sum_ones {α : Type} (l : List α) : (l.map fun _ => 1).sum = l.length := by
  induction l with
  | nil => rfl
  | cons a l ih => simp only [List.map_cons, List.sum_cons, ih, List.length_cons]; omega
/-- A list of names, opened. -/
theorem open_names (fuel : Nat) (cs : List Value) (x : DataW H × List MemPlace) (h : DataW.trod enc Tryd.prog w 0 spare held fuel 27 cs = some x) :
    ∃ v l, cs = [v] ∧ Names w.heap.size w v l ∧ l.length + 1 ≤ Rows.uptoBulk x.1 := by
  obtain ⟨v, l, xs, h1, h2, h3, h4⟩ := open_row (α := ByteArray) 1 (by omega) 27 9 Tryd.underlying27 cells9 fuel cs x h (fun cs a => cs = [.string a] ∧ a.size ≤ maxLen) (fun _ => 1) (fun n cs' y hy _ => by
    obtain ⟨s, h1, _, h3⟩ := DataW.trod_string Tryd.underlying9 hy
    exact ⟨s, ⟨h1, h3⟩, bulk_pos _⟩)
  obtain ⟨h5, h6⟩ := each_strings h3
  subst h5
  rw [sum_ones] at h4
  exact ⟨v, l, h1, ⟨h2, h6⟩, h4⟩
/-- A term, opened. -/
theorem open_term : ∀ (m fuel : Nat) (cs : List Value) (x : DataW H × List MemPlace), DataW.trod enc Tryd.prog w 0 spare held fuel 31 cs = some x → Rows.uptoBulk x.1 ≤ m → ∃ t : Pu.TT m, RT m w.heap.size w cs t ∧ Pu.wt m t ≤ Rows.uptoBulk x.1
  | 0, _, _, x, _, hb => by have := bulk_pos x.1; omega
  | m + 1, fuel, cs, x, h, hb => by
    have ih := open_term m
    obtain ⟨xs, n, _, rfl, hcl, hxl, hf⟩ := DataW.trod_struct Tryd.underlying31 h
    rw [cells27] at hcl
    match cs, hcl, xs, hxl with
    | [c0, c1, c2, c3, c4, c5, c6], _, [y0, y1, y2, y3, y4, y5, y6], _ =>
      have f0 : DataW.trod enc Tryd.prog w 0 spare held n 3 [c0] = some y0 := by simpa [cells3] using hf 0 _ rfl
      have f1 : DataW.trod enc Tryd.prog w 0 spare held n 3 [c1] = some y1 := by simpa [cells3] using hf 1 _ rfl
      have f2 : DataW.trod enc Tryd.prog w 0 spare held n 9 [c2] = some y2 := by simpa [cells9] using hf 2 _ rfl
      have f3 : DataW.trod enc Tryd.prog w 0 spare held n 9 [c3] = some y3 := by simpa [cells9] using hf 3 _ rfl
      have f4 : DataW.trod enc Tryd.prog w 0 spare held n 27 [c4] = some y4 := by simpa [cells23] using hf 4 _ rfl
      have f5 : DataW.trod enc Tryd.prog w 0 spare held n 28 [c5] = some y5 := by simpa [cells24] using hf 5 _ rfl
      have f6 : DataW.trod enc Tryd.prog w 0 spare held n 29 [c6] = some y6 := by simpa [cells25] using hf 6 _ rfl
      have hbk : Rows.uptoBulk (DataW.agg ([y0, y1, y2, y3, y4, y5, y6].map (·.1))) = Rows.uptoBulk y0.1 + (Rows.uptoBulk y1.1 + (Rows.uptoBulk y2.1 + (Rows.uptoBulk y3.1 + (Rows.uptoBulk y4.1 + (Rows.uptoBulk y5.1 + (Rows.uptoBulk y6.1 + 0)))))) + 1 := by
        rw [bulk_agg]; simp only [List.map_cons, List.map_nil, Rows.uptoBulkAll]
      rw [hbk] at hb ⊢
      obtain ⟨kd, e0, _, _⟩ := DataW.trod_int Tryd.underlying3 f0
      obtain ⟨nn, e1, _, hnn⟩ := DataW.trod_int Tryd.underlying3 f1
      obtain ⟨nm, e2, _, hnm⟩ := DataW.trod_string Tryd.underlying9 f2
      obtain ⟨tk, e3, _, _⟩ := DataW.trod_string Tryd.underlying9 f3
      obtain ⟨vv, vars, e4, hvars, hvb⟩ := open_names n _ y4 f4
      have b0 := bulk_pos y0.1
      have b1 := bulk_pos y1.1
      have b2 := bulk_pos y2.1
      have b3 := bulk_pos y3.1
      obtain ⟨av, args, acs, e5, hra, hea, hab⟩ := open_row (α := Pu.TT m) 7 (by omega) 28 31 Tryd.underlying28 cells27 n _ y5 f5 (RT m w.heap.size w) (Pu.wt m) (fun n' cs' y hy hlt => ih n' cs' y hy (by omega))
      obtain ⟨cv, cases, ccs, e6, hrc, hec, hcb⟩ := open_row (α := Int × List ByteArray × Pu.TT m) 9 (by omega) 29 40 Tryd.underlying29 cells48 n _ y6 f6 (RC (RT m w.heap.size w) w.heap.size w) (fun c => 1 + c.2.1.length + Pu.wt m c.2.2) (fun n' cs' y hy hlt => by
        obtain ⟨xs', n2, _, rfl, hcl', hxl', hf'⟩ := DataW.trod_struct Tryd.underlying40 hy
        rw [cells48] at hcl'
        match cs', hcl', xs', hxl' with
        | [d0, d1, d2, d3, d4, d5, d6, d7, d8], _, [z0, z1, z2], _ =>
          have k0 : DataW.trod enc Tryd.prog w 0 spare held n2 3 [d0] = some z0 := by simpa [cells3] using hf' 0 _ rfl
          have k1 : DataW.trod enc Tryd.prog w 0 spare held n2 27 [d1] = some z1 := by simpa [cells23] using hf' 1 _ rfl
          have k2 : DataW.trod enc Tryd.prog w 0 spare held n2 31 [d2, d3, d4, d5, d6, d7, d8] = some z2 := by simpa [cells27] using hf' 2 _ rfl
          have hbk' : Rows.uptoBulk (DataW.agg ([z0, z1, z2].map (·.1))) = Rows.uptoBulk z0.1 + (Rows.uptoBulk z1.1 + (Rows.uptoBulk z2.1 + 0)) + 1 := by
            rw [bulk_agg]; simp only [List.map_cons, List.map_nil, Rows.uptoBulkAll]
          rw [hbk'] at hlt ⊢
          have p0 := bulk_pos z0.1
          obtain ⟨tg, e0, _, _⟩ := DataW.trod_int Tryd.underlying3 k0
          obtain ⟨vv', vars', e1, hvars', hvb'⟩ := open_names n2 _ z1 k1
          obtain ⟨t', hrt', hwt'⟩ := ih n2 _ z2 k2 (by omega)
          injection e0 with e0 _
          injection e1 with e1 _
          subst e0 e1
          exact ⟨(tg, vars', t'), ⟨_, _, rfl, hvars', rfl, hrt'⟩, by show 1 + vars'.length + Pu.wt m t' ≤ _; omega⟩)
      injection e0 with e0 _
      injection e1 with e1 _
      injection e2 with e2 _
      injection e3 with e3 _
      injection e4 with e4 _
      injection e5 with e5 _
      injection e6 with e6 _
      subst e0 e1 e2 e3 e4 e5 e6
      refine ⟨(⟨kd, nn, nm, tk, vars, args, cases⟩ : Pu.Node (Pu.TT m)), ⟨_, _, _, acs, ccs, rfl, hnm, hnn, hvars, hra, hea, hrc, hec⟩, ?_⟩
      show 1 + vars.length + (args.map (Pu.wt m)).sum + (cases.map fun c => 1 + c.2.1.length + Pu.wt m c.2.2).sum ≤ _
      omega
/-- A list of functions, opened. -/
theorem open_fns (m fuel : Nat) (cs : List Value) (x : DataW H × List MemPlace) (h : DataW.trod enc Tryd.prog w 0 spare held fuel 22 cs = some x) (hb : Rows.uptoBulk x.1 ≤ m) :
    ∃ v, ∃ l : List (Pu.Fn m), cs = [v] ∧ Fns m w.heap.size w v l ∧ (l.map wf).sum ≤ Rows.uptoBulk x.1 := by
  obtain ⟨v, l, xs, h1, h2, h3, h4⟩ := open_row (α := Pu.Fn m) 9 (by omega) 22 33 Tryd.underlying22 cells44 fuel cs x h (RF m w.heap.size w) wf (fun n' cs' y hy hlt => by
    obtain ⟨xs', n2, _, rfl, hcl', hxl', hf'⟩ := DataW.trod_struct Tryd.underlying33 hy
    rw [cells44] at hcl'
    match cs', hcl', xs', hxl' with
    | [d0, d1, d2, d3, d4, d5, d6, d7, d8], _, [z0, z1, z2], _ =>
      have k0 : DataW.trod enc Tryd.prog w 0 spare held n2 9 [d0] = some z0 := by simpa [cells9] using hf' 0 _ rfl
      have k1 : DataW.trod enc Tryd.prog w 0 spare held n2 27 [d1] = some z1 := by simpa [cells23] using hf' 1 _ rfl
      have k2 : DataW.trod enc Tryd.prog w 0 spare held n2 31 [d2, d3, d4, d5, d6, d7, d8] = some z2 := by simpa [cells27] using hf' 2 _ rfl
      have hbk' : Rows.uptoBulk (DataW.agg ([z0, z1, z2].map (·.1))) = Rows.uptoBulk z0.1 + (Rows.uptoBulk z1.1 + (Rows.uptoBulk z2.1 + 0)) + 1 := by
        rw [bulk_agg]; simp only [List.map_cons, List.map_nil, Rows.uptoBulkAll]
      rw [hbk'] at hlt ⊢
      have p0 := bulk_pos z0.1
      obtain ⟨nm, e0, _, hnm⟩ := DataW.trod_string Tryd.underlying9 k0
      obtain ⟨vv', vars', e1, hvars', hvb'⟩ := open_names n2 _ z1 k1
      obtain ⟨t', hrt', hwt'⟩ := open_term m n2 _ z2 k2 (by omega)
      injection e0 with e0 _
      injection e1 with e1 _
      subst e0 e1
      exact ⟨(nm, vars', t'), ⟨_, _, rfl, hnm, hvars', rfl, hrt'⟩, by show 1 + vars'.length + Pu.wt m t' ≤ _; omega⟩)
  exact ⟨v, l, h1, ⟨xs, h2, h3⟩, by omega⟩
/-- Arguments read again behind a call that has made new blocks alone. -/
theorem sameAt_fr {w' : World} (hf : Fr No w w') (p : MemPlace) (hp : p.block < w.heap.size) : w.sameAt w' p := by
  cases p with
  | cell b off => show w'.cell? ⟨b, off, none⟩ = w.cell? ⟨b, off, none⟩; simp only [World.cell?, hf.block b hp (fun e => e)]
  | map b => exact hf.block b hp (fun e => e)
end
end Go.Proofs.YtdcdegeeaakekacDoor

/- The rows' common part: arguments read again behind the call. -/
namespace Go.Proofs.YtdcdegeeaakekacDoor
open Go.ChangeShapes Go.WideShapes Go.ChangeAt Go.RowKit
theorem own' : ownKnob Tryd.prog.godebug = none := by kernel_rfl
theorem kids : Kids Tryd.prog (· < Tryd.prog.types.size) := kids_rows (by kernel_rfl) (by kernel_rfl)
theorem full : ∀ t e, t < Tryd.prog.types.size → Tryd.prog.underlying t = some (.slice e) → 0 < Tryd.prog.cellsOf e := slices_full_of Tryd.prog (by kernel_rfl)
section
variable {H : Type} {enc : TypeId × Value → H}
theorem trodAll_carry {w w' : World} {base : Nat} {sp : Nat → Bool} {held : Bool} : ∀ {ts : List TypeId} {vs : List Value} {ds : List (DataW H)} {ps : List MemPlace}, DataW.TrodAll enc Tryd.prog w base sp held ts vs ds ps → (∀ p ∈ ps, w.sameAt w' p) → DataW.TrodAll enc Tryd.prog w' base sp held ts vs ds ps
  | [], [], [], _, h, _ => h
  | _ :: _, _ :: _, _ :: _, _, ⟨p, q, ⟨n, h1⟩, h2, e⟩, hs => ⟨p, q, ⟨n, DataW.trod_carry n _ _ _ h1 (fun x hx => hs x (by rw [e]; exact List.mem_append_left _ hx))⟩, trodAll_carry h2 (fun x hx => hs x (by rw [e]; exact List.mem_append_right _ hx)), e⟩
/-- What a law's row wants behind a call that answers true and makes new blocks alone. -/
theorem post_true {fn : Func} {s : ChangeSpec} {W W' : World} {args : Array Value} {ds : List (DataW H)} {p : List MemPlace} (hvars : s.vars = []) (hres : fn.resultTypes = #[4]) (hts : ∀ t ∈ fn.params.toList, t < Tryd.prog.types.size)
    (hfn : s.fn H (ds ++ []) = { results := [.lit (.bool true)], args := ds })
    (hW : DataW.Whole enc Tryd.prog fn.params.toList s.vars false W args.toList ds [] p) (hA : DataW.TrodAll enc Tryd.prog W 0 (fun _ => true) true fn.params.toList args.toList ds p) (hf : Fr No W W') :
    s.post enc Tryd.prog fn false true false false W args (.bool true) W' := by
  refine ⟨ds, [], p, [], p, [], hW, ?_, ?_, ?_, hf.below.frame _, fun h => by cases h⟩
  · rw [hfn, hres]
    exact trodAll_mk1 (shut_bool Tryd.underlying4 _)
  · rw [hfn]
    refine trodAll_carry (DataW.TrodAll.respare kids full hts hA (fun q hq => by simpa using hW.lt q hq)) (fun q hq => sameAt_fr hf q (hW.lt q hq))
  · rw [hfn, hvars]
    rfl
end
end Go.Proofs.YtdcdegeeaakekacDoor
