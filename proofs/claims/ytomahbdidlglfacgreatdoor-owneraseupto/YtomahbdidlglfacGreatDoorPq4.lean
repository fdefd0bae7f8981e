/- One element more behind a row of one's own, whose elements lie elsewhere. No walk of the program in it. -/
import Derived.Test.YtomahbdidlglfacGreatDoorPn1Pn2Pn3
namespace Go.Proofs.YtomahbdidlglfacGreatDoor
open Go.RowKit Go.Maps Go.WideMaps

/-- Blocks of S that are not the row's own. -/
def SXo (S : Nat → Prop) (v : Value) : Nat → Prop := fun g => S g ∧ v.ownBlock ≠ some g
theorem app_el {α : Type} {sl e : TypeId} {size bytes : Nat} {z : Value} (hul : Tryz.prog.underlying sl = some (.slice e)) (hin : (Tryz.prog.info? e).map (fun i => (i.zero, i.size, i.bytes)) = some (some z, size, bytes)) (hzs : z.cells.size = size) (hsz : 0 < size) (hby : bytes ≤ 65536)
    {E : World → (Nat → Prop) → List Value → α → Prop} (hE : ∀ (w w' : World) (S S' : Nat → Prop) (c : List Value) (a : α), Stays S S' w w' → E w S c a → E w' S' c a) {S : Nat → Prop} {W : World} {b i : Nat} {v : Value} {xs vals : List Value} {l : List α} {m : α}
    (ho : W.ownsRow b e size v i xs) (he : Each size (E W (SXo S v)) xs l) (hn : E W (SXo S v) vals m) (hv : vals.length = size) (h1 : ∀ u ∈ vals, u.oneCell' = true) (hi : i + 1 ≤ 2147483648) (hb : b ≤ W.heap.size) :
    ∃ v' w', (Builtin.append_ #[sl, sl] sl #[v, .slice (some ⟨W.heap.size, 0, none⟩) 1 1]).run Tryz.prog (W.alloc (.cells vals.toArray e)) = .ok v' w' ∧ ∃ a' c', v' = .slice a' (i + 1) c' ∧ w'.ownsRow b e size v' (i + 1) (xs ++ vals) ∧ Each size (E w' (SXo S v')) (xs ++ vals) (l ++ [m]) ∧ Fr (fun g => v.ownBlock = some g) W w' ∧ Stays (SXo S v) (SXo S v') W w' := by
  obtain ⟨v', w', g1, g2, g3, g4⟩ := app_runP (S := fun _ => True) hul hin hzs hsz (ho.alloc (.cells vals.toArray e)) (litP W vals.toArray e 1 (by decide) trivial) (by simpa using hv) (by simpa using h1) hi hby (by rw [World.size_alloc]; omega)
  obtain ⟨a', c', hv'⟩ := row_form g2
  have hf : Fr (fun g => v.ownBlock = some g) W w' := by
    have ha : Fr (fun g => v.ownBlock = some g) W (W.alloc (.cells vals.toArray e)) := (Fr.refl _ W).alloc _
    exact ha.grown g3 (fun a h => .inl h)
  have st : Stays (SXo S v) (SXo S v') W w' := ⟨hf.size, fun g hg hl => ⟨⟨hg.1, fun h => by
    rcases g4 with e' | e'
    · exact hg.2 (by rw [← e']; exact h)
    · rw [e'] at h
      injection h with h
      rw [World.size_alloc] at h
      omega⟩, hf.block g hl (fun h => hg.2 h)⟩⟩
  exact ⟨v', w', g1, a', c', hv', by simpa using g2, Each.snoc hv (hE _ _ _ _ _ _ st hn) (he.mono fun c a h => hE _ _ _ _ _ _ st h), hf, st⟩
theorem pt_keptE (k : Nat) : ∀ (w w' : World) (S S' : Nat → Prop) (c : List Value) (a : Nat), Stays S S' w w' → PT k S w c a → PT k S' w' c a := fun _ _ _ _ _ _ hs h => h.kept hs
theorem rcp_keptE (k : Nat) : ∀ (w w' : World) (S S' : Nat → Prop) (c : List Value) (a : Int × List ByteArray × Nat), Stays S S' w w' → RCP (PT k S w) S w c a → RCP (PT k S' w') S' w' c a := fun _ _ _ _ _ _ hs h => h.kept hs (fun _ _ h => h.kept hs)
theorem one7 {kd n : Int} {x y : ByteArray} {a0 a1 a2 : Option Addr} {n0 c0 n1 c1 n2 c2 : Nat} : ∀ u ∈ [Value.int .i64 kd, .int .i64 n, .string x, .string y, .slice a0 n0 c0, .slice a1 n1 c1, .slice a2 n2 c2], u.oneCell' = true := by
  intro u hu
  simp only [List.mem_cons, List.not_mem_nil, or_false] at hu
  rcases hu with rfl | rfl | rfl | rfl | rfl | rfl | rfl <;> rfl
theorem one9 {kd n tg : Int} {x y : ByteArray} {a a0 a1 a2 : Option Addr} {m c n0 c0 n1 c1 n2 c2 : Nat} : ∀ u ∈ [Value.int .i64 tg, .slice a m c, .int .i64 kd, .int .i64 n, .string x, .string y, .slice a0 n0 c0, .slice a1 n1 c1, .slice a2 n2 c2], u.oneCell' = true := by
  intro u hu
  simp only [List.mem_cons, List.not_mem_nil, or_false] at hu
  rcases hu with rfl | rfl | rfl | rfl | rfl | rfl | rfl | rfl | rfl <;> rfl
theorem row_litP (b : Nat) (e : TypeId) (size : Nat) (w : World) (hb : b ≤ w.heap.size) : (w.alloc (.cells #[] e)).ownsRow b e size (.slice (some ⟨w.heap.size, 0, none⟩) 0 0) 0 [] :=
  World.ownsRow_lit (base := b) (e := e) (size := size) w #[] 0 hb (by unfold maxLen; decide) (by simp)
/-- Pairs behind pairs. -/
theorem app_pairs {Sp : Nat → Prop} {W : World} {b i n : Nat} {v u : Value} {xs ys : List ByteArray} (ho : W.ownsRow b 132 2 v i (xs.map .string)) (hu : RowP Sp W u n (ys.map .string)) (hy : ys.length = n * 2) (hi : i + n ≤ 2147483648) (hb : b ≤ W.heap.size) :
    ∃ v' w', (Builtin.append_ #[97, 97] 97 #[v, u]).run Tryz.prog W = .ok v' w' ∧ ∃ a' c', v' = .slice a' (i + n) c' ∧ w'.ownsRow b 132 2 v' (i + n) ((xs ++ ys).map .string) ∧ (∀ (q : Nat) (c : Array Value) (t : Nat) (z : Nat × Nat), t ≠ 132 → W.heap[q]? = some (Obj.cells c t z) → w'.heap[q]? = some (Obj.cells c t z)) ∧ Fr (fun g => b ≤ g) W w' := by
  obtain ⟨v', w', g1, g2, g3, g4⟩ := app_runP Tryz.ul97P infoPair rfl (by decide) ho hu (by rw [List.length_map]; exact hy) (fun u hu => by obtain ⟨y, _, rfl⟩ := List.mem_map.1 hu; rfl) hi (by decide) hb
  obtain ⟨a', c', hv'⟩ := row_form g2
  exact ⟨v', w', g1, a', c', hv', by simpa using g2, fun q c t z ht h => past_heap ho g3 (fun e => ht e.symm) h, (Fr.refl _ W).grown g3 (fun a h => .inl (ho.lt a h).1)⟩
/-- What is there between two rounds over a term's arguments. -/
structure NA (k nb : Nat) (S0 : Nat → Prop) (w : World) (tb : Array Value) (kd n : Int) (tk : ByteArray) (vv : Value) (wl : List Nat) (i : Nat) (aa : Option Addr) (ac : Nat) (K' : Nat) (x : ByteArray) (W : World) : Prop where
  fr : Fr (· = nb) w W
  nbx : W.heap[nb]? = some (.cells #[.int .i64 (K' : Int)] 96 (0, 0))
  t : W.heap[w.heap.size]? = some (.cells tb 32 (0, 0))
  r : W.heap[w.heap.size + 1]? = some (.cells tz 32 (0, 0))
  sx : x.size ≤ maxLen
  o : W.heap[w.heap.size + 1 + 1]? = some (.cells #[.int .i64 kd, .int .i64 n, .string x, .string tk, vv, .slice aa i ac, .slice none 0 0] 32 (0, 0))
  row : ∃ xs ws, W.ownsRow (w.heap.size + 3) 32 7 (.slice aa i ac) i xs ∧ Each 7 (PT k (SXo S0 (.slice aa i ac)) W) xs ws ∧ ws.length = i ∧ ws.sum ≤ (wl.take i).sum
theorem NA.call {k nb : Nat} {S0 : Nat → Prop} {w : World} {tb : Array Value} {kd n : Int} {tk : ByteArray} {vv : Value} {wl : List Nat} {i : Nat} {aa : Option Addr} {ac K' K2 : Nat} {x : ByteArray} {W W' : World} (h : NA k nb S0 w tb kd n tk vv wl i aa ac K' x W) (hf : Fr (· = nb) W W') (hb : W'.heap[nb]? = some (.cells #[.int .i64 (K2 : Int)] 96 (0, 0))) (hnb : nb < w.heap.size) (hS0 : ∀ g, S0 g → g ≠ nb) : NA k nb S0 w tb kd n tk vv wl i aa ac K2 x W' := by
  have ne : ∀ q, w.heap.size ≤ q → ¬ q = nb := fun q hq e => by omega
  obtain ⟨xs, ws, h1, h2, h3, h4⟩ := h.row
  exact ⟨h.fr.trans hf, hb, fr_heap h.t hf (ne _ (Nat.le_refl _)), fr_heap h.r hf (ne _ (by omega)), h.sx, fr_heap h.o hf (ne _ (by omega)), xs, ws, own_keptF h1 hf (fun a ha => ne a (by omega)), h2.mono fun c a hp => hp.kept (stays_fr hf (fun g hg _ e => hS0 g hg.1 e) (fun _ h => h)), h3, h4⟩
theorem NA.move {k nb : Nat} {S0 : Nat → Prop} {w : World} {tb : Array Value} {kd n : Int} {tk : ByteArray} {vv : Value} {wl : List Nat} {i : Nat} {aa : Option Addr} {ac K' K2 : Nat} {x x' : ByteArray} {W W' : World} (h : NA k nb S0 w tb kd n tk vv wl i aa ac K' x W) (hf : Fr (fun g => g = nb ∨ g = w.heap.size + 2) W W') (hb : W'.heap[nb]? = some (.cells #[.int .i64 (K2 : Int)] 96 (0, 0))) (hnb : nb < w.heap.size) (hS0 : ∀ g, S0 g → g ≠ nb ∧ g ≠ w.heap.size + 2) (hx : x'.size ≤ maxLen) (ho : W'.heap[w.heap.size + 1 + 1]? = some (.cells #[.int .i64 kd, .int .i64 n, .string x', .string tk, vv, .slice aa i ac, .slice none 0 0] 32 (0, 0))) : NA k nb S0 w tb kd n tk vv wl i aa ac K2 x' W' := by
  obtain ⟨xs, ws, h1, h2, h3, h4⟩ := h.row
  exact ⟨h.fr.trans' hf (fun j hj e => e.elim (fun e => e) (fun e => by omega)), hb, fr_heap h.t hf (fun e => e.elim (fun e => by omega) (fun e => by omega)), fr_heap h.r hf (fun e => e.elim (fun e => by omega) (fun e => by omega)), hx, ho, xs, ws, own_keptF h1 hf (fun a ha e => e.elim (fun e => by omega) (fun e => by omega)), h2.mono fun c a hp => hp.kept (stays_fr hf (fun g hg _ e => e.elim (hS0 g hg.1).1 (hS0 g hg.1).2) (fun _ h => h)), h3, h4⟩
theorem NA.no {k nb : Nat} {S0 : Nat → Prop} {w : World} {tb : Array Value} {kd n : Int} {tk : ByteArray} {vv : Value} {wl : List Nat} {i : Nat} {aa : Option Addr} {ac K' : Nat} {x : ByteArray} {W W' : World} (h : NA k nb S0 w tb kd n tk vv wl i aa ac K' x W) (hf : Fr No W W') (hnb : nb < w.heap.size) (hS0 : ∀ g, S0 g → g ≠ nb) : NA k nb S0 w tb kd n tk vv wl i aa ac K' x W' :=
  h.call (hf.mono fun _ _ e => e.elim) (fr_heap h.nbx hf (fun e => e)) hnb hS0
/-- One more argument: the row is appended to, and stored. -/
theorem NA.put {k nb : Nat} {S0 : Nat → Prop} {w : World} {tb : Array Value} {kd n : Int} {tk : ByteArray} {vv : Value} {wl : List Nat} {i : Nat} {aa : Option Addr} {ac K' : Nat} {x : ByteArray} {W : World} (h : NA k nb S0 w tb kd n tk vv wl i aa ac K' x W) (hnb : nb < w.heap.size) (hS0 : ∀ g, S0 g → g ≠ nb ∧ g ≠ w.heap.size + 2) (hw3 : w.heap.size + 3 ≤ W.heap.size) {vals : List Value} {m a : Nat} (hv : vals.length = 7) (h1 : ∀ u ∈ vals, u.oneCell' = true) (hn : PT k (SXo S0 (.slice aa i ac)) W vals m) (hm : m ≤ a) (hw : (wl.take (i + 1)).sum = (wl.take i).sum + a) (hi : i + 1 ≤ 2147483648) :
    ∃ v' w', (Builtin.append_ #[29, 29] 29 #[.slice aa i ac, .slice (some ⟨W.heap.size, 0, none⟩) 1 1]).run Tryz.prog (W.alloc (.cells vals.toArray 32)) = .ok v' w' ∧ ∃ a' c', v' = .slice a' (i + 1) c' ∧ Fr (fun g => w.heap.size + 3 ≤ g ∧ g < W.heap.size ∧ (Value.slice aa i ac).ownBlock = some g) W w' ∧ NA k nb S0 w tb kd n tk vv wl (i + 1) a' c' K' x (w'.setCell ⟨w.heap.size + 1 + 1, 5, none⟩ (.slice a' (i + 1) c')) := by
  obtain ⟨xs, ws, r1, r2, r3, r4⟩ := h.row
  obtain ⟨v', w', g1, a', c', rfl, g2, g3, g4, _⟩ := app_el Tryz.ul29P Tryz.info32 rfl (by decide) (by decide) (pt_keptE k) r1 r2 hn hv h1 hi hw3
  have g4' : Fr (fun g => w.heap.size + 3 ≤ g ∧ g < W.heap.size ∧ (Value.slice aa i ac).ownBlock = some g) W w' := g4.mono (fun g _ hg => ⟨(r1.lt g hg).1, (r1.lt g hg).2, hg⟩)
  refine ⟨_, w', g1, a', c', rfl, g4', ?_⟩
  have f1 : Fr (· = w.heap.size + 2) w' (w'.setCell ⟨w.heap.size + 1 + 1, 5, none⟩ (.slice a' (i + 1) c')) := (Fr.refl (· = w.heap.size + 2) w').setCell (p := ⟨w.heap.size + 1 + 1, 5, none⟩) (.inl rfl) _
  have lo : ∀ q z, q < w.heap.size + 3 → W.heap[q]? = some z → w'.heap[q]? = some z := fun q z hq hz => fr_heap hz g4' (fun e => by have := e.1; omega)
  have ho := lo _ _ (by omega) h.o
  refine ⟨(h.fr.trans' g4' (fun j hj e => by have := e.1; omega)).trans' f1 (fun j hj e => by have e : j = w.heap.size + 2 := e; omega), fr_heap (lo _ _ (by omega) h.nbx) f1 (fun e => by have e : nb = w.heap.size + 2 := e; omega), fr_heap (lo _ _ (by omega) h.t) f1 (fun e => by have e : w.heap.size = w.heap.size + 2 := e; omega), fr_heap (lo _ _ (by omega) h.r) f1 (fun e => by have e : w.heap.size + 1 = w.heap.size + 2 := e; omega), h.sx, ?_, xs ++ vals, ws ++ [m], own_keptF g2 f1 (fun q hq e => by have e : q = w.heap.size + 2 := e; omega), g3.mono fun c q hp => hp.kept (stays_fr f1 (fun g hg _ e => (hS0 g hg.1).2 e) (fun _ h => h)), by rw [List.length_append, r3]; rfl, by rw [List.sum_append, hw]; simp; omega⟩
  simp [World.setCell, Array.getElem?_modify, ho]
/-- What is there between two rounds over a term's cases. -/
structure NC (k nb : Nat) (S0 : Nat → Prop) (w : World) (tb : Array Value) (kd n : Int) (tk : ByteArray) (vv : Value) (nA wA : Nat) (aa : Option Addr) (ac : Nat) (wl : List Nat) (i : Nat) (ca : Option Addr) (cc : Nat) (K' : Nat) (x : ByteArray) (W : World) : Prop where
  fr : Fr (· = nb) w W
  nbx : W.heap[nb]? = some (.cells #[.int .i64 (K' : Int)] 96 (0, 0))
  t : W.heap[w.heap.size]? = some (.cells tb 32 (0, 0))
  r : W.heap[w.heap.size + 1]? = some (.cells tz 32 (0, 0))
  sx : x.size ≤ maxLen
  o : W.heap[w.heap.size + 1 + 1]? = some (.cells #[.int .i64 kd, .int .i64 n, .string x, .string tk, vv, .slice aa nA ac, .slice ca i cc] 32 (0, 0))
  args : ∃ xs ws, RowP (SXo S0 (.slice ca i cc)) W (.slice aa nA ac) nA xs ∧ Each 7 (PT k (SXo S0 (.slice ca i cc)) W) xs ws ∧ ws.length = nA ∧ ws.sum ≤ wA
  row : ∃ xs cl, W.ownsRow (w.heap.size + 3) 58 9 (.slice ca i cc) i xs ∧ Each 9 (RCP (PT k (SXo S0 (.slice ca i cc)) W) (SXo S0 (.slice ca i cc)) W) xs cl ∧ cl.length = i ∧ (cl.map fun c : Int × List ByteArray × Nat => 1 + c.2.1.length + c.2.2).sum ≤ (wl.take i).sum
theorem NA.nc {k nb : Nat} {S0 : Nat → Prop} {w : World} {tb : Array Value} {kd n : Int} {tk : ByteArray} {vv : Value} {wl wl2 : List Nat} {i : Nat} {aa : Option Addr} {ac K' : Nat} {x : ByteArray} {W : World} (h : NA k nb S0 w tb kd n tk vv wl i aa ac K' x W) (hS0 : ∀ g, w.heap.size + 3 ≤ g → S0 g) (hw : (wl.take i).sum ≤ wl.sum) : NC k nb S0 w tb kd n tk vv i wl.sum aa ac wl2 0 none 0 K' x W := by
  obtain ⟨xs, ws, h1, h2, h3, h4⟩ := h.row
  have e : ∀ g, S0 g → SXo S0 (.slice none 0 0) g := fun g hg => ⟨hg, by simp [Value.ownBlock]⟩
  exact ⟨h.fr, h.nbx, h.t, h.r, h.sx, h.o, ⟨xs, ws, rowP_own h1 (fun g hg => e g (hS0 g (h1.lt g hg).1)), h2.mono fun c a hp => hp.kept (stays_self fun g hg => e g hg.1), h3, Nat.le_trans h4 hw⟩, [], [], World.ownsRow_nil _ _ _ _, rfl, rfl, by simp⟩
theorem NC.move {k nb : Nat} {S0 : Nat → Prop} {w : World} {tb : Array Value} {kd n : Int} {tk : ByteArray} {vv : Value} {nA wA : Nat} {aa : Option Addr} {ac : Nat} {wl : List Nat} {i : Nat} {ca : Option Addr} {cc K' K2 : Nat} {x : ByteArray} {W W' : World} (h : NC k nb S0 w tb kd n tk vv nA wA aa ac wl i ca cc K' x W) (hf : Fr (· = nb) W W') (hb : W'.heap[nb]? = some (.cells #[.int .i64 (K2 : Int)] 96 (0, 0))) (hnb : nb < w.heap.size) (hS0 : ∀ g, S0 g → g ≠ nb) : NC k nb S0 w tb kd n tk vv nA wA aa ac wl i ca cc K2 x W' := by
  have ne : ∀ q, w.heap.size ≤ q → ¬ q = nb := fun q hq e => by omega
  obtain ⟨xs, cl, h1, h2, h3, h4⟩ := h.row
  obtain ⟨xa, ws, a1, a2, a3, a4⟩ := h.args
  have st : Stays (SXo S0 (.slice ca i cc)) (SXo S0 (.slice ca i cc)) W W' := stays_fr hf (fun g hg _ e => hS0 g hg.1 e) (fun _ h => h)
  exact ⟨h.fr.trans hf, hb, fr_heap h.t hf (ne _ (Nat.le_refl _)), fr_heap h.r hf (ne _ (by omega)), h.sx, fr_heap h.o hf (ne _ (by omega)), ⟨xa, ws, a1.kept st, a2.mono fun c a hp => hp.kept st, a3, a4⟩, xs, cl, own_keptF h1 hf (fun a ha => ne a (by omega)), h2.mono fun c a hp => rcp_keptE k _ _ _ _ _ _ st hp, h3, h4⟩
theorem NC.put {k nb : Nat} {S0 : Nat → Prop} {w : World} {tb : Array Value} {kd n : Int} {tk : ByteArray} {vv : Value} {nA wA : Nat} {aa : Option Addr} {ac : Nat} {wl : List Nat} {i : Nat} {ca : Option Addr} {cc K' : Nat} {x : ByteArray} {W : World} (h : NC k nb S0 w tb kd n tk vv nA wA aa ac wl i ca cc K' x W) (hnb : nb < w.heap.size) (hS0 : ∀ g, S0 g → g ≠ nb ∧ g ≠ w.heap.size + 2) (hw3 : w.heap.size + 3 ≤ W.heap.size) {vals : List Value} {c : Int × List ByteArray × Nat} {a : Nat} (hv : vals.length = 9) (h1 : ∀ u ∈ vals, u.oneCell' = true) (hn : RCP (PT k (SXo S0 (.slice ca i cc)) W) (SXo S0 (.slice ca i cc)) W vals c) (hm : 1 + c.2.1.length + c.2.2 ≤ a) (hw : (wl.take (i + 1)).sum = (wl.take i).sum + a) (hi : i + 1 ≤ 2147483648) :
    ∃ v' w', (Builtin.append_ #[30, 30] 30 #[.slice ca i cc, .slice (some ⟨W.heap.size, 0, none⟩) 1 1]).run Tryz.prog (W.alloc (.cells vals.toArray 58)) = .ok v' w' ∧ ∃ a' c', v' = .slice a' (i + 1) c' ∧ Fr (fun g => w.heap.size + 3 ≤ g ∧ g < W.heap.size ∧ (Value.slice ca i cc).ownBlock = some g) W w' ∧ NC k nb S0 w tb kd n tk vv nA wA aa ac wl (i + 1) a' c' K' x (w'.setCell ⟨w.heap.size + 1 + 1, 6, none⟩ (.slice a' (i + 1) c')) := by
  obtain ⟨xs, cl, r1, r2, r3, r4⟩ := h.row
  obtain ⟨xa, ws, a1, a2, a3, a4⟩ := h.args
  obtain ⟨v', w', g1, a', c', rfl, g2, g3, g4, st⟩ := app_el Tryz.ul30P Tryz.info58 rfl (by decide) (by decide) (rcp_keptE k) r1 r2 hn hv h1 hi hw3
  have g4' : Fr (fun g => w.heap.size + 3 ≤ g ∧ g < W.heap.size ∧ (Value.slice ca i cc).ownBlock = some g) W w' := g4.mono (fun g _ hg => ⟨(r1.lt g hg).1, (r1.lt g hg).2, hg⟩)
  refine ⟨_, w', g1, a', c', rfl, g4', ?_⟩
  have f1 : Fr (· = w.heap.size + 2) w' (w'.setCell ⟨w.heap.size + 1 + 1, 6, none⟩ (.slice a' (i + 1) c')) := (Fr.refl (· = w.heap.size + 2) w').setCell (p := ⟨w.heap.size + 1 + 1, 6, none⟩) (.inl rfl) _
  have lo : ∀ q z, q < w.heap.size + 3 → W.heap[q]? = some z → w'.heap[q]? = some z := fun q z hq hz => fr_heap hz g4' (fun e => by have := e.1; omega)
  have ho := lo _ _ (by omega) h.o
  have st1 : Stays (SXo S0 (.slice a' (i + 1) c')) (SXo S0 (.slice a' (i + 1) c')) w' (w'.setCell ⟨w.heap.size + 1 + 1, 6, none⟩ (.slice a' (i + 1) c')) := stays_fr f1 (fun g hg _ e => (hS0 g hg.1).2 e) (fun _ h => h)
  refine ⟨(h.fr.trans' g4' (fun j hj e => by have := e.1; omega)).trans' f1 (fun j hj e => by have e : j = w.heap.size + 2 := e; omega), fr_heap (lo _ _ (by omega) h.nbx) f1 (fun e => by have e : nb = w.heap.size + 2 := e; omega), fr_heap (lo _ _ (by omega) h.t) f1 (fun e => by have e : w.heap.size = w.heap.size + 2 := e; omega), fr_heap (lo _ _ (by omega) h.r) f1 (fun e => by have e : w.heap.size + 1 = w.heap.size + 2 := e; omega), h.sx, ?_, ⟨xa, ws, (a1.kept st).kept st1, a2.mono fun c a hp => (hp.kept st).kept st1, a3, a4⟩, xs ++ vals, cl ++ [c], own_keptF g2 f1 (fun q hq e => by have e : q = w.heap.size + 2 := e; omega), g3.mono fun c q hp => rcp_keptE k _ _ _ _ _ _ st1 hp, by rw [List.length_append, r3]; rfl, by rw [List.map_append, List.sum_append, hw]; simp; omega⟩
  simp [World.setCell, Array.getElem?_modify, ho]
/-- The whole. -/
theorem NC.fin {k nb : Nat} {S0 S : Nat → Prop} {w : World} {tb : Array Value} {kd n : Int} {tk : ByteArray} {va : Option Addr} {vc : Nat} {vl : List ByteArray} {nA wA : Nat} {aa : Option Addr} {ac : Nat} {wl : List Nat} {i : Nat} {ca : Option Addr} {cc K' : Nat} {x : ByteArray} {W : World} (h : NC k nb S0 w tb kd n tk (.slice va vl.length vc) nA wA aa ac wl i ca cc K' x W) (hS : ∀ g, S0 g → S g) (hSn : ∀ g, w.heap.size + 3 ≤ g → S g) (hv : NamesP S W (.slice va vl.length vc) vl) (hk : (1 ≤ kd ∧ kd ≤ 7) ∧ (kd = 6 → nA = 2)) (hn : (Lit.int .i64 n).wf = true) :
    ∃ m, PT (k + 1) S W [.int .i64 kd, .int .i64 n, .string x, .string tk, .slice va vl.length vc, .slice aa nA ac, .slice ca i cc] m ∧ m ≤ 1 + vl.length + wA + (wl.take i).sum := by
  obtain ⟨xs, cl, r1, r2, r3, r4⟩ := h.row
  obtain ⟨xa, ws, a1, a2, a3, a4⟩ := h.args
  have st : Stays (SXo S0 (.slice ca i cc)) S W W := stays_self fun g hg => hS g hg.1
  have hrow : RowP S W (.slice ca i cc) i xs := rowP_own r1 (fun g hg => hSn g (r1.lt g hg).1)
  refine ⟨_, ⟨⟨kd, n, x, tk, vl, ws, cl⟩, ⟨hk.1, fun h6 => by rw [a3]; exact hk.2 h6⟩, rfl, _, _, _, xa, xs, rfl, h.sx, hn, hv, by rw [a3]; exact a1.kept st, a2.mono fun c a hp => hp.kept st, by rw [r3]; exact hrow, r2.mono fun c a hp => hp.kept st (fun _ _ hp => hp.kept st)⟩, ?_⟩
  unfold wtN
  show 1 + vl.length + ws.sum + (cl.map fun c : Int × List ByteArray × Nat => 1 + c.2.1.length + c.2.2).sum ≤ _
  omega
end Go.Proofs.YtomahbdidlglfacGreatDoor
