/- The scope layer as plain functions on terms: what the walks over the program are held against. No program in it. -/
import Derived.WalkKit
import Derived.KernelRfl
import Derived.Maps.OwnSet
import Derived.StringKeys
import Derived.Deep.Draws
import Derived.Deep.QuietTactic
import Derived.BigQuiet
import Derived.Deep.RegionHeld3
import Derived.Deep.LoopGhost
import Derived.Maps.OwnOps
import Derived.Maps.AppendAt
import Derived.Deep.AppendLies
import Derived.Test.YtdcdegeeaakekacDoorProg
namespace Go.Proofs.YtdcdegeeaakekacDoor

namespace Pu
/-- A term over terms of another kind. -/
structure Node (α : Type) where
  kind : Int
  n : Int
  name : ByteArray
  token : ByteArray
  vars : List ByteArray
  args : List α
  cases : List (Int × List ByteArray × α)
/-- Terms with at most so many levels. -/
def TT : Nat → Type
  | 0 => Empty
  | k + 1 => Node (TT k)
/-- How many names and terms there are, with all within. -/
def wN {α : Type} (W : α → Nat) (t : Node α) : Nat :=
  1 + t.vars.length + (t.args.map W).sum + (t.cases.map fun c => 1 + c.2.1.length + W c.2.2).sum
def wt : (k : Nat) → TT k → Nat
  | 0, _ => 0
  | k + 1, t => wN (wt k) t
def sizeN {α : Type} (S : α → Nat) (t : Node α) : Nat := 1 + (t.args.map S).sum + (t.cases.map fun c => S c.2.2).sum
def size : (k : Nat) → TT k → Nat
  | 0, _ => 0
  | k + 1, t => sizeN (size k) t
/-- So often each name is bound. -/
abbrev Cnt := ByteArray → Nat
def with' (c : Cnt) (l : List ByteArray) : Cnt := fun x => c x + l.countP (fun y => decide (y = x))
def has (l : List ByteArray) (x : ByteArray) : Bool := l.any (fun y => decide (y = x))
def ask (c : Cnt) (x : ByteArray) (acc : List ByteArray) : List ByteArray :=
  if c x = 0 ∧ has acc x = false then acc ++ [x] else acc
def asks (k : Int) : Bool := decide (k = 1) || decide (k = 8) || decide (k = 9) || decide (k = 10) || decide (k = 11)
def needsArgs {α : Type} (F : Cnt → α → List ByteArray → List ByteArray) (c : Cnt) : List α → List ByteArray → List ByteArray
  | [], acc => acc
  | a :: l, acc => needsArgs F c l (F c a acc)
def needsCases {α : Type} (F : Cnt → α → List ByteArray → List ByteArray) (c : Cnt) : List (Int × List ByteArray × α) → List ByteArray → List ByteArray
  | [], acc => acc
  | a :: l, acc => needsCases F c l (F (with' c a.2.1) a.2.2 acc)
def needsN {α : Type} (F : Cnt → α → List ByteArray → List ByteArray) (c : Cnt) (t : Node α) (acc : List ByteArray) : List ByteArray :=
  let acc1 := if asks t.kind = true then ask c t.name acc else acc
  if t.kind = 1 then acc1
  else if t.kind = 6 then
    match t.args with
    | [a, b] => F (with' c [t.name]) b (F c a acc1)
    | _ => needsCases F c t.cases (needsArgs F c t.args acc1)
  else needsCases F c t.cases (needsArgs F c t.args acc1)
def needs : (k : Nat) → Cnt → TT k → List ByteArray → List ByteArray
  | 0, _, _, acc => acc
  | k + 1, c, t, acc => needsN (needs k) c t acc
/-- The names that a term needs. -/
def free (k : Nat) (t : TT k) : List ByteArray := needs k (fun _ => 0) t []
end Pu
end Go.Proofs.YtdcdegeeaakekacDoor

/- How terms, cases, functions, maps of names lie in memory; what stays while the program goes on. No walk in it. -/
namespace Go.Proofs.YtdcdegeeaakekacDoor
open Go.RowKit Go.Maps Go.WideMaps
theorem hide {p : Prop} (h : p) : Hid p := h
/-- But for the blocks of T the world's blocks are as they were. -/
structure Fr (T : Nat → Prop) (w w' : World) : Prop where
  os : w'.os = w.os
  tape : w'.tape = w.tape
  output : w'.output = w.output
  size : w.heap.size ≤ w'.heap.size
  block : ∀ k, k < w.heap.size → ¬ T k → w'.heap[k]? = w.heap[k]?
abbrev No : Nat → Prop := fun _ => False
theorem Fr.refl (T : Nat → Prop) (w : World) : Fr T w w := ⟨rfl, rfl, rfl, Nat.le_refl _, fun _ _ _ => rfl⟩
theorem Fr.trans' {T T' : Nat → Prop} {a b c : World} (h : Fr T a b) (k : Fr T' b c) (hT : ∀ i, i < a.heap.size → T' i → T i) : Fr T a c :=
  ⟨k.os.trans h.os, k.tape.trans h.tape, k.output.trans h.output, Nat.le_trans h.size k.size, fun i hi hr => (k.block i (Nat.lt_of_lt_of_le hi h.size) (fun e => hr (hT i hi e))).trans (h.block i hi hr)⟩
theorem Fr.trans {T : Nat → Prop} {a b c : World} (h : Fr T a b) (k : Fr T b c) : Fr T a c := h.trans' k (fun _ _ e => e)
theorem Fr.no {T : Nat → Prop} {a b c : World} (h : Fr T a b) (k : Fr No b c) : Fr T a c := h.trans' k (fun _ _ e => e.elim)
theorem Fr.mono {T T' : Nat → Prop} {a b : World} (h : Fr T a b) (hT : ∀ i, i < a.heap.size → T i → T' i) : Fr T' a b := (Fr.refl T' a).trans' h hT
theorem Fr.alloc {T : Nat → Prop} {a w : World} (h : Fr T a w) (o : Obj) : Fr T a (w.alloc o) :=
  h.no ⟨rfl, rfl, rfl, by simp, fun k hk _ => Below.heap_alloc w o k hk⟩
theorem Fr.drew {T : Nat → Prop} {a w : World} (h : Fr T a w) : Fr T a w.drew := ⟨h.os, h.tape, h.output, h.size, h.block⟩
theorem Fr.drewN {T : Nat → Prop} {a w : World} (h : Fr T a w) (n : Nat) : Fr T a (w.drewN n) := ⟨h.os, h.tape, h.output, h.size, h.block⟩
theorem Fr.setCell {T : Nat → Prop} {a w : World} (h : Fr T a w) {p : Addr} (hp : T p.block ∨ a.heap.size ≤ p.block) (u : Value) : Fr T a (w.setCell p u) := by
  refine h.trans' (T' := fun i => i = p.block) ⟨rfl, rfl, rfl, by simp [World.setCell], fun k _ hk => Below.heap_setCell _ _ _ _ hk⟩ ?_
  intro i hi e
  have e : i = p.block := e
  subst e
  exact hp.resolve_right (by omega)
theorem Fr.grown {T : Nat → Prop} {a w w' : World} {row : Option Nat} (h : Fr T a w) (hg : w.grownBy w' row) (hr : ∀ k, row = some k → T k ∨ a.heap.size ≤ k) : Fr T a w' := by
  refine h.trans' (T' := fun i => row = some i) ⟨hg.os, hg.tape, hg.output, hg.size, fun k hk hne => hg.block k hk (fun e => hne e.symm)⟩ ?_
  intro i hi e
  exact (hr i e).resolve_right (by omega)
theorem Fr.below {w w' : World} (h : Fr No w w') : Below w.heap.size w w' := ⟨h.os, h.tape, h.output, h.size, fun k hk => h.block k hk (fun e => e)⟩
/-- Below B all blocks are as they were. -/
def Old (B : Nat) (w w' : World) : Prop := ∀ k, k < B → w'.heap[k]? = w.heap[k]?
theorem Old.trans {B : Nat} {a b c : World} (h : Old B a b) (k : Old B b c) : Old B a c := fun i hi => (k i hi).trans (h i hi)
theorem Fr.old {T : Nat → Prop} {w w' : World} {B : Nat} (h : Fr T w w') (hB : B ≤ w.heap.size) (hT : ∀ i, i < B → ¬ T i) : Old B w w' := fun k hk => h.block k (by omega) (hT k hk)
theorem Old.cell {B : Nat} {w w' : World} (h : Old B w w') {a : Addr} (ha : a.block < B) : w'.cell? a = w.cell? a := by simp only [World.cell?, h _ ha]
theorem Old.of_heap {B : Nat} {w w' : World} (h : w'.heap = w.heap) : Old B w w' := fun k _ => by rw [h]
/-- A list of elements, each so many cells. -/
def Each {α : Type} (n : Nat) (P : List Value → α → Prop) : List Value → List α → Prop
  | xs, [] => xs = []
  | xs, a :: l => ∃ ck rest, xs = ck ++ rest ∧ ck.length = n ∧ P ck a ∧ Each n P rest l
theorem Each.mono {α : Type} {n : Nat} {P Q : List Value → α → Prop} (h : ∀ c a, P c a → Q c a) : ∀ {l : List α} {xs : List Value}, Each n P xs l → Each n Q xs l
  | [], _, h1 => h1
  | _ :: _, _, ⟨ck, rest, h1, h2, h3, h4⟩ => ⟨ck, rest, h1, h2, h _ _ h3, Each.mono h h4⟩
theorem Each.snoc {α : Type} {n : Nat} {P : List Value → α → Prop} {a : α} {c : List Value} (hc : c.length = n) (hp : P c a) : ∀ {l : List α} {xs : List Value}, Each n P xs l → Each n P (xs ++ c) (l ++ [a])
  | [], xs, h1 => ⟨c, [], by rw [show xs = [] from h1]; simp, hc, hp, rfl⟩
  | _ :: _, _, ⟨ck, rest, h1, h2, h3, h4⟩ => ⟨ck, rest ++ c, by rw [h1, List.append_assoc], h2, h3, Each.snoc hc hp h4⟩
theorem Each.length {α : Type} {n : Nat} {P : List Value → α → Prop} : ∀ {l : List α} {xs : List Value}, Each n P xs l → xs.length = l.length * n
  | [], xs, h1 => by rw [show xs = [] from h1]; simp
  | _ :: l, xs, ⟨ck, rest, h1, h2, h3, h4⟩ => by rw [h1, List.length_append, h2, Each.length h4, List.length_cons, Nat.add_mul]; omega
theorem Each.get {α : Type} {n : Nat} {P : List Value → α → Prop} : ∀ {l : List α} {xs : List Value}, Each n P xs l → ∀ i a, l[i]? = some a → ∃ ck, ck.length = n ∧ P ck a ∧ ∀ j, j < n → xs[i * n + j]? = ck[j]?
  | [], _, _, i, a, h => by simp at h
  | b :: l, xs, ⟨ck, rest, h1, h2, h3, h4⟩, 0, a, h => by
    simp at h; subst h
    exact ⟨ck, h2, h3, fun j hj => by rw [h1]; simp; rw [List.getElem?_append_left (by omega)]⟩
  | b :: l, xs, ⟨ck, rest, h1, h2, h3, h4⟩, i + 1, a, h => by
    simp at h
    obtain ⟨ck', h5, h6, h7⟩ := Each.get h4 i a h
    refine ⟨ck', h5, h6, fun j hj => ?_⟩
    rw [h1, List.getElem?_append_right (by rw [h2, Nat.add_mul]; omega), ← h7 j hj]
    congr 1
    rw [h2, Nat.add_mul]; omega
/-- A row of cells that lies below B. -/
def Row (B : Nat) (w : World) (v : Value) (n : Nat) (xs : List Value) : Prop :=
  ∃ a cap, v = .slice a n cap ∧ n ≤ cap ∧ cap ≤ maxLen ∧ (0 < n → ∃ g o, a = some ⟨g, o, none⟩ ∧ g < B ∧ g < w.heap.size ∧ ∀ i, i < xs.length → w.cell? ⟨g, o + i, none⟩ = xs[i]?)
theorem Row.nil (B : Nat) (w : World) : Row B w (.slice none 0 0) 0 [] := ⟨none, 0, rfl, Nat.le_refl _, Nat.zero_le _, fun h => absurd h (by omega)⟩
theorem Row.form {B : Nat} {w : World} {v : Value} {n : Nat} {xs : List Value} (h : Row B w v n xs) : ∃ a cap, v = .slice a n cap ∧ n ≤ cap ∧ cap ≤ maxLen := by
  obtain ⟨a, cap, h1, h2, h3, _⟩ := h; exact ⟨a, cap, h1, h2, h3⟩
theorem Row.kept {B B' : Nat} {w w' : World} {v : Value} {n : Nat} {xs : List Value} (h : Row B w v n xs) (ho : Old B w w') (hB : B ≤ B') (hs : w.heap.size ≤ w'.heap.size) : Row B' w' v n xs := by
  obtain ⟨a, cap, h1, h2, h3, h4⟩ := h
  refine ⟨a, cap, h1, h2, h3, fun hn => ?_⟩
  obtain ⟨g, o, h5, h6, h8, h7⟩ := h4 hn
  exact ⟨g, o, h5, by omega, by omega, fun i hi => by rw [ho.cell (a := ⟨g, o + i, none⟩) h6]; exact h7 i hi⟩
def Short (l : List ByteArray) : Prop := ∀ x, x ∈ l → x.size ≤ maxLen
/-- A list of names. -/
def Names (B : Nat) (w : World) (v : Value) (l : List ByteArray) : Prop := Row B w v l.length (l.map .string) ∧ Short l
/-- A case in nine cells. -/
def RC {α : Type} (P : List Value → α → Prop) (B : Nat) (w : World) (cs : List Value) (c : Int × List ByteArray × α) : Prop :=
  ∃ vv b, cs = .int .i64 c.1 :: vv :: b ∧ Names B w vv c.2.1 ∧ b.length = 7 ∧ P b c.2.2
/-- A term in seven cells. -/
def RN {α : Type} (P : List Value → α → Prop) (B : Nat) (w : World) (cs : List Value) (t : Pu.Node α) : Prop :=
  ∃ vv av cv acs ccs, cs = [.int .i64 t.kind, .int .i64 t.n, .string t.name, .string t.token, vv, av, cv] ∧ t.name.size ≤ maxLen ∧ (Lit.int .i64 t.n).wf = true ∧
    Names B w vv t.vars ∧ Row B w av t.args.length acs ∧ Each 7 P acs t.args ∧ Row B w cv t.cases.length ccs ∧ Each 9 (RC P B w) ccs t.cases
def RT : (k : Nat) → (B : Nat) → World → List Value → Pu.TT k → Prop
  | 0, _, _, _, _ => False
  | k + 1, B, w, cs, t => RN (RT k B w) B w cs t
/-- A function in nine cells. -/
def RF (k : Nat) (B : Nat) (w : World) (cs : List Value) (f : ByteArray × List ByteArray × Pu.TT k) : Prop :=
  ∃ pv b, cs = .string f.1 :: pv :: b ∧ f.1.size ≤ maxLen ∧ Names B w pv f.2.1 ∧ b.length = 7 ∧ RT k B w b f.2.2
theorem Names.kept {B B' : Nat} {w w' : World} {v : Value} {l : List ByteArray} (h : Names B w v l) (ho : Old B w w') (hB : B ≤ B') (hs : w.heap.size ≤ w'.heap.size) : Names B' w' v l := ⟨h.1.kept ho hB hs, h.2⟩
theorem RC.kept {α : Type} {P P' : List Value → α → Prop} {B B' : Nat} {w w' : World} (ho : Old B w w') (hB : B ≤ B') (hs : w.heap.size ≤ w'.heap.size) (hp : ∀ c a, P c a → P' c a) {cs : List Value} {c : Int × List ByteArray × α} (h : RC P B w cs c) : RC P' B' w' cs c := by
  obtain ⟨vv, b, h1, h2, h3, h4⟩ := h
  exact ⟨vv, b, h1, h2.kept ho hB hs, h3, hp _ _ h4⟩
theorem RN.kept {α : Type} {P P' : List Value → α → Prop} {B B' : Nat} {w w' : World} (ho : Old B w w') (hB : B ≤ B') (hs : w.heap.size ≤ w'.heap.size) (hp : ∀ c a, P c a → P' c a) {cs : List Value} {t : Pu.Node α} (h : RN P B w cs t) : RN P' B' w' cs t := by
  obtain ⟨vv, av, cv, acs, ccs, h1, h2, h3, h4, h5, h6, h7, h8⟩ := h
  exact ⟨vv, av, cv, acs, ccs, h1, h2, h3, h4.kept ho hB hs, h5.kept ho hB hs, h6.mono hp, h7.kept ho hB hs, h8.mono fun c a => RC.kept ho hB hs hp⟩
theorem RT.kept {B B' : Nat} {w w' : World} (ho : Old B w w') (hB : B ≤ B') (hs : w.heap.size ≤ w'.heap.size) : ∀ {k : Nat} {cs : List Value} {t : Pu.TT k}, RT k B w cs t → RT k B' w' cs t
  | 0, _, _, h => h
  | _ + 1, _, _, h => RN.kept ho hB hs (fun _ _ hc => RT.kept ho hB hs hc) h
theorem RF.kept {B B' : Nat} {w w' : World} (ho : Old B w w') (hB : B ≤ B') (hs : w.heap.size ≤ w'.heap.size) {k : Nat} {cs : List Value} {f : ByteArray × List ByteArray × Pu.TT k} (h : RF k B w cs f) : RF k B' w' cs f := by
  obtain ⟨pv, b, h1, h0, h2, h3, h4⟩ := h
  exact ⟨pv, b, h1, h0, h2.kept ho hB hs, h3, RT.kept ho hB hs h4⟩
theorem RT.form {k B : Nat} {w : World} {cs : List Value} {t : Pu.TT k} (h : RT k B w cs t) :
    ∃ kd n x y a0 n0 c0 a1 n1 c1 a2 n2 c2, cs = [.int .i64 kd, .int .i64 n, .string x, .string y, .slice a0 n0 c0, .slice a1 n1 c1, .slice a2 n2 c2] := by
  cases k with
  | zero => exact h.elim
  | succ k =>
    obtain ⟨vv, av, cv, acs, ccs, h1, _, _, h4, h5, _, h7, _⟩ := h
    obtain ⟨a0, c0, rfl, _⟩ := h4.1.form
    obtain ⟨a1, c1, rfl, _⟩ := h5.form
    obtain ⟨a2, c2, rfl, _⟩ := h7.form
    exact ⟨_, _, _, _, _, _, _, _, _, _, _, _, _, h1⟩
theorem RT.length {k B : Nat} {w : World} {cs : List Value} {t : Pu.TT k} (h : RT k B w cs t) : cs.length = 7 := by
  obtain ⟨_, _, _, _, _, _, _, _, _, _, _, _, _, rfl⟩ := h.form; rfl
theorem law : Keyed Tryd.prog 9 := string_keyed Tryd.underlying9
theorem zeroE (w : World) : (zeroValue 3).run Tryd.prog w = .ok (.int .i64 0) w := by kernel_rfl
theorem keyS {x : ByteArray} (h : x.size ≤ maxLen) : keyOf Tryd.prog 9 (.string x) = some (.string x.data.toList) := keyOf_string_mk Tryd.underlying9 h
/-- A map of names to numbers. -/
def MapC (w : World) (b K : Nat) (m : ByteArray → Option Int) : Prop :=
  ∃ k, ∃ D : DataW Unit, k ≤ K ∧ w.ownsMap Tryd.prog 9 (plainElem Tryd.prog 3) b k D ∧
    ∀ x : ByteArray, x.size ≤ maxLen → D.atKey (.string x.data.toList) (.lit (.int .i64 0)) = .lit (.int .i64 ((m x).getD 0)) ∧ Maps.has D (.string x.data.toList) = (m x).isSome
theorem MapC.made (w : World) : MapC (w.alloc (.map #[] 0)) w.heap.size 0 (fun _ => none) :=
  ⟨0, _, Nat.le_refl _, World.ownsMap_made w _ _ _, fun _ _ => ⟨rfl, rfl⟩⟩
theorem MapC.lt {w : World} {b K : Nat} {m : ByteArray → Option Int} (h : MapC w b K m) : b < w.heap.size := by obtain ⟨k, D, _, h1, _⟩ := h; exact h1.lt
theorem MapC.mono {w : World} {b K K' : Nat} {m : ByteArray → Option Int} (h : MapC w b K m) (hK : K ≤ K') : MapC w b K' m := by
  obtain ⟨k, D, h0, h1, h2⟩ := h; exact ⟨k, D, by omega, h1, h2⟩
theorem MapC.kept {w w' : World} {b K : Nat} {m : ByteArray → Option Int} (h : MapC w b K m) (hb : w'.heap[b]? = w.heap[b]?) : MapC w' b K m := by
  obtain ⟨k, D, h0, ⟨es, clock, h3, h4⟩, h2⟩ := h
  exact ⟨k, D, h0, ⟨es, clock, by rw [hb]; exact h3, h4⟩, h2⟩
theorem MapC.fr {w w' : World} {b K : Nat} {m : ByteArray → Option Int} {T : Nat → Prop} (h : MapC w b K m) (hf : Fr T w w') (hT : ¬ T b) : MapC w' b K m := h.kept (hf.block b h.lt hT)
def upd (m : ByteArray → Option Int) (x : ByteArray) (v : Int) : ByteArray → Option Int := fun y => if y = x then some v else m y
theorem key_ne {x y : ByteArray} (h : y ≠ x) : Lit.string y.data.toList ≠ Lit.string x.data.toList := by
  intro e
  injection e with e
  apply h
  cases x; cases y
  simp only at e
  congr 1
  exact Array.toList_inj.1 e
theorem MapC.put {w : World} {b k K : Nat} {m : ByteArray → Option Int} {D : DataW Unit} {x : ByteArray} {v : Int} (hk : k ≤ K) (h1 : w.ownsMap Tryd.prog 9 (plainElem Tryd.prog 3) b (k + 1) (D.put (.string x.data.toList) (.lit (.int .i64 v)))) (hD : IsMap D)
    (h2 : ∀ x : ByteArray, x.size ≤ maxLen → D.atKey (.string x.data.toList) (.lit (.int .i64 0)) = .lit (.int .i64 ((m x).getD 0)) ∧ Maps.has D (.string x.data.toList) = (m x).isSome) : MapC w b (K + 1) (upd m x v) := by
  refine ⟨k + 1, _, by omega, h1, fun y hy => ?_⟩
  by_cases e : y = x
  · subst e
    simp only [upd, if_true, Option.getD_some, Option.isSome_some]
    exact ⟨atKey_put_same hD (by trivial) _ _, has_put_same hD (by trivial) _⟩
  · simp only [upd, if_neg e]
    rw [atKey_put_other (key_ne e), has_put_other (key_ne e)]
    exact h2 y hy
/-- Counts in a map. -/
def CntAt (w : World) (b K : Nat) (c : Pu.Cnt) : Prop := ∃ m, MapC w b K m ∧ ∀ x, (m x).getD 0 = (c x : Int)
theorem CntAt.lt {w : World} {b K : Nat} {c : Pu.Cnt} (h : CntAt w b K c) : b < w.heap.size := by obtain ⟨m, h1, _⟩ := h; exact h1.lt
theorem CntAt.mono {w : World} {b K K' : Nat} {c : Pu.Cnt} (h : CntAt w b K c) (hK : K ≤ K') : CntAt w b K' c := by obtain ⟨m, h1, h2⟩ := h; exact ⟨m, h1.mono hK, h2⟩
theorem CntAt.kept {w w' : World} {b K : Nat} {c : Pu.Cnt} (h : CntAt w b K c) (hb : w'.heap[b]? = w.heap[b]?) : CntAt w' b K c := by obtain ⟨m, h1, h2⟩ := h; exact ⟨m, h1.kept hb, h2⟩
theorem CntAt.fr {w w' : World} {b K : Nat} {c : Pu.Cnt} {T : Nat → Prop} (h : CntAt w b K c) (hf : Fr T w w') (hT : ¬ T b) : CntAt w' b K c := h.kept (hf.block b h.lt hT)
end Go.Proofs.YtdcdegeeaakekacDoor
