/- The scope layer as plain functions on terms: what the walks over the program are held against. No program in it. -/
import Derived.WalkKit
import Derived.KernelRfl
import Derived.Maps.OwnSet
import Derived.StringKeys
import Derived.Deep.Draws
import Derived.Deep.QuietTactic
import Derived.BigQuiet
import Derived.Deep.RegionHeld3
import Derived.Deep.LoopGhost
import Derived.Maps.OwnOps
import Derived.Maps.AppendAt
import Derived.Deep.AppendLies
import Derived.Test.YtomahbdidlglfacGreatDoorProg
namespace Go.Proofs.YtomahbdidlglfacGreatDoor

namespace Pu
/-- A term over terms of another kind. -/
structure Node (α : Type) where
  kind : Int
  n : Int
  name : ByteArray
  token : ByteArray
  vars : List ByteArray
  args : List α
  cases : List (Int × List ByteArray × α)
/-- Terms with at most so many levels. -/
def TT : Nat → Type
  | 0 => Empty
  | k + 1 => Node (TT k)
/-- How many names and terms there are, with all within. -/
def wN {α : Type} (W : α → Nat) (t : Node α) : Nat :=
  1 + t.vars.length + (t.args.map W).sum + (t.cases.map fun c => 1 + c.2.1.length + W c.2.2).sum
def wt : (k : Nat) → TT k → Nat
  | 0, _ => 0
  | k + 1, t => wN (wt k) t
def sizeN {α : Type} (S : α → Nat) (t : Node α) : Nat := 1 + (t.args.map S).sum + (t.cases.map fun c => S c.2.2).sum
def size : (k : Nat) → TT k → Nat
  | 0, _ => 0
  | k + 1, t => sizeN (size k) t
/-- So often each name is bound. -/
abbrev Cnt := ByteArray → Nat
def with' (c : Cnt) (l : List ByteArray) : Cnt := fun x => c x + l.countP (fun y => decide (y = x))
def has (l : List ByteArray) (x : ByteArray) : Bool := l.any (fun y => decide (y = x))
def ask (c : Cnt) (x : ByteArray) (acc : List ByteArray) : List ByteArray :=
  if c x = 0 ∧ has acc x = false then acc ++ [x] else acc
def asks (k : Int) : Bool := decide (k = 1) || decide (k = 8) || decide (k = 9) || decide (k = 10) || decide (k = 11)
def needsArgs {α : Type} (F : Cnt → α → List ByteArray → List ByteArray) (c : Cnt) : List α → List ByteArray → List ByteArray
  | [], acc => acc
  | a :: l, acc => needsArgs F c l (F c a acc)
def needsCases {α : Type} (F : Cnt → α → List ByteArray → List ByteArray) (c : Cnt) : List (Int × List ByteArray × α) → List ByteArray → List ByteArray
  | [], acc => acc
  | a :: l, acc => needsCases F c l (F (with' c a.2.1) a.2.2 acc)
def needsN {α : Type} (F : Cnt → α → List ByteArray → List ByteArray) (c : Cnt) (t : Node α) (acc : List ByteArray) : List ByteArray :=
  let acc1 := if asks t.kind = true then ask c t.name acc else acc
  if t.kind = 1 then acc1
  else if t.kind = 6 then
    match t.args with
    | [a, b] => F (with' c [t.name]) b (F c a acc1)
    | _ => needsCases F c t.cases (needsArgs F c t.args acc1)
  else needsCases F c t.cases (needsArgs F c t.args acc1)
def needs : (k : Nat) → Cnt → TT k → List ByteArray → List ByteArray
  | 0, _, _, acc => acc
  | k + 1, c, t, acc => needsN (needs k) c t acc
/-- The names that a term needs. -/
def free (k : Nat) (t : TT k) : List ByteArray := needs k (fun _ => 0) t []
end Pu
end Go.Proofs.YtomahbdidlglfacGreatDoor

/- How terms, cases, functions, maps of names lie in memory; what stays while the program goes on. No walk in it. -/
namespace Go.Proofs.YtomahbdidlglfacGreatDoor
open Go.RowKit Go.Maps Go.WideMaps
theorem hide {p : Prop} (h : p) : Hid p := h
/-- But for the blocks of T the world's blocks are as they were. -/
structure Fr (T : Nat → Prop) (w w' : World) : Prop where
  os : w'.os = w.os
  tape : w'.tape = w.tape
  output : w'.output = w.output
  size : w.heap.size ≤ w'.heap.size
  block : ∀ k, k < w.heap.size → ¬ T k → w'.heap[k]? = w.heap[k]?
abbrev No : Nat → Prop := fun _ => False
theorem Fr.refl (T : Nat → Prop) (w : World) : Fr T w w := ⟨rfl, rfl, rfl, Nat.le_refl _, fun _ _ _ => rfl⟩
theorem Fr.trans' {T T' : Nat → Prop} {a b c : World} (h : Fr T a b) (k : Fr T' b c) (hT : ∀ i, i < a.heap.size → T' i → T i) : Fr T a c :=
  ⟨k.os.trans h.os, k.tape.trans h.tape, k.output.trans h.output, Nat.le_trans h.size k.size, fun i hi hr => (k.block i (Nat.lt_of_lt_of_le hi h.size) (fun e => hr (hT i hi e))).trans (h.block i hi hr)⟩
theorem Fr.trans {T : Nat → Prop} {a b c : World} (h : Fr T a b) (k : Fr T b c) : Fr T a c := h.trans' k (fun _ _ e => e)
theorem Fr.no {T : Nat → Prop} {a b c : World} (h : Fr T a b) (k : Fr No b c) : Fr T a c := h.trans' k (fun _ _ e => e.elim)
theorem Fr.mono {T T' : Nat → Prop} {a b : World} (h : Fr T a b) (hT : ∀ i, i < a.heap.size → T i → T' i) : Fr T' a b := (Fr.refl T' a).trans' h hT
theorem Fr.alloc {T : Nat → Prop} {a w : World} (h : Fr T a w) (o : Obj) : Fr T a (w.alloc o) :=
  h.no ⟨rfl, rfl, rfl, by simp, fun k hk _ => Below.heap_alloc w o k hk⟩
theorem Fr.drew {T : Nat → Prop} {a w : World} (h : Fr T a w) : Fr T a w.drew := ⟨h.os, h.tape, h.output, h.size, h.block⟩
theorem Fr.drewN {T : Nat → Prop} {a w : World} (h : Fr T a w) (n : Nat) : Fr T a (w.drewN n) := ⟨h.os, h.tape, h.output, h.size, h.block⟩
theorem Fr.setCell {T : Nat → Prop} {a w : World} (h : Fr T a w) {p : Addr} (hp : T p.block ∨ a.heap.size ≤ p.block) (u : Value) : Fr T a (w.setCell p u) := by
  refine h.trans' (T' := fun i => i = p.block) ⟨rfl, rfl, rfl, by simp [World.setCell], fun k _ hk => Below.heap_setCell _ _ _ _ hk⟩ ?_
  intro i hi e
  have e : i = p.block := e
  subst e
  exact hp.resolve_right (by omega)
theorem Fr.grown {T : Nat → Prop} {a w w' : World} {row : Option Nat} (h : Fr T a w) (hg : w.grownBy w' row) (hr : ∀ k, row = some k → T k ∨ a.heap.size ≤ k) : Fr T a w' := by
  refine h.trans' (T' := fun i => row = some i) ⟨hg.os, hg.tape, hg.output, hg.size, fun k hk hne => hg.block k hk (fun e => hne e.symm)⟩ ?_
  intro i hi e
  exact (hr i e).resolve_right (by omega)
theorem Fr.below {w w' : World} (h : Fr No w w') : Below w.heap.size w w' := ⟨h.os, h.tape, h.output, h.size, fun k hk => h.block k hk (fun e => e)⟩
/-- Below B all blocks are as they were. -/
def Old (B : Nat) (w w' : World) : Prop := ∀ k, k < B → w'.heap[k]? = w.heap[k]?
theorem Old.trans {B : Nat} {a b c : World} (h : Old B a b) (k : Old B b c) : Old B a c := fun i hi => (k i hi).trans (h i hi)
theorem Fr.old {T : Nat → Prop} {w w' : World} {B : Nat} (h : Fr T w w') (hB : B ≤ w.heap.size) (hT : ∀ i, i < B → ¬ T i) : Old B w w' := fun k hk => h.block k (by omega) (hT k hk)
theorem Old.cell {B : Nat} {w w' : World} (h : Old B w w') {a : Addr} (ha : a.block < B) : w'.cell? a = w.cell? a := by simp only [World.cell?, h _ ha]
theorem Old.of_heap {B : Nat} {w w' : World} (h : w'.heap = w.heap) : Old B w w' := fun k _ => by rw [h]
/-- A list of elements, each so many cells. -/
def Each {α : Type} (n : Nat) (P : List Value → α → Prop) : List Value → List α → Prop
  | xs, [] => xs = []
  | xs, a :: l => ∃ ck rest, xs = ck ++ rest ∧ ck.length = n ∧ P ck a ∧ Each n P rest l
theorem Each.mono {α : Type} {n : Nat} {P Q : List Value → α → Prop} (h : ∀ c a, P c a → Q c a) : ∀ {l : List α} {xs : List Value}, Each n P xs l → Each n Q xs l
  | [], _, h1 => h1
  | _ :: _, _, ⟨ck, rest, h1, h2, h3, h4⟩ => ⟨ck, rest, h1, h2, h _ _ h3, Each.mono h h4⟩
theorem Each.snoc {α : Type} {n : Nat} {P : List Value → α → Prop} {a : α} {c : List Value} (hc : c.length = n) (hp : P c a) : ∀ {l : List α} {xs : List Value}, Each n P xs l → Each n P (xs ++ c) (l ++ [a])
  | [], xs, h1 => ⟨c, [], by rw [show xs = [] from h1]; simp, hc, hp, rfl⟩
  | _ :: _, _, ⟨ck, rest, h1, h2, h3, h4⟩ => ⟨ck, rest ++ c, by rw [h1, List.append_assoc], h2, h3, Each.snoc hc hp h4⟩
theorem Each.length {α : Type} {n : Nat} {P : List Value → α → Prop} : ∀ {l : List α} {xs : List Value}, Each n P xs l → xs.length = l.length * n
  | [], xs, h1 => by rw [show xs = [] from h1]; simp
  | _ :: l, xs, ⟨ck, rest, h1, h2, h3, h4⟩ => by rw [h1, List.length_append, h2, Each.length h4, List.length_cons, Nat.add_mul]; omega
theorem Each.get {α : Type} {n : Nat} {P : List Value → α → Prop} : ∀ {l : List α} {xs : List Value}, Each n P xs l → ∀ i a, l[i]? = some a → ∃ ck, ck.length = n ∧ P ck a ∧ ∀ j, j < n → xs[i * n + j]? = ck[j]?
  | [], _, _, i, a, h => by simp at h
  | b :: l, xs, ⟨ck, rest, h1, h2, h3, h4⟩, 0, a, h => by
    simp at h; subst h
    exact ⟨ck, h2, h3, fun j hj => by rw [h1]; simp; rw [List.getElem?_append_left (by omega)]⟩
  | b :: l, xs, ⟨ck, rest, h1, h2, h3, h4⟩, i + 1, a, h => by
    simp at h
    obtain ⟨ck', h5, h6, h7⟩ := Each.get h4 i a h
    refine ⟨ck', h5, h6, fun j hj => ?_⟩
    rw [h1, List.getElem?_append_right (by rw [h2, Nat.add_mul]; omega), ← h7 j hj]
    congr 1
    rw [h2, Nat.add_mul]; omega
/-- A row of cells that lies below B. -/
def Row (B : Nat) (w : World) (v : Value) (n : Nat) (xs : List Value) : Prop :=
  ∃ a cap, v = .slice a n cap ∧ n ≤ cap ∧ cap ≤ maxLen ∧ (0 < n → ∃ g o, a = some ⟨g, o, none⟩ ∧ g < B ∧ g < w.heap.size ∧ ∀ i, i < xs.length → w.cell? ⟨g, o + i, none⟩ = xs[i]?)
theorem Row.nil (B : Nat) (w : World) : Row B w (.slice none 0 0) 0 [] := ⟨none, 0, rfl, Nat.le_refl _, Nat.zero_le _, fun h => absurd h (by omega)⟩
theorem Row.form {B : Nat} {w : World} {v : Value} {n : Nat} {xs : List Value} (h : Row B w v n xs) : ∃ a cap, v = .slice a n cap ∧ n ≤ cap ∧ cap ≤ maxLen := by
  obtain ⟨a, cap, h1, h2, h3, _⟩ := h; exact ⟨a, cap, h1, h2, h3⟩
theorem Row.kept {B B' : Nat} {w w' : World} {v : Value} {n : Nat} {xs : List Value} (h : Row B w v n xs) (ho : Old B w w') (hB : B ≤ B') (hs : w.heap.size ≤ w'.heap.size) : Row B' w' v n xs := by
  obtain ⟨a, cap, h1, h2, h3, h4⟩ := h
  refine ⟨a, cap, h1, h2, h3, fun hn => ?_⟩
  obtain ⟨g, o, h5, h6, h8, h7⟩ := h4 hn
  exact ⟨g, o, h5, by omega, by omega, fun i hi => by rw [ho.cell (a := ⟨g, o + i, none⟩) h6]; exact h7 i hi⟩
def Short (l : List ByteArray) : Prop := ∀ x, x ∈ l → x.size ≤ maxLen
/-- A list of names. -/
def Names (B : Nat) (w : World) (v : Value) (l : List ByteArray) : Prop := Row B w v l.length (l.map .string) ∧ Short l
/-- A case in nine cells. -/
def RC {α : Type} (P : List Value → α → Prop) (B : Nat) (w : World) (cs : List Value) (c : Int × List ByteArray × α) : Prop :=
  ∃ vv b, cs = .int .i64 c.1 :: vv :: b ∧ Names B w vv c.2.1 ∧ b.length = 7 ∧ P b c.2.2
/-- A term in seven cells. -/
def RN {α : Type} (P : List Value → α → Prop) (B : Nat) (w : World) (cs : List Value) (t : Pu.Node α) : Prop :=
  ∃ vv av cv acs ccs, cs = [.int .i64 t.kind, .int .i64 t.n, .string t.name, .string t.token, vv, av, cv] ∧ t.name.size ≤ maxLen ∧ (Lit.int .i64 t.n).wf = true ∧
    Names B w vv t.vars ∧ Row B w av t.args.length acs ∧ Each 7 P acs t.args ∧ Row B w cv t.cases.length ccs ∧ Each 9 (RC P B w) ccs t.cases
def RT : (k : Nat) → (B : Nat) → World → List Value → Pu.TT k → Prop
  | 0, _, _, _, _ => False
  | k + 1, B, w, cs, t => RN (RT k B w) B w cs t
/-- A function in nine cells. -/
def RF (k : Nat) (B : Nat) (w : World) (cs : List Value) (f : ByteArray × List ByteArray × Pu.TT k) : Prop :=
  ∃ pv b, cs = .string f.1 :: pv :: b ∧ f.1.size ≤ maxLen ∧ Names B w pv f.2.1 ∧ b.length = 7 ∧ RT k B w b f.2.2
theorem Names.kept {B B' : Nat} {w w' : World} {v : Value} {l : List ByteArray} (h : Names B w v l) (ho : Old B w w') (hB : B ≤ B') (hs : w.heap.size ≤ w'.heap.size) : Names B' w' v l := ⟨h.1.kept ho hB hs, h.2⟩
theorem RC.kept {α : Type} {P P' : List Value → α → Prop} {B B' : Nat} {w w' : World} (ho : Old B w w') (hB : B ≤ B') (hs : w.heap.size ≤ w'.heap.size) (hp : ∀ c a, P c a → P' c a) {cs : List Value} {c : Int × List ByteArray × α} (h : RC P B w cs c) : RC P' B' w' cs c := by
  obtain ⟨vv, b, h1, h2, h3, h4⟩ := h
  exact ⟨vv, b, h1, h2.kept ho hB hs, h3, hp _ _ h4⟩
theorem RN.kept {α : Type} {P P' : List Value → α → Prop} {B B' : Nat} {w w' : World} (ho : Old B w w') (hB : B ≤ B') (hs : w.heap.size ≤ w'.heap.size) (hp : ∀ c a, P c a → P' c a) {cs : List Value} {t : Pu.Node α} (h : RN P B w cs t) : RN P' B' w' cs t := by
  obtain ⟨vv, av, cv, acs, ccs, h1, h2, h3, h4, h5, h6, h7, h8⟩ := h
  exact ⟨vv, av, cv, acs, ccs, h1, h2, h3, h4.kept ho hB hs, h5.kept ho hB hs, h6.mono hp, h7.kept ho hB hs, h8.mono fun c a => RC.kept ho hB hs hp⟩
theorem RT.kept {B B' : Nat} {w w' : World} (ho : Old B w w') (hB : B ≤ B') (hs : w.heap.size ≤ w'.heap.size) : ∀ {k : Nat} {cs : List Value} {t : Pu.TT k}, RT k B w cs t → RT k B' w' cs t
  | 0, _, _, h => h
  | _ + 1, _, _, h => RN.kept ho hB hs (fun _ _ hc => RT.kept ho hB hs hc) h
theorem RF.kept {B B' : Nat} {w w' : World} (ho : Old B w w') (hB : B ≤ B') (hs : w.heap.size ≤ w'.heap.size) {k : Nat} {cs : List Value} {f : ByteArray × List ByteArray × Pu.TT k} (h : RF k B w cs f) : RF k B' w' cs f := by
  obtain ⟨pv, b, h1, h0, h2, h3, h4⟩ := h
  exact ⟨pv, b, h1, h0, h2.kept ho hB hs, h3, RT.kept ho hB hs h4⟩
theorem RT.form {k B : Nat} {w : World} {cs : List Value} {t : Pu.TT k} (h : RT k B w cs t) :
    ∃ kd n x y a0 n0 c0 a1 n1 c1 a2 n2 c2, cs = [.int .i64 kd, .int .i64 n, .string x, .string y, .slice a0 n0 c0, .slice a1 n1 c1, .slice a2 n2 c2] := by
  cases k with
  | zero => exact h.elim
  | succ k =>
    obtain ⟨vv, av, cv, acs, ccs, h1, _, _, h4, h5, _, h7, _⟩ := h
    obtain ⟨a0, c0, rfl, _⟩ := h4.1.form
    obtain ⟨a1, c1, rfl, _⟩ := h5.form
    obtain ⟨a2, c2, rfl, _⟩ := h7.form
    exact ⟨_, _, _, _, _, _, _, _, _, _, _, _, _, h1⟩
theorem RT.length {k B : Nat} {w : World} {cs : List Value} {t : Pu.TT k} (h : RT k B w cs t) : cs.length = 7 := by
  obtain ⟨_, _, _, _, _, _, _, _, _, _, _, _, _, rfl⟩ := h.form; rfl
theorem law : Keyed Tryz.prog 9 := string_keyed Tryz.underlying9
theorem zeroE (w : World) : (zeroValue 3).run Tryz.prog w = .ok (.int .i64 0) w := by kernel_rfl
theorem keyS {x : ByteArray} (h : x.size ≤ maxLen) : keyOf Tryz.prog 9 (.string x) = some (.string x.data.toList) := keyOf_string_mk Tryz.underlying9 h
/-- A map of names to numbers. -/
def MapC (w : World) (b K : Nat) (m : ByteArray → Option Int) : Prop :=
  ∃ k, ∃ D : DataW Unit, k ≤ K ∧ w.ownsMap Tryz.prog 9 (plainElem Tryz.prog 3) b k D ∧
    ∀ x : ByteArray, x.size ≤ maxLen → D.atKey (.string x.data.toList) (.lit (.int .i64 0)) = .lit (.int .i64 ((m x).getD 0)) ∧ Maps.has D (.string x.data.toList) = (m x).isSome
theorem MapC.made (w : World) : MapC (w.alloc (.map #[] 0)) w.heap.size 0 (fun _ => none) :=
  ⟨0, _, Nat.le_refl _, World.ownsMap_made w _ _ _, fun _ _ => ⟨rfl, rfl⟩⟩
theorem MapC.lt {w : World} {b K : Nat} {m : ByteArray → Option Int} (h : MapC w b K m) : b < w.heap.size := by obtain ⟨k, D, _, h1, _⟩ := h; exact h1.lt
theorem MapC.mono {w : World} {b K K' : Nat} {m : ByteArray → Option Int} (h : MapC w b K m) (hK : K ≤ K') : MapC w b K' m := by
  obtain ⟨k, D, h0, h1, h2⟩ := h; exact ⟨k, D, by omega, h1, h2⟩
theorem MapC.kept {w w' : World} {b K : Nat} {m : ByteArray → Option Int} (h : MapC w b K m) (hb : w'.heap[b]? = w.heap[b]?) : MapC w' b K m := by
  obtain ⟨k, D, h0, ⟨es, clock, h3, h4⟩, h2⟩ := h
  exact ⟨k, D, h0, ⟨es, clock, by rw [hb]; exact h3, h4⟩, h2⟩
theorem MapC.fr {w w' : World} {b K : Nat} {m : ByteArray → Option Int} {T : Nat → Prop} (h : MapC w b K m) (hf : Fr T w w') (hT : ¬ T b) : MapC w' b K m := h.kept (hf.block b h.lt hT)
def upd (m : ByteArray → Option Int) (x : ByteArray) (v : Int) : ByteArray → Option Int := fun y => if y = x then some v else m y
theorem key_ne {x y : ByteArray} (h : y ≠ x) : Lit.string y.data.toList ≠ Lit.string x.data.toList := by
  intro e
  injection e with e
  apply h
  cases x; cases y
  simp only at e
  congr 1
  exact Array.toList_inj.1 e
theorem MapC.put {w : World} {b k K : Nat} {m : ByteArray → Option Int} {D : DataW Unit} {x : ByteArray} {v : Int} (hk : k ≤ K) (h1 : w.ownsMap Tryz.prog 9 (plainElem Tryz.prog 3) b (k + 1) (D.put (.string x.data.toList) (.lit (.int .i64 v)))) (hD : IsMap D)
    (h2 : ∀ x : ByteArray, x.size ≤ maxLen → D.atKey (.string x.data.toList) (.lit (.int .i64 0)) = .lit (.int .i64 ((m x).getD 0)) ∧ Maps.has D (.string x.data.toList) = (m x).isSome) : MapC w b (K + 1) (upd m x v) := by
  refine ⟨k + 1, _, by omega, h1, fun y hy => ?_⟩
  by_cases e : y = x
  · subst e
    simp only [upd, if_true, Option.getD_some, Option.isSome_some]
    exact ⟨atKey_put_same hD (by trivial) _ _, has_put_same hD (by trivial) _⟩
  · simp only [upd, if_neg e]
    rw [atKey_put_other (key_ne e), has_put_other (key_ne e)]
    exact h2 y hy
/-- Counts in a map. -/
def CntAt (w : World) (b K : Nat) (c : Pu.Cnt) : Prop := ∃ m, MapC w b K m ∧ ∀ x, (m x).getD 0 = (c x : Int)
theorem CntAt.lt {w : World} {b K : Nat} {c : Pu.Cnt} (h : CntAt w b K c) : b < w.heap.size := by obtain ⟨m, h1, _⟩ := h; exact h1.lt
theorem CntAt.mono {w : World} {b K K' : Nat} {c : Pu.Cnt} (h : CntAt w b K c) (hK : K ≤ K') : CntAt w b K' c := by obtain ⟨m, h1, h2⟩ := h; exact ⟨m, h1.mono hK, h2⟩
theorem CntAt.kept {w w' : World} {b K : Nat} {c : Pu.Cnt} (h : CntAt w b K c) (hb : w'.heap[b]? = w.heap[b]?) : CntAt w' b K c := by obtain ⟨m, h1, h2⟩ := h; exact ⟨m, h1.kept hb, h2⟩
theorem CntAt.fr {w w' : World} {b K : Nat} {c : Pu.Cnt} {T : Nat → Prop} (h : CntAt w b K c) (hf : Fr T w w') (hT : ¬ T b) : CntAt w' b K c := h.kept (hf.block b h.lt hT)
end Go.Proofs.YtomahbdidlglfacGreatDoor

/- 'with': names are bound while something is done. -/
namespace Go.Proofs.YtomahbdidlglfacGreatDoor
open Go.RowKit Go.Maps Go.WideMaps
theorem Row.at {B : Nat} {w : World} {v : Value} {n : Nat} {xs : List Value} (h : Row B w v n xs) (hn : 0 < n) :
    ∃ g o cap, v = .slice (some ⟨g, o, none⟩) n cap ∧ n ≤ cap ∧ cap ≤ maxLen ∧ g < B ∧ g < w.heap.size ∧ ∀ i, i < xs.length → w.cell? ⟨g, o + i, none⟩ = xs[i]? := by
  obtain ⟨a, cap, h1, h2, h3, h4⟩ := h
  obtain ⟨g, o, rfl, h5, h6, h7⟩ := h4 hn
  exact ⟨g, o, cap, h1, h2, h3, h5, h6, h7⟩
theorem Names.at {B : Nat} {w : World} {v : Value} {l : List ByteArray} (h : Names B w v l) {i : Nat} (hi : i < l.length) :
    ∃ g o cap, v = .slice (some ⟨g, o, none⟩) l.length cap ∧ cap ≤ maxLen ∧ g < B ∧ g < w.heap.size ∧ w.cell? ⟨g, o + i, none⟩ = some (.string l[i]) ∧ l[i].size ≤ maxLen := by
  obtain ⟨g, o, cap, h1, h2, h3, h4, h5, h6⟩ := h.1.at (by omega)
  exact ⟨g, o, cap, h1, h3, h4, h5, by rw [h6 i (by simpa using hi), List.getElem?_map, List.getElem?_eq_getElem hi]; rfl, h.2 _ (List.getElem_mem hi)⟩
theorem with_snoc (c : Pu.Cnt) (l : List ByteArray) (k : Nat) (h : k < l.length) (x : ByteArray) : Pu.with' c (l.take (k + 1)) x = Pu.with' c (l.take k) x + if l[k] = x then 1 else 0 := by
  unfold Pu.with'
  rw [List.take_succ_eq_append_getElem h, List.countP_append]
  by_cases e : l[k] = x <;> simp [e, Nat.add_assoc]
theorem with_nil (c : Pu.Cnt) : Pu.with' c [] = c := by funext x; simp [Pu.with']
/-- a step up in a map of counts -/
theorem cnt_up {w' : World} {b K : Nat} {c c' : Pu.Cnt} {x : ByteArray} {k : Nat} {D : DataW Unit} {m : ByteArray → Option Int} {v : Int} (hk : k ≤ K) (hD : IsMap D)
    (h2 : ∀ x : ByteArray, x.size ≤ maxLen → D.atKey (.string x.data.toList) (.lit (.int .i64 0)) = .lit (.int .i64 ((m x).getD 0)) ∧ Maps.has D (.string x.data.toList) = (m x).isSome)
    (hm : ∀ y, (m y).getD 0 = (c y : Int)) (h1 : w'.ownsMap Tryz.prog 9 (plainElem Tryz.prog 3) b (k + 1) (D.put (.string x.data.toList) (.lit (.int .i64 v)))) (hc : ∀ y, y ≠ x → c' y = c y) (hv : v = (c' x : Int)) : CntAt w' b (K + 1) c' := by
  refine ⟨upd m x v, MapC.put hk h1 hD h2, fun y => ?_⟩
  by_cases e : y = x
  · subst e; simp [upd, hv]
  · simp only [upd, if_neg e, hm, hc y e]
set_option maxHeartbeats 1000000 in
theorem with_any (f : FuncId) (cap : Array Value) (B A K K2 : Nat) (v : Value) (l : List ByteArray) (c : Pu.Cnt) (w : World) (Q : World → Prop) (eg : ∀ args w, (callFunc f args).run Tryz.prog w = .ok (.enter f args) w)
    (hl : Names B w v l) (hA : ∀ w w', Names B w v l → Fr (· = A) w w' → Names B w' v l) (hc : CntAt w A K c) (hcb : ∀ x, c x + l.length ≤ 1099511627776) (hK : K + l.length ≤ 1099511627776) (hK2 : K2 + l.length ≤ 1099511627776)
    (hdo : ∀ w1, Fr (· = A) w w1 → CntAt w1 A (K + l.length) (Pu.with' c l) → Calls Tryz.prog f cap w1 fun e w2 => e = .returned (.tuple #[]) ∧ CntAt w2 A K2 (Pu.with' c l) ∧ Names B w2 v l ∧ Q w2)
    (hQ : ∀ w2 w3, Q w2 → Fr (· = A) w2 w3 → Q w3) :
    Calls Tryz.prog 138 #[.map (some A), v, .func (.func f) #[] cap] w fun e w' => e = .returned (.tuple #[]) ∧ CntAt w' A (K2 + l.length) c ∧ Q w' := by
  obtain ⟨a0, cp0, hv0, hcp1, hcp2⟩ := hl.1.form
  subst hv0
  have HL := hide hl
  have HC := hide hc
  have HD := hide hdo
  have HQ := hide hQ
  have HB := hide hcb
  have HA := hide hA
  clear hl hc hdo hQ hcb hA
  go_enter Tryz.func138, Tryz.ntmps138
  go_wp2_with fail
  go_loopw [12] (fun i wr => ∃ k : Nat, k ≤ l.length ∧ i = .int .i64 k ∧ Fr (· = A) w wr ∧ CntAt wr A (K + k) (Pu.with' c (l.take k))) (fun i _ => l.length - (intOf i).toNat)
  case atStart => exact ⟨0, Nat.zero_le _, rfl, Fr.refl _ _, by rw [show Pu.with' c (l.take 0) = c from with_nil c]; exact HC.out⟩
  case round =>
    obtain ⟨k, hk, rfl, hf, hcn⟩ := hrel
    by_cases hlt : k < l.length
    · obtain ⟨g, o, cp, hv, _, hg, hgw, hcell', hsz⟩ := (HA.out w wr HL.out hf).at hlt
      injection hv with hv1 _ hv2
      subst hv1 hv2
      obtain ⟨m, ⟨kk, D, hkk, hown, hD⟩, hm⟩ := hcn
      have hkey := keyS hsz
      have hupd := hide (with_snoc c l k hlt)
      obtain ⟨cv, hlk, hat, hwc⟩ := hown.lookup_int law Tryz.underlying153 Tryz.underlying3 (zeroE _) hkey
      have hcv : cv = (Pu.with' c (l.take k) l[k] : Int) := by
        have := (hD _ hsz).1; rw [hat] at this; simp at this; rw [this]; exact hm _
      have hle : Pu.with' c (l.take k) l[k] ≤ 1099511627776 := by
        unfold Pu.with'
        have := List.countP_le_length (p := fun y => decide (y = l[k])) (l := l.take k)
        have h2 := HB.out l[k]
        rw [List.length_take] at this
        omega
      have HM := hide hm
      have HDD := hide hD
      have HF := hide hf
      have HCV := hide hcv
      have hcv1 : 0 ≤ cv := by omega
      have hcv2 : cv ≤ 1099511627776 := by omega
      clear hm hD hf hcv hat
      generalize l[k] = x at *
      have i1 : (k : Int) < (l.length : Int) := by omega
      have i0 : (0 : Int) ≤ (k : Int) := by omega
      unfold maxLen at hcp2
      go_wp2_with (first
        | (at_mapUpdate; refine wpList_mapUpdate_own _ rfl _ _ _ 153 rfl 9 3 law Tryz.underlying153 _ A kk _ rfl hown (by unfold maxLen; omega) _ _ _ rfl rfl hkey _ [] (plainElem_int Tryz.underlying3 (WalkArith.wf_i64 (by omega))) ?_; intro w1 hown1 hgrow1)
        | fail)
      go_wp2_with fail
      go_roundw
      case rel =>
        exact ⟨k + 1, by omega, by go_num, HF.out.grown hgrow1 (fun j hj => by cases hj; exact .inl rfl), cnt_up hkk hown.isMap HDD.out HM.out hown1 (fun y hy => by rw [hupd.out]; simp [Ne.symm hy]) (by rw [hupd.out, HCV.out]; simp)⟩
      case measure => simp [intOf]; omega
    · have hkl : k = l.length := by omega
      subst hkl
      have hcn' : CntAt wr A (K + l.length) (Pu.with' c l) := by rw [List.take_length] at hcn; exact hcn
      have HF := hide hf
      have HCN := hide hcn'
      clear hf hcn hcn'
      go_wp2_with fail
      refine (HD.out _ HF.out HCN.out).mono ?_
      rintro e w2 ⟨rfl, hcn2, ho2, hq2⟩
      have HC2 := hide hcn2
      have HQ2 := hide hq2
      have HO2 := hide ho2
      clear hcn2 hq2 ho2 HF HCN
      go_wp2_with fail
      clear eg
      go_loopw [25] (fun i wr => ∃ k : Nat, k ≤ l.length ∧ i = .int .i64 k ∧ Fr (· = A) w2 wr ∧ ∃ c', CntAt wr A (K2 + k) c' ∧ ∀ x, c' x + (l.take k).countP (fun y => decide (y = x)) = Pu.with' c l x) (fun i _ => l.length - (intOf i).toNat)
      case atStart => exact ⟨0, Nat.zero_le _, rfl, Fr.refl _ _, _, HC2.out, fun x => by simp⟩
      case round =>
        obtain ⟨k, hk, rfl, hf, c', hcn, hcc⟩ := hrel
        by_cases hlt : k < l.length
        · obtain ⟨g, o, cp, hv, _, hg, hgw, hcell', hsz⟩ := (HA.out w2 wr HO2.out hf).at hlt
          injection hv with hv1 _ hv2
          subst hv1 hv2
          obtain ⟨m, ⟨kk, D, hkk, hown, hD⟩, hm⟩ := hcn
          have hkey := keyS hsz
          obtain ⟨cv, hlk, hat, hwc⟩ := hown.lookup_int law Tryz.underlying153 Tryz.underlying3 (zeroE _) hkey
          have hcv : cv = (c' l[k] : Int) := by
            have := (hD _ hsz).1; rw [hat] at this; simp at this; rw [this]; exact hm _
          have hsn : ∀ x, (l.take (k + 1)).countP (fun y => decide (y = x)) = (l.take k).countP (fun y => decide (y = x)) + if l[k] = x then 1 else 0 := by
            intro x
            rw [List.take_succ_eq_append_getElem hlt, List.countP_append]
            by_cases e : l[k] = x <;> simp [e]
          have hmt : ∀ x, (l.take (k + 1)).countP (fun y => decide (y = x)) ≤ l.countP (fun y => decide (y = x)) := fun x => (List.take_sublist _ _).countP_le
          have hle : 1 ≤ c' l[k] ∧ c' l[k] ≤ 1099511627776 := by
            have h1 := hcc l[k]
            have h2 := hsn l[k]
            have h3 := hmt l[k]
            have h4 := HB.out l[k]
            have h5 := List.countP_le_length (p := fun y => decide (y = l[k])) (l := l)
            simp at h2
            unfold Pu.with' at h1
            omega
          have HM := hide hm
          have HDD := hide hD
          have HF := hide hf
          have HCV := hide hcv
          have HSN := hide hsn
          have HCC := hide hcc
          have hcv1 : 1 ≤ cv := by omega
          have hcv2 : cv ≤ 1099511627776 := by omega
          clear hm hD hf hcv hat hsn hmt hcc
          generalize l[k] = x at *
          have i1 : (k : Int) < (l.length : Int) := by omega
          have i0 : (0 : Int) ≤ (k : Int) := by omega
          unfold maxLen at hcp2
          go_wp2_with (first
            | (at_mapUpdate; refine wpList_mapUpdate_own _ rfl _ _ _ 153 rfl 9 3 law Tryz.underlying153 _ A kk _ rfl hown (by unfold maxLen; omega) _ _ _ rfl rfl hkey _ [] (plainElem_int Tryz.underlying3 (WalkArith.wf_i64 (by omega))) ?_; intro w1 hown1 hgrow1)
            | fail)
          go_wp2_with fail
          go_roundw
          case rel =>
            refine ⟨k + 1, by omega, by go_num, HF.out.grown hgrow1 (fun j hj => by cases hj; exact .inl rfl), fun y => if y = x then c' x - 1 else c' y, cnt_up hkk hown.isMap HDD.out HM.out hown1 (fun y hy => by simp [hy]) (by rw [HCV.out]; simp; omega), fun y => ?_⟩
            rw [HSN.out, ← HCC.out y]
            by_cases e : y = x
            · subst e; simp; omega
            · simp [e, Ne.symm e]
          case measure => simp [intOf]; omega
        · have hkl : k = l.length := by omega
          subst hkl
          go_wp2_with fail
          go_end0
          have e : c' = c := by
            funext x
            have := hcc x
            rw [List.take_length] at this
            unfold Pu.with' at this
            omega
          subst e
          exact ⟨rfl, hcn, HQ.out _ _ HQ2.out hf⟩
end Go.Proofs.YtomahbdidlglfacGreatDoor

/- 'Free$1': a name is asked for. -/
namespace Go.Proofs.YtomahbdidlglfacGreatDoor
open Go.RowKit Go.Maps Go.WideMaps
theorem cell_of_heap {w : World} {R : Nat} {cur : Array Value} {t : TypeId} {z : Nat × Nat} (h : w.heap[R]? = some (.cells cur t z)) (o : Nat) : w.cell? ⟨R, o, none⟩ = cur[o]? := by
  simp [World.cell?, h]
theorem frozen_of_heap {w : World} {R : Nat} {cur : Array Value} {t : TypeId} (h : w.heap[R]? = some (.cells cur t (0, 0))) (o : Nat) : w.frozen? ⟨R, o, none⟩ = false := by
  simp [World.frozen?, h]
theorem lt_of_heap {w : World} {R : Nat} {o : Obj} (h : w.heap[R]? = some o) : R < w.heap.size := (Array.getElem?_eq_some_iff.1 h).1
theorem fr_heap {T : Nat → Prop} {w w' : World} {R : Nat} {o : Obj} (h : w.heap[R]? = some o) (hf : Fr T w w') (hT : ¬ T R) : w'.heap[R]? = some o := by
  rw [hf.block R (lt_of_heap h) hT]; exact h
theorem one_set {w : World} {R : Nat} {v u : Value} {t : TypeId} {z : Nat × Nat} (h : w.heap[R]? = some (.cells #[v] t z)) : (w.setCell ⟨R, 0, none⟩ u).heap[R]? = some (.cells #[u] t z) := by
  simp [World.setCell, Array.getElem?_modify, h]
/-- The blocks that the asking for names turns. -/
def TS (A Td Nm : Nat) (v : Value) : Nat → Prop := fun k => k = A ∨ k = Td ∨ k = Nm ∨ v.ownBlock = some k
/-- What is asked for: the counts, what is told, the names. -/
structure FS (B A Td Nm ab tb K : Nat) (w : World) (c : Pu.Cnt) (acc : List ByteArray) (v : Value) : Prop where
  cnt : CntAt w A K c
  told : CntAt w Td K (fun x => if Pu.has acc x = true then 1 else 0)
  box : w.heap[Nm]? = some (.cells #[v] 28 (0, 0))
  row : w.ownsRow B 9 1 v acc.length (acc.map .string)
  hA : B ≤ A
  hT : B ≤ Td
  hN : B ≤ Nm
  ne : A ≠ Td
  bA : w.heap[ab]? = some (.cells #[.map (some A)] 153 (0, 0))
  bT : w.heap[tb]? = some (.cells #[.map (some Td)] 51 (0, 0))
  sh : Short acc
theorem MapC.obj {w : World} {b K : Nat} {m : ByteArray → Option Int} (h : MapC w b K m) : ∃ es clock, w.heap[b]? = some (.map es clock) := by
  obtain ⟨k, D, h0, ⟨es, clock, h3, h4⟩, h2⟩ := h; exact ⟨es, clock, h3⟩
theorem CntAt.obj {w : World} {b K : Nat} {c : Pu.Cnt} (h : CntAt w b K c) : ∃ es clock, w.heap[b]? = some (.map es clock) := by obtain ⟨m, h1, _⟩ := h; exact h1.obj
theorem CntAt.ne_cells {w : World} {b K R : Nat} {c : Pu.Cnt} {cur : Array Value} {t : TypeId} {z : Nat × Nat} (h : CntAt w b K c) (hR : w.heap[R]? = some (.cells cur t z)) : R ≠ b := by
  rintro rfl
  obtain ⟨es, clock, h1⟩ := h.obj
  rw [h1] at hR; cases hR
theorem row_obj {w : World} {B n : Nat} {v : Value} {xs : List Value} {e : TypeId} {sz : Nat} (h : w.ownsRow B e sz v n xs) {g : Nat} (hg : v.ownBlock = some g) : ∃ cur, w.heap[g]? = some (.cells cur e (0, 0)) := by
  rcases h.2 with ⟨rfl, hn⟩ | ⟨g', cap, cur, rfl, hb, hgg, rest⟩
  · simp [Value.ownBlock] at hg
  · simp [Value.ownBlock] at hg
    subst hg
    exact ⟨cur, hgg⟩
theorem row_ne_cells {w : World} {B n : Nat} {v : Value} {xs : List Value} {e t : TypeId} {sz R : Nat} {cur : Array Value} {z : Nat × Nat} (h : w.ownsRow B e sz v n xs) (hR : w.heap[R]? = some (.cells cur t z)) (ht : t ≠ e) : v.ownBlock ≠ some R := by
  intro hg
  obtain ⟨cur', h1⟩ := row_obj h hg
  rw [h1] at hR
  injection hR with hR
  injection hR with _ hR _
  exact ht hR.symm
theorem row_ne_map {w : World} {B n : Nat} {v : Value} {xs : List Value} {e : TypeId} {sz b K : Nat} {c : Pu.Cnt} (h : w.ownsRow B e sz v n xs) (hc : CntAt w b K c) : v.ownBlock ≠ some b := by
  intro hg
  obtain ⟨cur', h1⟩ := row_obj h hg
  exact hc.ne_cells h1 rfl
theorem row_fr {w w' : World} {B n : Nat} {v : Value} {xs : List Value} {e : TypeId} {sz : Nat} {T : Nat → Prop} (h : w.ownsRow B e sz v n xs) (hf : Fr T w w') (hT : ∀ g, v.ownBlock = some g → ¬ T g) : w'.ownsRow B e sz v n xs := by
  refine ⟨h.1, ?_⟩
  rcases h.2 with hn | ⟨g, cap, cur, rfl, hb, hgg, rest⟩
  · exact .inl hn
  · exact .inr ⟨g, cap, cur, rfl, hb, fr_heap hgg hf (hT g rfl), rest⟩
theorem row_form {w : World} {B n : Nat} {v : Value} {xs : List Value} {e : TypeId} {sz : Nat} (h : w.ownsRow B e sz v n xs) : ∃ a c, v = .slice a n c := by
  rcases h.2 with ⟨rfl, rfl⟩ | ⟨g', cap, cur, rfl, hb, hgg, rest⟩
  · exact ⟨_, _, rfl⟩
  · exact ⟨_, _, rfl⟩
/-- The state goes on where the rest of the memory turns. -/
theorem FS.fr {B A Td Nm ab tb K : Nat} {w w' : World} {c : Pu.Cnt} {acc : List ByteArray} {v : Value} {T : Nat → Prop} (h : FS B A Td Nm ab tb K w c acc v) (hf : Fr T w w')
    (hT : ∀ k, B ≤ k → k < w.heap.size → ¬ T k) (ha : B ≤ ab) (ht : B ≤ tb) : FS B A Td Nm ab tb K w' c acc v :=
  ⟨h.cnt.fr hf (hT _ h.hA h.cnt.lt), h.told.fr hf (hT _ h.hT h.told.lt), fr_heap h.box hf (hT _ h.hN (lt_of_heap h.box)), row_fr h.row hf (fun g hg => hT g (h.row.lt g hg).1 (h.row.lt g hg).2),
    h.hA, h.hT, h.hN, h.ne, fr_heap h.bA hf (hT _ ha (lt_of_heap h.bA)), fr_heap h.bT hf (hT _ ht (lt_of_heap h.bT)), h.sh⟩
theorem FS.alloc {B A Td Nm ab tb K : Nat} {w : World} {c : Pu.Cnt} {acc : List ByteArray} {v : Value} (h : FS B A Td Nm ab tb K w c acc v) (o : Obj) : FS B A Td Nm ab tb K (w.alloc o) c acc v :=
  have hf : Fr No w (w.alloc o) := (Fr.refl No w).alloc o
  ⟨h.cnt.fr hf (fun e => e), h.told.fr hf (fun e => e), fr_heap h.box hf (fun e => e), row_fr h.row hf (fun _ _ e => e), h.hA, h.hT, h.hN, h.ne, fr_heap h.bA hf (fun e => e), fr_heap h.bT hf (fun e => e), h.sh⟩
theorem look_cnt {w : World} {b K : Nat} {c : Pu.Cnt} (t : TypeId) (ht : Tryz.prog.underlying t = some (.map 9 3)) (h : CntAt w b K c) {x : ByteArray} (hx : x.size ≤ maxLen) :
    (Instr.lookup t (.map (some b)) (.string x) false).run Tryz.prog w = .ok (.int .i64 (c x)) w := by
  obtain ⟨m, ⟨kk, D, hkk, hown, hD⟩, hm⟩ := h
  obtain ⟨cv, hlk, hat, hwc⟩ := hown.lookup_int law ht Tryz.underlying3 (zeroE _) (keyS hx)
  have : cv = (c x : Int) := by
    have := (hD _ hx).1; rw [hat] at this; simp at this; rw [this]; exact hm _
  rw [hlk, this]
theorem has_snoc (acc : List ByteArray) (x y : ByteArray) : Pu.has (acc ++ [x]) y = (Pu.has acc y || decide (x = y)) := by simp [Pu.has, List.any_append]
theorem Tryz.info9 : (Tryz.prog.info? 9).map (fun i => (i.zero, i.size, i.bytes)) = some (some (.string ⟨#[]⟩), 1, 16) := by kernel_rfl
set_option maxHeartbeats 1000000 in
theorem free1_any (B A Td Nm ab tb K : Nat) (w : World) (c : Pu.Cnt) (acc : List ByteArray) (v : Value) (x : ByteArray) (hs : FS B A Td Nm ab tb K w c acc v) (hB : B ≤ w.heap.size) (hx : x.size ≤ maxLen)
    (hK : K < 1099511627776) (hacc : acc.length < 1099511627776) :
    Calls Tryz.prog 124 #[.string x, .pointer (some ⟨ab, 0, none⟩), .pointer (some ⟨tb, 0, none⟩), .pointer (some ⟨Nm, 0, none⟩)] w fun e w' => e = .returned (.tuple #[]) ∧
      ∃ v', FS B A Td Nm ab tb (K + 1) w' c (Pu.ask c x acc) v' ∧ Fr (TS A Td Nm v) w w' ∧ (v'.ownBlock = v.ownBlock ∨ ∃ g, v'.ownBlock = some g ∧ w.heap.size ≤ g) := by
  have h1 := look_cnt 153 Tryz.underlying153 hs.cnt hx
  have h2 := look_cnt 51 Tryz.underlying51 hs.told hx
  have b1 : w.cell? ⟨ab, 0, none⟩ = some (.map (some A)) := by rw [cell_of_heap hs.bA]; rfl
  have b2 : w.cell? ⟨tb, 0, none⟩ = some (.map (some Td)) := by rw [cell_of_heap hs.bT]; rfl
  have HS := hide hs
  clear hs
  by_cases e1 : c x = 0
  · rw [e1] at h1
    by_cases e2 : Pu.has acc x = true
    · rw [if_pos e2] at h2
      go_enter Tryz.func124, Tryz.ntmps124
      go_wp2_with fail
      go_end0
      refine ⟨rfl, v, ?_, Fr.refl _ _, .inl rfl⟩
      have : Pu.ask c x acc = acc := by simp [Pu.ask, e2]
      rw [this]
      exact ⟨HS.out.cnt.mono (by omega), HS.out.told.mono (by omega), HS.out.box, HS.out.row, HS.out.hA, HS.out.hT, HS.out.hN, HS.out.ne, HS.out.bA, HS.out.bT, HS.out.sh⟩
    · rw [if_neg e2] at h2
      obtain ⟨m, ⟨kk, D, hkk, hown, hD⟩, hm⟩ := HS.out.told
      have HD := hide hD
      have HM := hide hm
      have hkey := keyS hx
      clear hD hm
      obtain ⟨i0, hi, hz0, hz1, hz2⟩ := info_parts Tryz.info9
      have HN : Hid (∀ w1, w.grownBy w1 (some Td) → w1.heap[Nm]? = some (.cells #[v] 28 (0, 0)) ∧ w1.ownsRow B 9 1 v acc.length (acc.map .string) ∧ w1.cell? ⟨Nm, 0, none⟩ = some v ∧ w.heap.size ≤ w1.heap.size ∧ Fr (· = Td) w w1) := by
        intro w1 hgrow1
        have f1 : Fr (· = Td) w w1 := (Fr.refl _ w).grown hgrow1 (fun k hk => by cases hk; exact .inl rfl)
        have nT : Nm ≠ Td := HS.out.told.ne_cells HS.out.box
        have hbox1 : w1.heap[Nm]? = some (.cells #[v] 28 (0, 0)) := fr_heap HS.out.box f1 nT
        have hrow1 : w1.ownsRow B 9 1 v acc.length (acc.map .string) := row_fr HS.out.row f1 (fun g hg e => row_ne_map HS.out.row HS.out.told (by rw [hg]; rw [show g = Td from e]))
        exact ⟨hbox1, hrow1, by rw [cell_of_heap hbox1]; rfl, hgrow1.size, f1⟩
      have HN2 : Hid (∀ w1 w2 v', w1.heap[Nm]? = some (.cells #[v] 28 (0, 0)) → w1.ownsRow B 9 1 v acc.length (acc.map .string) → (w1.alloc (.cells #[.string x] 9)).grownBy w2 v.ownBlock → w2.ownsRow B 9 1 v' (acc.length + 1) (acc.map .string ++ [.string x]) →
          w2.heap[Nm]? = some (.cells #[v] 28 (0, 0)) ∧ w2.cell? ⟨Nm, 0, none⟩ = some v ∧ w2.frozen? ⟨Nm, 0, none⟩ = false ∧ Fr (fun k => v.ownBlock = some k) w1 w2) := by
        intro w1 w2 v' hbox1 hrow1 hg _
        have f2 : Fr (fun k => v.ownBlock = some k) w1 w2 := ((Fr.refl _ w1).alloc _).grown hg (fun k hk => .inl hk)
        have hb2 := fr_heap hbox1 f2 (row_ne_cells hrow1 hbox1 (by decide))
        exact ⟨hb2, by rw [cell_of_heap hb2]; rfl, frozen_of_heap hb2 0, f2⟩
      go_enter Tryz.func124, Tryz.ntmps124
      go_wp2_with (first
        | (at_mapUpdate; refine wpList_mapUpdate_own _ rfl _ _ _ 51 rfl 9 3 law Tryz.underlying51 _ Td kk _ rfl hown (by unfold maxLen; omega) _ _ _ rfl rfl hkey _ [] (plainElem_int Tryz.underlying3 (WalkArith.wf_i64 (by omega))) ?_; intro w1 hown1 hgrow1; obtain ⟨hbox1, hrow1, c3, hs1, f1⟩ := HN.out w1 hgrow1)
        | (at_builtin; refine wpList_append_own_at _ rfl _ _ 28 rfl B 9 i0 (.string ⟨#[]⟩) 1 16 Tryz.underlying28 hi hz0 hz1 hz2 rfl (by decide) _ _ _ rfl (hrow1.alloc _) ⟨w1.heap.size, 0, none⟩ 1 1 [.string x] rfl rfl (cell_one_new _ _ _) (by simp [Value.oneCell']) (by unfold maxLen; omega) (by omega) (by simp; omega) ?_; intro v' w2 hown' hgrow2 hnil hloc; obtain ⟨hbox2, c4, z4, f2⟩ := HN2.out w1 w2 v' hbox1 hrow1 hgrow2 hown'; obtain ⟨a', c', rfl⟩ := row_form hown')
        | fail)
      go_end0
      have hask : Pu.ask c x acc = acc ++ [x] := by simp only [Bool.not_eq_true] at e2; simp [Pu.ask, e1, e2]
      rw [hask]
      have S := HS.out
      have nA : Nm ≠ A := S.cnt.ne_cells S.box
      have aT : ab ≠ Td := S.told.ne_cells S.bA
      have tT : tb ≠ Td := S.told.ne_cells S.bT
      have f12 : Fr (TS A Td Nm v) w w2 := (f1.mono (fun i _ e => .inr (.inl e))).trans' f2 (fun i _ e => .inr (.inr (.inr e)))
      have f3 : Fr (TS A Td Nm v) w (w2.setCell ⟨Nm, 0, none⟩ (.slice a' (acc.length + 1) c')) := f12.setCell (.inl (.inr (.inr (.inl rfl)))) _
      have g3 : Fr (· = Nm) w2 (w2.setCell ⟨Nm, 0, none⟩ (.slice a' (acc.length + 1) c')) := (Fr.refl (· = Nm) w2).setCell (.inl rfl) _
      have told1 : CntAt w1 Td (K + 1) (fun y => if Pu.has (acc ++ [x]) y = true then 1 else 0) := by
        refine cnt_up hkk hown.isMap HD.out HM.out hown1 (fun y hy => ?_) (by simp [Pu.has])
        simp [has_snoc, Ne.symm hy]
      have hrn : ∀ k, (Value.slice a' (acc.length + 1) c').ownBlock = some k → k ≠ Nm := fun k hk e => row_ne_cells hown' hbox2 (by decide) (by rw [hk, e])
      refine ⟨rfl, _, ⟨?_, ?_, one_set hbox2, ?_, S.hA, S.hT, S.hN, S.ne, ?_, ?_, ?_⟩, f3, ?_⟩
      · exact (((S.cnt.fr f1 S.ne).fr f2 (row_ne_map hrow1 (S.cnt.fr f1 S.ne))).fr g3 (Ne.symm nA)).mono (by omega)
      · exact (told1.fr f2 (row_ne_map hrow1 told1)).fr g3 (told1.ne_cells hbox1 ·.symm)
      · have := row_fr hown' g3 hrn
        simpa using this
      · exact fr_heap (fr_heap (fr_heap S.bA f1 aT) f2 (row_ne_cells hrow1 (fr_heap S.bA f1 aT) (by decide))) g3 (fun e => by have e : ab = Nm := e; have h := S.bA; rw [e, S.box] at h; simp at h)
      · exact fr_heap (fr_heap (fr_heap S.bT f1 tT) f2 (row_ne_cells hrow1 (fr_heap S.bT f1 tT) (by decide))) g3 (fun e => by have e : tb = Nm := e; have h := S.bT; rw [e, S.box] at h; simp at h)
      · intro y hy
        rcases List.mem_append.1 hy with h | h
        · exact S.sh y h
        · simp at h; subst h; exact hx
      · rcases hloc with h | h
        · exact .inl h
        · exact .inr ⟨_, h, by simp; omega⟩
  · have e3 : ¬ ((c x : Int) = 0) := by omega
    go_enter Tryz.func124, Tryz.ntmps124
    go_wp2_with fail
    go_end0
    refine ⟨rfl, v, ?_, Fr.refl _ _, .inl rfl⟩
    have : Pu.ask c x acc = acc := by simp [Pu.ask, e1]
    rw [this]
    exact ⟨HS.out.cnt.mono (by omega), HS.out.told.mono (by omega), HS.out.box, HS.out.row, HS.out.hA, HS.out.hT, HS.out.hN, HS.out.ne, HS.out.bA, HS.out.bT, HS.out.sh⟩
end Go.Proofs.YtomahbdidlglfacGreatDoor
