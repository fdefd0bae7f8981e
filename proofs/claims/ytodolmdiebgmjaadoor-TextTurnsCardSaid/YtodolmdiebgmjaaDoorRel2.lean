/- How terms, cases and functions lie in memory. No walk in it. -/
import Derived.Test.YtodolmdiebgmjaaDoorRel
import Derived.Deep.AppendLies
namespace Go.Proofs.YtodolmdiebgmjaaDoor
open Go.RowKit

/-- A list of elements, each so many cells. -/
def Each {α : Type} (n : Nat) (P : List Value → α → Prop) : List Value → List α → Prop
  | xs, [] => xs = []
  | xs, a :: l => ∃ ck rest, xs = ck ++ rest ∧ ck.length = n ∧ P ck a ∧ Each n P rest l

theorem Each.mono {α : Type} {n : Nat} {P Q : List Value → α → Prop} (h : ∀ c a, P c a → Q c a) : ∀ {l : List α} {xs : List Value}, Each n P xs l → Each n Q xs l
  | [], _, h1 => h1
  | _ :: _, _, ⟨ck, rest, h1, h2, h3, h4⟩ => ⟨ck, rest, h1, h2, h _ _ h3, Each.mono h h4⟩
theorem Each.snoc {α : Type} {n : Nat} {P : List Value → α → Prop} {a : α} {c : List Value} (hc : c.length = n) (hp : P c a) : ∀ {l : List α} {xs : List Value}, Each n P xs l → Each n P (xs ++ c) (l ++ [a])
  | [], xs, h1 => ⟨c, [], by rw [show xs = [] from h1]; simp, hc, hp, rfl⟩
  | _ :: _, _, ⟨ck, rest, h1, h2, h3, h4⟩ => ⟨ck, rest ++ c, by rw [h1, List.append_assoc], h2, h3, Each.snoc hc hp h4⟩
theorem Each.append {α : Type} {n : Nat} {P : List Value → α → Prop} {l2 : List α} {ys : List Value} (h : Each n P ys l2) : ∀ {l : List α} {xs : List Value}, Each n P xs l → Each n P (xs ++ ys) (l ++ l2)
  | [], xs, h1 => by rw [show xs = [] from h1]; exact h
  | _ :: _, _, ⟨ck, rest, h1, h2, h3, h4⟩ => ⟨ck, rest ++ ys, by rw [h1, List.append_assoc], h2, h3, Each.append h h4⟩
theorem Each.length {α : Type} {n : Nat} {P : List Value → α → Prop} : ∀ {l : List α} {xs : List Value}, Each n P xs l → xs.length = l.length * n
  | [], xs, h1 => by rw [show xs = [] from h1]; simp
  | _ :: l, xs, ⟨ck, rest, h1, h2, h3, h4⟩ => by rw [h1, List.length_append, h2, Each.length h4, List.length_cons, Nat.add_mul]; omega

/-- A row that lies in a block of S. -/
def Row (S : Nat → Prop) (w : World) (e : TypeId) (size : Nat) (v : Value) (n : Nat) (xs : List Value) : Prop :=
  w.ownsRow 0 e size v n xs ∧ ∀ g, v.ownBlock = some g → S g

/-- A case in nine cells. -/
def RC {α : Type} (P : List Value → α → Prop) (S : Nat → Prop) (w : World) (cs : List Value) (c : Int × List ByteArray × α) : Prop :=
  ∃ vv b, cs = .int .i64 c.1 :: vv :: b ∧ Row S w 9 1 vv c.2.1.length (c.2.1.map .string) ∧ b.length = 7 ∧ P b c.2.2

/-- A term in seven cells. -/
def RN {α : Type} (P : List Value → α → Prop) (S : Nat → Prop) (w : World) (cs : List Value) (t : Pu.Node α) : Prop :=
  ∃ av cv acs ccs, cs = [.int .i64 t.kind, .int .i64 t.n, .string t.name, .string ⟨#[]⟩, .slice none 0 0, av, cv] ∧
    Row S w 33 7 av t.args.length acs ∧ Each 7 P acs t.args ∧ Row S w 67 9 cv t.cases.length ccs ∧ Each 9 (RC P S w) ccs t.cases

def RT : (k : Nat) → (S : Nat → Prop) → World → List Value → Pu.TT k → Prop
  | 0, _, _, _, _ => False
  | k + 1, S, w, cs, t => RN (RT k S w) S w cs t

/-- A function in nine cells. -/
def RF (S : Nat → Prop) (w : World) (cs : List Value) (f : ByteArray × List ByteArray × Pu.TT 26) : Prop :=
  ∃ pv b, cs = .string f.1 :: pv :: b ∧ Row S w 9 1 pv f.2.1.length (f.2.1.map .string) ∧ b.length = 7 ∧ RT 26 S w b f.2.2

/-- What stays: the blocks of S are of S', and stand as they stood. -/
def Stays (S S' : Nat → Prop) (w w' : World) : Prop := ∀ g, S g → g < w.heap.size → S' g ∧ w'.heap[g]? = w.heap[g]?

theorem Row.kept {S S' : Nat → Prop} {w w' : World} {e : TypeId} {size : Nat} {v : Value} {n : Nat} {xs : List Value} (h : Row S w e size v n xs) (hs : Stays S S' w w') : Row S' w' e size v n xs := by
  obtain ⟨⟨h1, h2⟩, h3⟩ := h
  rcases h2 with ⟨rfl, hn⟩ | ⟨g, cap, cur, rfl, hb, hgg, rest⟩
  · exact ⟨⟨h1, .inl ⟨rfl, hn⟩⟩, fun g hg => by simp [Value.ownBlock] at hg⟩
  · obtain ⟨s1, s2⟩ := hs g (h3 g rfl) (Array.getElem?_eq_some_iff.1 hgg).1
    refine ⟨⟨h1, .inr ⟨g, cap, cur, rfl, hb, by rw [s2]; exact hgg, rest⟩⟩, fun g' hg' => ?_⟩
    simp [Value.ownBlock] at hg'
    subst hg'
    exact s1
theorem RC.kept {α : Type} {P P' : List Value → α → Prop} {S S' : Nat → Prop} {w w' : World} (hs : Stays S S' w w') (hp : ∀ c a, P c a → P' c a) {cs : List Value} {c : Int × List ByteArray × α} (h : RC P S w cs c) : RC P' S' w' cs c := by
  obtain ⟨vv, b, h1, h2, h3, h4⟩ := h
  exact ⟨vv, b, h1, h2.kept hs, h3, hp _ _ h4⟩
theorem RN.kept {α : Type} {P P' : List Value → α → Prop} {S S' : Nat → Prop} {w w' : World} (hs : Stays S S' w w') (hp : ∀ c a, P c a → P' c a) {cs : List Value} {t : Pu.Node α} (h : RN P S w cs t) : RN P' S' w' cs t := by
  obtain ⟨av, cv, acs, ccs, h1, h2, h3, h4, h5⟩ := h
  exact ⟨av, cv, acs, ccs, h1, h2.kept hs, h3.mono hp, h4.kept hs, h5.mono fun c a => RC.kept hs hp⟩
theorem RT.kept {S S' : Nat → Prop} {w w' : World} (hs : Stays S S' w w') : ∀ {k : Nat} {cs : List Value} {t : Pu.TT k}, RT k S w cs t → RT k S' w' cs t
  | 0, _, _, h => h
  | _ + 1, _, _, h => RN.kept hs (fun _ _ hc => RT.kept hs hc) h
theorem RF.kept {S S' : Nat → Prop} {w w' : World} (hs : Stays S S' w w') {cs : List Value} {f : ByteArray × List ByteArray × Pu.TT 26} (h : RF S w cs f) : RF S' w' cs f := by
  obtain ⟨pv, b, h1, h2, h3, h4⟩ := h
  exact ⟨pv, b, h1, h2.kept hs, h3, RT.kept hs h4⟩

theorem RN.length {α : Type} {P : List Value → α → Prop} {S : Nat → Prop} {w : World} {cs : List Value} {t : Pu.Node α} (h : RN P S w cs t) : cs.length = 7 := by
  obtain ⟨av, cv, acs, ccs, h1, _⟩ := h; rw [h1]; rfl
theorem RT.length {k : Nat} {S : Nat → Prop} {w : World} {cs : List Value} {t : Pu.TT k} (h : RT k S w cs t) : cs.length = 7 := by
  cases k with
  | zero => exact h.elim
  | succ k => exact RN.length h

/-- Every cell of a term is one cell. -/
theorem oneCell_row {S : Nat → Prop} {w : World} {e : TypeId} {size : Nat} {v : Value} {n : Nat} {xs : List Value} (h : Row S w e size v n xs) : v.oneCell' = true := by
  rcases h.1.2 with ⟨rfl, _⟩ | ⟨g, cap, cur, rfl, _⟩ <;> rfl
theorem RN.one {α : Type} {P : List Value → α → Prop} {S : Nat → Prop} {w : World} {cs : List Value} {t : Pu.Node α} (h : RN P S w cs t) : ∀ u, u ∈ cs → u.oneCell' = true := by
  obtain ⟨av, cv, acs, ccs, h1, h2, _, h4, _⟩ := h
  subst h1
  intro u hu
  simp at hu
  rcases hu with rfl | rfl | rfl | rfl | rfl | rfl | rfl
  all_goals first | rfl | exact oneCell_row h2 | exact oneCell_row h4
theorem RT.one {k : Nat} {S : Nat → Prop} {w : World} {cs : List Value} {t : Pu.TT k} (h : RT k S w cs t) : ∀ u, u ∈ cs → u.oneCell' = true := by
  cases k with
  | zero => exact h.elim
  | succ k => exact RN.one h

theorem Row.form {S : Nat → Prop} {w : World} {e : TypeId} {size : Nat} {v : Value} {n : Nat} {xs : List Value} (h : Row S w e size v n xs) : ∃ a c, v = .slice a n c := by
  rcases h.1.2 with ⟨rfl, rfl⟩ | ⟨g, cap, cur, rfl, _⟩
  · exact ⟨_, _, rfl⟩
  · exact ⟨_, _, rfl⟩
theorem RT.form {k : Nat} {S : Nat → Prop} {w : World} {cs : List Value} {t : Pu.TT k} (h : RT k S w cs t) :
    ∃ kd n x a1 n1 c1 a2 n2 c2, cs = [.int .i64 kd, .int .i64 n, .string x, .string ⟨#[]⟩, .slice none 0 0, .slice a1 n1 c1, .slice a2 n2 c2] := by
  cases k with
  | zero => exact h.elim
  | succ k =>
    obtain ⟨av, cv, acs, ccs, h1, h2, _, h4, _⟩ := h
    obtain ⟨a1, c1, rfl⟩ := h2.form
    obtain ⟨a2, c2, rfl⟩ := h4.form
    exact ⟨_, _, _, _, _, _, _, _, _, h1⟩

/-- From a block number on. -/
abbrev From (B : Nat) : Nat → Prop := fun g => B ≤ g
/-- From a block number on, but for a row's own block. -/
abbrev But (B : Nat) (v : Value) : Nat → Prop := fun g => B ≤ g ∧ v.ownBlock ≠ some g

theorem stays_fr {B B' R : Nat} {w w' : World} (hf : Fr w.heap.size R w w') (hR : R < B) (hB : B' ≤ B) : Stays (From B) (From B') w w' :=
  fun g hg hlt => ⟨Nat.le_trans hB hg, hf.block g hlt (by have : B ≤ g := hg; omega)⟩

theorem Row.of_owns {B : Nat} {w : World} {e : TypeId} {size : Nat} {v : Value} {n : Nat} {xs : List Value} (h : w.ownsRow B e size v n xs) : Row (From B) w e size v n xs :=
  ⟨⟨h.1, by
    rcases h.2 with hn | ⟨g, cap, cur, hv, hb, rest⟩
    · exact .inl hn
    · exact .inr ⟨g, cap, cur, hv, Nat.zero_le _, rest⟩⟩, fun g hg => (h.lt g hg).1⟩
theorem Row.nil (S : Nat → Prop) (w : World) (e : TypeId) (size : Nat) : Row S w e size (.slice none 0 0) 0 [] :=
  ⟨World.ownsRow_nil w 0 e size, fun g hg => by simp [Value.ownBlock] at hg⟩

theorem Stays.trans {S S' S'' : Nat → Prop} {a b c : World} (h : Stays S S' a b) (k : Stays S' S'' b c) (hs : a.heap.size ≤ b.heap.size) : Stays S S'' a c := fun g hg hl => by
  obtain ⟨h1, h2⟩ := h g hg hl
  obtain ⟨k1, k2⟩ := k g h1 (Nat.lt_of_lt_of_le hl hs)
  exact ⟨k1, k2.trans h2⟩
theorem stays_set {S : Nat → Prop} {w : World} {g o : Nat} {u : Value} (hg : ¬ S g) : Stays S S w (w.setCell ⟨g, o, none⟩ u) := fun j hj _ =>
  ⟨hj, Below.heap_setCell _ _ _ _ (fun e => hg (by have e : j = g := e; rw [← e]; exact hj))⟩
theorem size_set (w : World) (p : Addr) (u : Value) : (w.setCell p u).heap.size = w.heap.size := by simp [World.setCell]
theorem stays_set7 {S : Nat → Prop} {w : World} {g a0 a1 a2 a3 a4 a5 a6 : Nat} {u0 u1 u2 u3 u4 u5 u6 : Value} (hg : ¬ S g) :
    Stays S S w (((((((w.setCell ⟨g, a0, none⟩ u0).setCell ⟨g, a1, none⟩ u1).setCell ⟨g, a2, none⟩ u2).setCell ⟨g, a3, none⟩ u3).setCell ⟨g, a4, none⟩ u4).setCell ⟨g, a5, none⟩ u5).setCell ⟨g, a6, none⟩ u6) :=
  ((((((stays_set hg).trans (stays_set hg) (by simp)).trans (stays_set hg) (by simp)).trans (stays_set hg) (by simp)).trans (stays_set hg) (by simp)).trans (stays_set hg) (by simp)).trans (stays_set hg) (by simp)
theorem size_set7 {w : World} {g a0 a1 a2 a3 a4 a5 a6 : Nat} {u0 u1 u2 u3 u4 u5 u6 : Value} :
    (((((((w.setCell ⟨g, a0, none⟩ u0).setCell ⟨g, a1, none⟩ u1).setCell ⟨g, a2, none⟩ u2).setCell ⟨g, a3, none⟩ u3).setCell ⟨g, a4, none⟩ u4).setCell ⟨g, a5, none⟩ u5).setCell ⟨g, a6, none⟩ u6).heap.size = w.heap.size := by simp only [size_set]
theorem set7_other {w : World} {g k a0 a1 a2 a3 a4 a5 a6 : Nat} {u0 u1 u2 u3 u4 u5 u6 : Value} (h : k ≠ g) :
    (((((((w.setCell ⟨g, a0, none⟩ u0).setCell ⟨g, a1, none⟩ u1).setCell ⟨g, a2, none⟩ u2).setCell ⟨g, a3, none⟩ u3).setCell ⟨g, a4, none⟩ u4).setCell ⟨g, a5, none⟩ u5).setCell ⟨g, a6, none⟩ u6).heap[k]? = w.heap[k]? := by
  rw [Below.heap_setCell _ _ _ _ h, Below.heap_setCell _ _ _ _ h, Below.heap_setCell _ _ _ _ h, Below.heap_setCell _ _ _ _ h, Below.heap_setCell _ _ _ _ h, Below.heap_setCell _ _ _ _ h, Below.heap_setCell _ _ _ _ h]
theorem Fr.on {B R : Nat} {a b c : World} (h : Fr B R a b) (k : Fr b.heap.size R b c) (hB : B ≤ a.heap.size) : Fr B R a c := h.trans' k (Nat.le_trans hB h.size)

end Go.Proofs.YtodolmdiebgmjaaDoor
