/- The document's reader: a parameter read by a closure, walked; 'many' with it. -/
import Derived.Test.YtdcdegeeaakekacDoorP2Laid
import Derived.Deep.AppendLies
import Derived.Deep.RegionWith
namespace Go.Proofs.YtdcdegeeaakekacDoor
open Go.RowKit Go.Maps Go.WideMaps

/-- A function as it is read. -/
abbrev fnCells (nm : ByteArray) (v : Value) : Array Value := #[.string nm, v, .int .i64 0, .int .i64 0, .string ⟨#[]⟩, .string ⟨#[]⟩, .slice none 0 0, .slice none 0 0, .slice none 0 0]

set_option maxRecDepth 100000 in
set_option maxHeartbeats 2000000 in
theorem parse1_any (fb pbx pb : Nat) (S nm : ByteArray) (at' a k : Nat) (w : World) (h : PS pb S at' 0 w) (hS : S.size ≤ 1600) (hp : pkb S at' a k = true) (hak : a < k) (hks : k ≤ S.size) (hn : isName (wd S a k) = true)
    (hf : w.heap[fb]? = some (.cells (fnCells nm (.slice none 0 0)) 33 (0, 0))) (hx : w.heap[pbx]? = some (.cells #[.pointer (some ⟨pb, 0, none⟩)] 97 (0, 0))) (h1 : fb ≠ pb) (h2 : pbx ≠ pb) (_h3 : fb ≠ pbx) :
    Calls Tryd.prog 74 #[.pointer (some ⟨fb, 0, none⟩), .pointer (some ⟨pbx, 0, none⟩)] w fun e w' => e = .returned (.tuple #[]) ∧ Fr (fun i => i = pb ∨ i = fb) w w' ∧ PS pb S k 0 w' ∧
      ∃ g cap ys, w'.heap[fb]? = some (.cells (fnCells nm (.slice (some ⟨g, 0, none⟩) 1 cap)) 33 (0, 0)) ∧ w'.heap[g]? = some (.cells ys 9 (0, 0)) ∧ ys[0]? = some (.string (wd S a k)) ∧ 1 ≤ cap ∧ cap ≤ maxLen ∧ w.heap.size ≤ g := by
  obtain ⟨i0, hi, hz0, hz1, hz2⟩ := info_parts Tryd.info9
  have lf := lt_of_heap hf
  have lx := lt_of_heap hx
  have lp := lt_of_heap h
  obtain ⟨x, hxw⟩ : ∃ x, x = wd S a k := ⟨_, rfl⟩
  rw [← hxw]
  have SA : Hid (∀ W, Fr (· = pb) w W → (W.cell? ⟨fb, 1, none⟩ = some (.slice none 0 0) ∧ W.cell? ⟨pbx, 0, none⟩ = some (.pointer (some ⟨pb, 0, none⟩)))) := fun W hW =>
    ⟨cell_of_heap (fr_heap hf hW h1) 1, cell_of_heap (fr_heap hx hW h2) 0⟩
  have CN : Hid (∀ W, Fr No w W → Calls Tryd.prog 72 #[.pointer (some ⟨pb, 0, none⟩)] W fun r w' => r = .returned (.string x) ∧ (w'.cell? ⟨fb, 1, none⟩ = some (.slice none 0 0) ∧ w'.cell? ⟨pbx, 0, none⟩ = some (.pointer (some ⟨pb, 0, none⟩))) ∧ Fr (· = pb) w w' ∧ PS pb S k 0 w') := fun W hW => by
    rw [hxw]
    refine (pname_any pb S at' a k 0 W (h.fr hW (fun e => e)) hS hp hak hks hn).mono ?_
    rintro e w' ⟨he, hf1, hps⟩
    have hf2 : Fr (· = pb) w w' := (hW.mono (fun _ _ e => e.elim)).trans hf1
    exact ⟨he, SA.out w' hf2, hf2, hps⟩
  have D0 : Fr No w w.drew := (Fr.refl No w).drew
  have HZ := hide (SA.out w.drew (D0.mono (fun _ _ e => e.elim)))
  have HF := hide hf
  have HH1 := hide h1
  clear hxw h hf hx hn hp
  go_enter Tryd.func74, Tryd.ntmps74
  go_wp2_with fail
  have n0 := (SA.out w (Fr.refl _ w)).1
  have n1 := (SA.out w (Fr.refl _ w)).2
  go_region_with (first
    | (go_at_call 72; refine (CN.out _ ?_).mono ?_; (first | with_reducible assumption | exact D0); rintro e w1 ⟨rfl, ⟨m0, m1⟩, hf1, ps1⟩; have F1 := hide hf1; have PS1 := hide ps1; have bf := fr_heap HF.out hf1 HH1.out; have qa : ∀ A B, ((w1.alloc A).alloc B).cell? ⟨fb, 1, none⟩ = some (.slice none 0 0) := fun A B => cell_of_heap (fr_heap bf (((Fr.refl No w1).alloc A).alloc B) (fun e => e)) 1; have qz : ∀ A B o, ((w1.alloc A).alloc B).frozen? ⟨fb, o, none⟩ = false := fun A B o => frozen_of_heap (fr_heap bf (((Fr.refl No w1).alloc A).alloc B) (fun e => e)) o; have qb : ∀ A, (w1.alloc A).cell? ⟨fb, 1, none⟩ = some (.slice none 0 0) := fun A => cell_of_heap (fr_heap bf ((Fr.refl No w1).alloc A) (fun e => e)) 1; have BF := hide bf; clear hf1 ps1 bf))
  all_goals
    have cap1 := grownCap_ge w1 1 0 9
    have cap2 := grownCap_le_maxLen w1 1 0 9 (by unfold maxLen; decide)
    have cdef : (Question.appendCap 1 0 9).cut (w1.tape w1.drawn (Question.appendCap 1 0 9)) = grownCap w1 1 0 9 := rfl
    rw [cdef]
    generalize grownCap w1 1 0 9 = cap at cap1 cap2
    clear cdef
    go_end0
    have f2 : ∀ A B, Fr No w1 ((w1.alloc A).alloc B) := fun A B => ((Fr.refl No w1).alloc A).alloc B
    have hs1 := F1.out.size
    refine ⟨rfl, ?_, ?_, w1.heap.size + 1, cap, #[.string x] ++ Builtin.zeroCells #[.string ⟨#[]⟩] (cap - 1), ?_, ?_, ?_, cap1, cap2, by omega⟩
    · refine Fr.drew ?_
      exact (((F1.out.mono (T' := fun i => i = pb ∨ i = fb) (fun _ _ e => .inl e)).alloc _).alloc _).setCell (p := ⟨fb, 1, none⟩) (.inl (.inr rfl)) _
    · exact (PS1.out.fr (f2 _ _) (fun e => e)).fr (T := fun i => i = fb) ((Fr.refl (· = fb) _).setCell (p := ⟨fb, 1, none⟩) (.inl rfl) _).drew (fun e => h1 (by have e : pb = fb := e; exact e.symm))
    · have hb := fr_heap BF.out (f2 (.cells #[.string x] 9) (.cells (#[.string x] ++ Builtin.zeroCells #[.string ⟨#[]⟩] (cap - 1)) 9)) (fun e => e)
      show (World.setCell _ _ _).heap[fb]? = _
      simp [World.setCell, Array.getElem?_modify, hb, fnCells]
    · have hb := heap_alloc_new (w1.alloc (.cells #[.string x] 9)) (.cells (#[.string x] ++ Builtin.zeroCells #[.string ⟨#[]⟩] (cap - 1)) 9)
      rw [World.size_alloc] at hb
      exact fr_heap (T := fun i => i = fb) hb ((Fr.refl (· = fb) _).setCell (p := ⟨fb, 1, none⟩) (.inl rfl) _).drew (fun e => by have e : w1.heap.size + 1 = fb := e; omega)
    · rw [Array.getElem?_append_left (show 0 < 1 by decide)]; rfl

set_option maxRecDepth 100000 in
set_option maxHeartbeats 2000000 in
/-- 'many' at one name and a bracket. -/
theorem many1_any (fb pbx pb : Nat) (S nm : ByteArray) (at' a k c : Nat) (w : World) (h : PS pb S at' 0 w) (hS : S.size ≤ 1600) (hp : pkb S at' a k = true) (hak : a < k) (hks : k ≤ S.size) (hn : isName (wd S a k) = true) (hne : ¬ wd S a k = ⟨#[41]⟩) (hp2 : pkb S k c (c + 1) = true) (hc : c + 1 ≤ S.size) (hb : wd S c (c + 1) = ⟨#[41]⟩)
    (hf : w.heap[fb]? = some (.cells (fnCells nm (.slice none 0 0)) 33 (0, 0))) (hx : w.heap[pbx]? = some (.cells #[.pointer (some ⟨pb, 0, none⟩)] 97 (0, 0))) (h1 : fb ≠ pb) (h2 : pbx ≠ pb) (h3 : fb ≠ pbx) :
    Calls Tryd.prog 73 #[.pointer (some ⟨pb, 0, none⟩), .func (.func 74) #[] #[.pointer (some ⟨fb, 0, none⟩), .pointer (some ⟨pbx, 0, none⟩)]] w fun e w' => e = .returned (.tuple #[]) ∧ Fr (fun i => i = pb ∨ i = fb) w w' ∧ PS pb S (c + 1) 0 w' ∧
      ∃ g cap ys, w'.heap[fb]? = some (.cells (fnCells nm (.slice (some ⟨g, 0, none⟩) 1 cap)) 33 (0, 0)) ∧ w'.heap[g]? = some (.cells ys 9 (0, 0)) ∧ ys[0]? = some (.string (wd S a k)) ∧ 1 ≤ cap ∧ cap ≤ maxLen ∧ w.heap.size ≤ g := by
  have lf := lt_of_heap hf
  have lp := lt_of_heap h
  have lx := lt_of_heap hx
  have hne' : (!(wd S a k).toList == [41]) = true := by
    have h := str_ne hne
    rw [show (⟨#[41]⟩ : ByteArray).toList = [41] from by rw [ByteArray.toList_eq]] at h
    exact h
  have CP1 := hide (peek_any pb S at' a k 0 w h hS hp)
  have CL : Hid (∀ W, Fr (· = pb) w W → PS pb S a 0 W → Calls Tryd.prog 74 #[.pointer (some ⟨fb, 0, none⟩), .pointer (some ⟨pbx, 0, none⟩)] W fun e w' => e = .returned (.tuple #[]) ∧ Fr (fun i => i = pb ∨ i = fb) W w' ∧ PS pb S k 0 w' ∧
      ∃ g cap ys, w'.heap[fb]? = some (.cells (fnCells nm (.slice (some ⟨g, 0, none⟩) 1 cap)) 33 (0, 0)) ∧ w'.heap[g]? = some (.cells ys 9 (0, 0)) ∧ ys[0]? = some (.string (wd S a k)) ∧ 1 ≤ cap ∧ cap ≤ maxLen ∧ W.heap.size ≤ g) := fun W hW hps =>
    parse1_any fb pbx pb S nm a a k W hps hS (pkb_self hp) hak hks hn (fr_heap hf hW h1) (fr_heap hx hW h2) h1 h2 h3
  have CP2 : Hid (∀ W, PS pb S k 0 W → Calls Tryd.prog 70 #[.pointer (some ⟨pb, 0, none⟩)] W fun r w' => r = .returned (.string ⟨#[41]⟩) ∧ Fr (· = pb) W w' ∧ PS pb S c 0 w') := fun W hps => by rw [← hb]; exact peek_any pb S k c (c + 1) 0 W hps hS hp2
  have CW : Hid (∀ W, PS pb S c 0 W → Calls Tryd.prog 71 #[.pointer (some ⟨pb, 0, none⟩), .string ⟨#[41]⟩] W fun r w' => r = .returned (.tuple #[]) ∧ Fr (· = pb) W w' ∧ PS pb S (c + 1) 0 w') := fun W hps => pwant_any pb S ⟨#[41]⟩ c c (c + 1) 0 W hps hS (pkb_self hp2) (by omega) hc hb
  obtain ⟨x, hxw⟩ : ∃ x, x = wd S a k := ⟨_, rfl⟩
  rw [← hxw] at CP1 CL hne' ⊢
  have H := hide h
  clear hxw h hp hp2 hn hf hx hne
  go_enter Tryd.func73, Tryd.ntmps73
  go_wp2_with fail
  go_loopg [] 2 (fun gn wr => (gn = 2 ∧ wr = w) ∨ (gn = 1 ∧ Fr (fun i => i = pb ∨ i = fb) w wr ∧ PS pb S k 0 wr ∧
      ∃ g cap ys, wr.heap[fb]? = some (.cells (fnCells nm (.slice (some ⟨g, 0, none⟩) 1 cap)) 33 (0, 0)) ∧ wr.heap[g]? = some (.cells ys 9 (0, 0)) ∧ ys[0]? = some (.string x) ∧ 1 ≤ cap ∧ cap ≤ maxLen ∧ w.heap.size ≤ g))
  case atStart => exact .inl ⟨rfl, rfl⟩
  case round =>
    rcases hrel with ⟨rfl, rfl⟩ | ⟨rfl, hf, hps, hrest⟩
    · have c0 := cell_of_heap H.out 2
      go_wp2_with fail
      refine CP1.out.mono ?_
      rintro e w1 ⟨rfl, hf1, ps1⟩
      have F1 := hide hf1
      have PS1 := hide ps1
      clear hf1 ps1 c0 CP1
      go_wp2_with fail
      refine (CL.out _ F1.out PS1.out).mono ?_
      rintro e w2 ⟨rfl, hf2, ps2, g, cap, ys, r1, r2, r3, r4, r5, r6⟩
      have R := hide (And.intro r1 (And.intro r2 (And.intro r3 (And.intro r4 (And.intro r5 (Nat.le_trans F1.out.size r6))))))
      have F2 := hide ((F1.out.mono (T' := fun i => i = pb ∨ i = fb) (fun _ _ e => .inl e)).trans hf2)
      have PS2 := hide ps2
      clear hf2 ps2 r1 r2 r3 r4 r5 r6
      go_wp2_with fail
      go_roundg 1
      case measure => decide
      case rel => exact .inr ⟨rfl, F2.out, PS2.out, g, cap, ys, R.out⟩
    · have c0 := cell_of_heap hps 2
      have HF := hide hf
      have HPS := hide hps
      have HR := hide hrest
      clear hf hps hrest
      go_wp2_with fail
      refine (CP2.out _ HPS.out).mono ?_
      rintro e w1 ⟨rfl, hf1, ps1⟩
      have F1 := hide hf1
      have PS1 := hide ps1
      clear hf1 ps1 c0
      go_wp2_with fail
      refine (CW.out _ PS1.out).mono ?_
      rintro e w2 ⟨rfl, hf2, ps2⟩
      have F2 := hide (F1.out.trans hf2)
      have PS2 := hide ps2
      clear hf2 ps2
      go_wp2_with fail
      go_end0
      obtain ⟨g, cap, ys, r1, r2, r3, r4, r5, r6⟩ := HR.out
      exact ⟨rfl, HF.out.trans' F2.out (fun i _ e => .inl e), PS2.out, g, cap, ys, fr_heap r1 F2.out h1, fr_heap r2 F2.out (fun e => by have e : g = pb := e; omega), r3, r4, r5, r6⟩
end Go.Proofs.YtdcdegeeaakekacDoor
