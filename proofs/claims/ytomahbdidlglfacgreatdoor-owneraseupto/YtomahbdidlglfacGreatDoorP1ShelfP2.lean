/- The document's reader: 'bad', 'blank', 'Peek', walked. -/
import Derived.Laws.ResultCell
import Derived.Laws.Rows
import Derived.Test.YtomahbdidlglfacGreatDoorO1O2O3C9O4O5W6Rs
import Derived.Test.YtomahbdidlglfacGreatDoorN1PcW3W4C2S1L2
import Derived.Shelf.Strconv.Atoi
import Derived.Shelf.Strconv.Itoa0
import Derived.Shelf.Strconv.Itoa1
import Derived.Shelf.LaysM
import Derived.Shelf.Strconv.Itoa2
import Derived.Shelf.Strconv.Itoa3
import Derived.Shelf.Strconv.AtoiErrFast
import Derived.Shelf.Strconv.ParseIntEmpty
import Derived.Shelf.Strconv.AtoiFail
import Derived.Shelf.Strconv.Clone
import Derived.Shelf.Strconv.SyntaxError
import Derived.Shelf.LaysC
import Derived.Shelf.Strconv.ToError
import Derived.Shelf.Strconv.Lower
import Derived.Shelf.Strconv.ParseUint10
import Derived.Shelf.Strconv.ParseUint10Empty
import Derived.Shelf.Strconv.ParseUint10Any
import Derived.Shelf.Strconv.ParseInt10
import Derived.Shelf.Strconv.AtoiLong
import Derived.Shelf.Strconv.AtoiInnerAll
import Derived.Shelf.Strconv.RangeError
import Derived.Shelf.Strconv.ToErrorRange
import Derived.Shelf.Strconv.AtoiAll
import Derived.Shelf.Strconv.ErrVarAll
import Derived.Test.YtomahbdidlglfacGreatDoorProg
import Derived.Lib.AtoiAllCases
import Derived.Lib.AtoiErrMem
import Derived.Lib.ItoaNum
namespace Go.Proofs.YtomahbdidlglfacGreatDoor
open Go.RowKit Go.Maps Go.WideMaps

/-- The reader: its text, the place, what is wrong. -/
def PS (pb : Nat) (S : ByteArray) (at' : Nat) (err : Int) (w : World) : Prop := w.heap[pb]? = some (.cells #[.string S, .int .i64 at', .int .i64 err] 90 (0, 0))

theorem PS.fr {pb : Nat} {S : ByteArray} {at' : Nat} {err : Int} {w w' : World} {T : Nat → Prop} (h : PS pb S at' err w) (hf : Fr T w w') (hT : ¬ T pb) : PS pb S at' err w' := fr_heap h hf hT
theorem PS.setAt {pb : Nat} {S : ByteArray} {at' : Nat} {err : Int} {w : World} (h : PS pb S at' err w) (n : Nat) : PS pb S n err (w.setCell ⟨pb, 1, none⟩ (.int .i64 n)) := by
  unfold PS at h ⊢; simp [World.setCell, Array.getElem?_modify, h]
def isBl (c : UInt8) : Bool := decide ((c.toNat : Int) = 32) || decide ((c.toNat : Int) = 9) || decide ((c.toNat : Int) = 10)
def isBr (c : UInt8) : Bool := decide ((c.toNat : Int) = 40) || decide ((c.toNat : Int) = 41)

theorem blank_any (c : UInt8) (w : World) : Calls Tryz.prog 95 #[.int .u8 (c.toNat : Int)] w fun r w' => r = .returned (.bool (isBl c)) ∧ w' = w := by
  by_cases h1 : (c.toNat : Int) = 32
  · have e : isBl c = true := by simp [isBl, h1]
    rw [e, h1]
    go_enter Tryz.func95, Tryz.ntmps95
    go_wp2_with fail
    go_ret
    exact ⟨rfl, rfl⟩
  by_cases h2 : (c.toNat : Int) = 9
  · have e : isBl c = true := by simp [isBl, h2]
    rw [e, h2]
    go_enter Tryz.func95, Tryz.ntmps95
    go_wp2_with fail
    go_ret
    exact ⟨rfl, rfl⟩
  have e : isBl c = decide ((c.toNat : Int) = 10) := by simp [isBl, h1, h2]
  rw [e]
  obtain ⟨n, hn⟩ : ∃ n : Int, n = (c.toNat : Int) := ⟨_, rfl⟩
  rw [← hn] at h1 h2 ⊢
  clear e hn
  have h1' : (n == 32) = false := by simpa using h1
  have h2' : (n == 9) = false := by simpa using h2
  go_enter Tryz.func95, Tryz.ntmps95
  go_wp2_with fail
  go_ret
  exact ⟨by first | rfl | (by_cases h : n = 10 <;> simp [h]), rfl⟩

def blAt (S : ByteArray) (j : Nat) : Bool := if h : j < S.size then isBl S[j] else false
def brAt (S : ByteArray) (j : Nat) : Bool := if h : j < S.size then isBr S[j] else false
/-- From a place the next word begins at a, and ends ahead of k. -/
def pkb (S : ByteArray) (at' a k : Nat) : Bool :=
  decide (at' ≤ a ∧ a ≤ k ∧ k ≤ S.size) && (List.range a).all (fun j => decide (j < at') || blAt S j) && !blAt S a &&
  (if brAt S a then decide (k = a + 1) else (List.range k).all (fun j => decide (j < a) || (!blAt S j && !brAt S j)) && (decide (k = S.size) || blAt S k || brAt S k))

theorem blAt_eq {S : ByteArray} {j : Nat} (h : j < S.size) : blAt S j = isBl S[j] := by unfold blAt; rw [dif_pos h]
theorem brAt_eq {S : ByteArray} {j : Nat} (h : j < S.size) : brAt S j = isBr S[j] := by unfold brAt; rw [dif_pos h]

/-- The word. -/
def wd (S : ByteArray) (a k : Nat) : ByteArray := S.extract a k

theorem slice_wd (S : ByteArray) (a k : Nat) (h1 : a ≤ k) (h2 : k ≤ S.size) (u : World) : (Instr.slice 9 (.string S) (some (.int .i64 (a : Int))) (some (.int .i64 (k : Int))) none).run Tryz.prog u = .ok (.string (wd S a k)) u := by
  have := run_slice_string (P := Tryz.prog) u 9 S .i64 .i64 (a : Int) (k : Int) Tryz.underlying9 (by omega) (by omega) (by omega)
  simpa [wd] using this

set_option maxRecDepth 100000 in
set_option maxHeartbeats 2000000 in
theorem peek_any (pb : Nat) (S : ByteArray) (at' a k : Nat) (err : Int) (w : World) (h : PS pb S at' err w) (hS : S.size ≤ 1600) (hp : pkb S at' a k = true) :
    Calls Tryz.prog 56 #[.pointer (some ⟨pb, 0, none⟩)] w fun r w' => r = .returned (.string (wd S a k)) ∧ Fr (· = pb) w w' ∧ PS pb S a err w' := by
  unfold pkb at hp
  simp only [Bool.and_eq_true, decide_eq_true_eq, Bool.not_eq_true', List.all_eq_true, List.mem_range] at hp
  obtain ⟨⟨⟨⟨hle, hak, hks⟩, hbl⟩, hnb⟩, hword⟩ := hp
  have H := hide h
  have HBL : Hid (∀ j, at' ≤ j → j < a → blAt S j = true) := fun j h1 h2 => by
    have := hbl j h2
    simp at this
    rcases this with h | h
    · omega
    · exact h
  have HNB := hide hnb
  have HWORD := hide hword
  clear h hbl hnb hword
  go_enter Tryz.func56, Tryz.ntmps56
  go_wp2_with fail
  go_loopg [] (a - at' + 1) (fun gn wr => ∃ i : Nat, at' ≤ i ∧ i ≤ a ∧ gn = a - i + 1 ∧ Fr (· = pb) w wr ∧ PS pb S i err wr)
  case atStart => exact ⟨at', Nat.le_refl _, hle, rfl, Fr.refl _ _, H.out⟩
  case round =>
    obtain ⟨i, hi1, hi2, hgk, hf, hps⟩ := hrel
    have c := cell_of_heap hps
    have z := frozen_of_heap hps
    have hl := lt_of_heap hps
    have HPS := hide hps
    have HF := hide hf
    have HGK := hide hgk
    clear hps hf hgk
    by_cases hia : i < a
    · have his : i < S.size := by omega
      have hbl := HBL.out i hi1 hia
      rw [blAt_eq his] at hbl
      have i1 : decide ((i : Int) < (S.size : Int)) = true := by simp; omega
      have i2 : (i : Int) < (S.size : Int) := by omega
      have i0 : (0 : Int) ≤ (i : Int) := by omega
      have CB : Hid (∀ u, Calls Tryz.prog 95 #[.int .u8 (S[i].toNat : Int)] u fun r w' => r = .returned (.bool true) ∧ w' = u) := fun u => by rw [← hbl]; exact blank_any _ u
      clear hbl
      go_wp2_with fail
      go_quiet ((go_at_call 95; exact Calls.quiet_of_same (CB.out _)))
      go_wp2_with fail
      go_roundg (a - (i + 1) + 1)
      case measure => have := HGK.out; omega
      case rel =>
        refine ⟨i + 1, by omega, by omega, rfl, ?_, ?_⟩
        · exact (HF.out.drewN nq).setCell (p := ⟨pb, 1, none⟩) (.inl rfl) _
        · have := (HPS.out.fr (T := No) ((Fr.refl No wr).drewN nq) (fun e => e)).setAt (i + 1)
          simpa using this
    · have hi : i = a := by omega
      subst hi
      by_cases his : i < S.size
      · have hnb := HNB.out
        rw [blAt_eq his] at hnb
        have i1 : decide ((i : Int) < (S.size : Int)) = true := by simp; omega
        have i2 : (i : Int) < (S.size : Int) := by omega
        have i0 : (0 : Int) ≤ (i : Int) := by omega
        have CB : Hid (∀ u, Calls Tryz.prog 95 #[.int .u8 (S[i].toNat : Int)] u fun r w' => r = .returned (.bool false) ∧ w' = u) := fun u => by rw [← hnb]; exact blank_any _ u
        clear hnb
        go_wp2_with fail
        go_quiet ((go_at_call 95; exact Calls.quiet_of_same (CB.out _)))
        clear CB
        by_cases hbr : isBr S[i] = true
        · have hk : k = i + 1 := by have h := HWORD.out; rw [brAt_eq his, if_pos hbr] at h; simpa using h
          subst hk
          have hsl : ∀ u : World, (Instr.slice 9 (.string S) (some (.int .i64 (i : Int))) (some (.int .i64 ((i : Int) + 1))) none).run Tryz.prog u = .ok (.string (wd S i (i + 1))) u := fun u => by
            have := slice_wd S i (i + 1) hak hks u
            simpa using this
          by_cases h40 : (S[i].toNat : Int) = 40
          · have d40 : ((S[i].toNat : Int) == 40) = true := by simp [h40]
            clear h40 hbr
            go_wp2_with fail
            go_ret
            exact ⟨rfl, HF.out.drewN nq, HPS.out.fr (T := No) ((Fr.refl No wr).drewN nq) (fun e => e)⟩
          · have d40 : ((S[i].toNat : Int) == 40) = false := by simpa using h40
            have h41 : (S[i].toNat : Int) = 41 := by simp [isBr] at hbr; omega
            have d41 : ((S[i].toNat : Int) == 41) = true := by simp [h41]
            clear h40 hbr h41
            go_wp2_with fail
            go_ret
            exact ⟨rfl, HF.out.drewN nq, HPS.out.fr (T := No) ((Fr.refl No wr).drewN nq) (fun e => e)⟩
        · have hbr : isBr S[i] = false := by simpa using hbr
          have hw := HWORD.out
          rw [brAt_eq his, hbr, if_neg (by decide)] at hw
          simp only [Bool.and_eq_true, List.all_eq_true, List.mem_range] at hw
          obtain ⟨hin, hend⟩ := hw
          have HIN : Hid (∀ j, i ≤ j → j < k → blAt S j = false ∧ brAt S j = false) := fun j h1 h2 => by
            have := hin j h2
            simp at this
            rcases this with h | h
            · omega
            · exact h
          have HEND := hide hend
          have d40 : ((S[i].toNat : Int) == 40) = false := by simp [isBr] at hbr; simp; omega
          have d41 : ((S[i].toNat : Int) == 41) = false := by simp [isBr] at hbr; simp; omega
          have hps2 : PS pb S i err (wr.drewN nq) := HPS.out.fr (T := No) ((Fr.refl No wr).drewN nq) (fun e => e)
          have hf2 : Fr (· = pb) w (wr.drewN nq) := HF.out.drewN nq
          have HPS2 := hide hps2
          have HF2 := hide hf2
          clear hbr hin hend hps2 hf2 HWORD HBL
          go_wp2_with fail
          go_loopg [3] (k - i + 1) (fun gn v wr' => ∃ j : Nat, i ≤ j ∧ j ≤ k ∧ gn = k - j + 1 ∧ v = .int .i64 (j : Int) ∧ ∃ n, wr' = wr.drewN n)
          case atStart => exact ⟨i, Nat.le_refl _, hak, rfl, rfl, nq, rfl⟩
          case round =>
            obtain ⟨j, hj1, hj2, hgj, rfl, n, rfl⟩ := hrel
            have HGJ := hide hgj
            clear hgj
            by_cases hjk : j < k
            · have hjs : j < S.size := by omega
              obtain ⟨b1, b2⟩ := HIN.out j hj1 hjk
              rw [blAt_eq hjs] at b1
              rw [brAt_eq hjs] at b2
              have j1 : decide ((j : Int) < (S.size : Int)) = true := by simp; omega
              have j2 : (j : Int) < (S.size : Int) := by omega
              have j0 : (0 : Int) ≤ (j : Int) := by omega
              have e40 : ((S[j].toNat : Int) != 40) = true := by simp [isBr] at b2; simp; omega
              have e41 : ((S[j].toNat : Int) != 41) = true := by simp [isBr] at b2; simp; omega
              have CB : Hid (∀ u, Calls Tryz.prog 95 #[.int .u8 (S[j].toNat : Int)] u fun r w' => r = .returned (.bool false) ∧ w' = u) := fun u => by rw [← b1]; exact blank_any _ u
              clear b1 b2
              go_wp2_with fail
              refine (CB.out _).mono ?_
              rintro e w7 ⟨rfl, rfl⟩
              go_wp2_with fail
              go_roundg (k - (j + 1) + 1)
              case measure => have := HGJ.out; omega
              case rel => exact ⟨j + 1, by omega, by omega, rfl, by go_num, _, rfl⟩
            · have hjk' : j = k := by omega
              subst hjk'
              have hsl : ∀ u : World, (Instr.slice 9 (.string S) (some (.int .i64 (i : Int))) (some (.int .i64 (j : Int))) none).run Tryz.prog u = .ok (.string (wd S i j)) u := fun u => slice_wd S i j hak hks u
              by_cases hjs : j < S.size
              · have j1 : decide ((j : Int) < (S.size : Int)) = true := by simp; omega
                have j2 : (j : Int) < (S.size : Int) := by omega
                have j0 : (0 : Int) ≤ (j : Int) := by omega
                have hend := HEND.out
                rw [blAt_eq hjs, brAt_eq hjs] at hend
                have hend' : isBl S[j] = true ∨ isBr S[j] = true := by
                  simp at hend
                  rcases hend with (h | h) | h
                  · omega
                  · exact .inl h
                  · exact .inr h
                obtain ⟨bb, hbb⟩ : ∃ bb, bb = isBl S[j] := ⟨_, rfl⟩
                have CB : Hid (∀ u, Calls Tryz.prog 95 #[.int .u8 (S[j].toNat : Int)] u fun r w' => r = .returned (.bool bb) ∧ w' = u) := fun u => by rw [hbb]; exact blank_any _ u
                rw [← hbb] at hend'
                have HE' := hide hend'
                clear hend hend' hbb
                cases bb with
                | true =>
                  go_wp2_with fail
                  refine (CB.out _).mono ?_
                  rintro e w7 ⟨rfl, rfl⟩
                  go_wp2_with fail
                  go_quiet (fail)
                  go_wp2_with fail
                  go_ret
                  exact ⟨rfl, (HF.out.drewN n).drewN nq, HPS.out.fr (T := No) (((Fr.refl No wr).drewN n).drewN nq) (fun e => e)⟩
                | false =>
                  have hbr' : isBr S[j] = true := by have := HE'.out; simpa using this
                  by_cases h40 : (S[j].toNat : Int) = 40
                  · have e40 : ((S[j].toNat : Int) != 40) = false := by simp [h40]
                    clear h40 hbr'
                    go_wp2_with fail
                    refine (CB.out _).mono ?_
                    rintro e w7 ⟨rfl, rfl⟩
                    go_wp2_with fail
                    go_quiet (fail)
                    go_wp2_with fail
                    go_ret
                    exact ⟨rfl, (HF.out.drewN n).drewN nq, HPS.out.fr (T := No) (((Fr.refl No wr).drewN n).drewN nq) (fun e => e)⟩
                  · have e40 : ((S[j].toNat : Int) != 40) = true := by simpa using h40
                    have h41 : (S[j].toNat : Int) = 41 := by simp [isBr] at hbr'; omega
                    have e41 : ((S[j].toNat : Int) != 41) = false := by simp [h41]
                    clear h40 hbr' h41
                    go_wp2_with fail
                    refine (CB.out _).mono ?_
                    rintro e w7 ⟨rfl, rfl⟩
                    go_wp2_with fail
                    go_quiet (fail)
                    go_wp2_with fail
                    go_ret
                    exact ⟨rfl, (HF.out.drewN n).drewN nq, HPS.out.fr (T := No) (((Fr.refl No wr).drewN n).drewN nq) (fun e => e)⟩
              · have hsz : j = S.size := by omega
                subst hsz
                have j1 : decide ((S.size : Int) < (S.size : Int)) = false := by simp
                go_wp2_with fail
                go_quiet (fail)
                go_wp2_with fail
                go_ret
                exact ⟨rfl, (HF.out.drewN n).drewN nq, HPS.out.fr (T := No) (((Fr.refl No wr).drewN n).drewN nq) (fun e => e)⟩
      · have hsz : i = S.size := by omega
        subst hsz
        have hk : k = S.size := by omega
        subst hk
        have i1 : decide ((S.size : Int) < (S.size : Int)) = false := by simp
        go_wp2_with fail
        go_quiet (fail)
        have hps2 : PS pb S S.size err (wr.drewN nq) := HPS.out.fr (T := No) ((Fr.refl No wr).drewN nq) (fun e => e)
        have hf2 : Fr (· = pb) w (wr.drewN nq) := HF.out.drewN nq
        have hsl : ∀ u : World, (Instr.slice 9 (.string S) (some (.int .i64 (S.size : Int))) (some (.int .i64 (S.size : Int))) none).run Tryz.prog u = .ok (.string (wd S S.size S.size)) u := fun u => slice_wd S S.size S.size (Nat.le_refl _) (Nat.le_refl _) u
        have HPS2 := hide hps2
        have HF2 := hide hf2
        clear hps2 hf2 HWORD HBL
        go_wp2_with fail
        go_loopg [3] 1 (fun gn v wr' => gn = 1 ∧ v = .int .i64 (S.size : Int) ∧ wr' = wr.drewN nq)
        case atStart => exact ⟨rfl, rfl, rfl⟩
        case round =>
          obtain ⟨_, rfl, rfl⟩ := hrel
          go_wp2_with fail
          go_quiet (fail)
          go_wp2_with fail
          go_ret
          exact ⟨rfl, HF2.out.drewN _, HPS2.out.fr (T := No) ((Fr.refl No _).drewN _) (fun e => e)⟩

/-- What 'Next' does at a word that is there. -/
theorem pnext_any (pb : Nat) (S : ByteArray) (at' a k : Nat) (err : Int) (w : World) (h : PS pb S at' err w) (hS : S.size ≤ 1600) (hp : pkb S at' a k = true) (hak : a < k) (hks : k ≤ S.size) :
    Calls Tryz.prog 96 #[.pointer (some ⟨pb, 0, none⟩)] w fun r w' => r = .returned (.string (wd S a k)) ∧ Fr (· = pb) w w' ∧ PS pb S k err w' := by
  have hl := lt_of_heap h
  have hsz : (wd S a k).size = k - a := by unfold wd; rw [ByteArray.size_extract]; omega
  have hne : ¬ wd S a k = ⟨#[]⟩ := fun e => by have h0 : (⟨#[]⟩ : ByteArray).size = 0 := rfl; rw [e, h0] at hsz; omega
  have hne' := str_ne' hne
  have CP := hide (peek_any pb S at' a k err w h hS hp)
  obtain ⟨x, hx⟩ : ∃ x, x = wd S a k := ⟨_, rfl⟩
  rw [← hx] at CP hne' hsz ⊢
  have HSZ := hide hsz
  have hne2 : x.toList.isEmpty = false := by
    cases hh : x.toList with
    | nil => rw [hh, ByteArray.toList_eq] at hne'; simp at hne'
    | cons a l => rfl
  clear hx hne hsz h hne'
  go_enter Tryz.func96, Tryz.ntmps96
  go_wp2_with fail
  refine CP.out.mono ?_
  rintro e w1 ⟨rfl, hf1, hps1⟩
  have c := cell_of_heap hps1
  have z := frozen_of_heap hps1
  have hl1 := lt_of_heap hps1
  have HF1 := hide hf1
  have HPS1 := hide hps1
  have hxs : x.size ≤ 1600 := by have := HSZ.out; omega
  clear hf1 hps1 CP
  go_wp2_with fail
  go_ret
  refine ⟨rfl, HF1.out.setCell (p := ⟨pb, 1, none⟩) (.inl rfl) _, ?_⟩
  have := HPS1.out.setAt k
  have e : ((k : Nat) : Int) = (a : Int) + (x.size : Int) := by have := HSZ.out; omega
  rw [e] at this
  exact this

theorem pwant_any (pb : Nat) (S x : ByteArray) (at' a k : Nat) (err : Int) (w : World) (h : PS pb S at' err w) (hS : S.size ≤ 1600) (hp : pkb S at' a k = true) (hak : a < k) (hks : k ≤ S.size) (hx : wd S a k = x) :
    Calls Tryz.prog 57 #[.pointer (some ⟨pb, 0, none⟩), .string x] w fun r w' => r = .returned (.tuple #[]) ∧ Fr (· = pb) w w' ∧ PS pb S k err w' := by
  have CN := pnext_any pb S at' a k err w h hS hp hak hks
  rw [hx] at CN
  have HCN := hide CN
  clear CN h
  go_enter Tryz.func57, Tryz.ntmps57
  go_wp2_with fail
  refine HCN.out.mono ?_
  rintro e w1 ⟨rfl, hf1, hps1⟩
  have HF1 := hide hf1
  have HPS1 := hide hps1
  clear hf1 hps1 HCN
  go_wp2_with fail
  go_end0
  exact ⟨rfl, HF1.out, HPS1.out⟩

theorem pname_any (pb : Nat) (S : ByteArray) (at' a k : Nat) (err : Int) (w : World) (h : PS pb S at' err w) (hS : S.size ≤ 1600) (hp : pkb S at' a k = true) (hak : a < k) (hks : k ≤ S.size) (hn : isName (wd S a k) = true) :
    Calls Tryz.prog 58 #[.pointer (some ⟨pb, 0, none⟩)] w fun r w' => r = .returned (.string (wd S a k)) ∧ Fr (· = pb) w w' ∧ PS pb S k err w' := by
  have CN := hide (pnext_any pb S at' a k err w h hS hp hak hks)
  have hsz : (wd S a k).size ≤ maxLen := by unfold wd maxLen; rw [ByteArray.size_extract]; omega
  obtain ⟨x, hx⟩ : ∃ x, x = wd S a k := ⟨_, rfl⟩
  rw [← hx] at CN hn hsz ⊢
  have CM : Hid (∀ u, Calls Tryz.prog 22 #[.string x] u fun e w' => e = .returned (.bool true) ∧ ∃ n, w' = u.drewN n) := fun u => by rw [← hn]; exact name_any x u hsz
  clear hx hn hsz h
  go_enter Tryz.func58, Tryz.ntmps58
  go_wp2_with fail
  refine CN.out.mono ?_
  rintro e w1 ⟨rfl, hf1, hps1⟩
  have HF1 := hide hf1
  have HPS1 := hide hps1
  clear hf1 hps1 CN
  go_wp2_with fail
  refine (CM.out _).mono ?_
  rintro e w2 ⟨rfl, n, rfl⟩
  go_wp2_with fail
  go_ret
  exact ⟨rfl, HF1.out.drewN n, HPS1.out.fr (T := No) ((Fr.refl No w1).drewN n) (fun e => e)⟩
end Go.Proofs.YtomahbdidlglfacGreatDoor

/- The library's contracts that the walks use, laid over this program. -/
namespace Go.Proofs
open Go.Shelf
def Tryz.laysM171_ren : Go.Shelf.Ren := ⟨fun | 171 => 62 | 243 => 103 | 246 => 121 | 283 => 133 | 284 => 134 | 285 => 135 | 286 => 136 | 129 => 148 | 317 => 147 | 318 => 149 | 319 => 150 | 320 => 151 | 337 => 155 | 338 => 156 | n => n, fun | 3 => 3 | 9 => 9 | 2 => 2 | 4 => 4 | 171 => 159 | 0 => 0 | 53 => 160 | 37 => 163 | 5 => 5 | 173 => 164 | 212 => 175 | 51 => 176 | 20 => 20 | 213 => 177 | 46 => 178 | 232 => 191 | 233 => 192 | n => n, fun | 17 => 0 | 18 => 3 | 19 => 4 | n => n⟩
theorem Tryz.laysM171 : Go.Proofs.LaysM.n171 Tryz.prog Tryz.laysM171_ren := {
  mixed := by kernel_rfl
  f129 := Tryz.func148.trans (congrArg some (by kernel_rfl))
  f171 := Tryz.func62.trans (congrArg some (by kernel_rfl))
  f243 := Tryz.func103.trans (congrArg some (by kernel_rfl))
  f246 := Tryz.func121.trans (congrArg some (by kernel_rfl))
  f283 := Tryz.func133.trans (congrArg some (by kernel_rfl))
  f284 := Tryz.func134.trans (congrArg some (by kernel_rfl))
  f285 := Tryz.func135.trans (congrArg some (by kernel_rfl))
  f286 := Tryz.func136.trans (congrArg some (by kernel_rfl))
  f317 := Tryz.func147.trans (congrArg some (by kernel_rfl))
  f318 := Tryz.func149.trans (congrArg some (by kernel_rfl))
  f319 := Tryz.func150.trans (congrArg some (by kernel_rfl))
  f320 := Tryz.func151.trans (congrArg some (by kernel_rfl))
  f337 := Tryz.func155.trans (congrArg some (by kernel_rfl))
  f338 := Tryz.func156.trans (congrArg some (by kernel_rfl))
  t0 := Tryz.underlying0
  a0 := Tryz.isAgg0
  z0 := Tryz.sizeOf0
  v0 := Tryz.zeroValue0
  t2 := Tryz.underlying2
  a2 := Tryz.isAgg2
  z2 := Tryz.sizeOf2
  v2 := Tryz.zeroValue2
  t3 := Tryz.underlying3
  a3 := Tryz.isAgg3
  z3 := Tryz.sizeOf3
  v3 := Tryz.zeroValue3
  t4 := Tryz.underlying4
  a4 := Tryz.isAgg4
  z4 := Tryz.sizeOf4
  v4 := Tryz.zeroValue4
  t5 := Tryz.underlying5
  a5 := Tryz.isAgg5
  z5 := Tryz.sizeOf5
  v5 := Tryz.zeroValue5
  t9 := Tryz.underlying9
  a9 := Tryz.isAgg9
  z9 := Tryz.sizeOf9
  v9 := Tryz.zeroValue9
  t20 := Tryz.underlying20
  a20 := Tryz.isAgg20
  z20 := Tryz.sizeOf20
  v20 := Tryz.zeroValue20
  t37 := Tryz.underlying163
  a37 := Tryz.isAgg163
  z37 := Tryz.sizeOf163
  v37 := Tryz.zeroValue163
  t46 := Tryz.underlying178
  a46 := Tryz.isAgg178
  z46 := Tryz.sizeOf178
  v46 := Tryz.zeroValue178
  t51 := Tryz.underlying176
  a51 := Tryz.isAgg176
  z51 := Tryz.sizeOf176
  v51 := Tryz.zeroValue176
  t53 := Tryz.underlying160
  a53 := Tryz.isAgg160
  z53 := Tryz.sizeOf160
  v53 := Tryz.zeroValue160
  t171 := Tryz.underlying159
  a171 := Tryz.isAgg159
  z171 := Tryz.sizeOf159
  v171 := Tryz.zeroValue159
  t173 := Tryz.underlying164
  a173 := Tryz.isAgg164
  z173 := Tryz.sizeOf164
  v173 := Tryz.zeroValue164
  t212 := Tryz.underlying175
  a212 := Tryz.isAgg175
  z212 := Tryz.sizeOf175
  v212 := Tryz.zeroValue175
  t213 := Tryz.underlying177
  a213 := Tryz.isAgg177
  z213 := Tryz.sizeOf177
  t232 := Tryz.underlying191
  a232 := Tryz.isAgg191
  z232 := Tryz.sizeOf191
  v232 := Tryz.zeroValue191
  t233 := Tryz.underlying192
  a233 := Tryz.isAgg192
  z233 := Tryz.sizeOf192
  v233 := Tryz.zeroValue192
  g17 := by kernel_rfl
  g18 := by kernel_rfl
  g19 := by kernel_rfl
  i0 := by kernel_rfl
  i2 := by kernel_rfl
  i3 := by kernel_rfl
  i4 := by kernel_rfl
  i5 := by kernel_rfl
  i9 := by kernel_rfl
  i20 := by kernel_rfl
  i37 := by kernel_rfl
  i46 := by kernel_rfl
  i51 := by kernel_rfl
  i53 := by kernel_rfl
  i171 := by kernel_rfl
  i173 := by kernel_rfl
  i212 := by kernel_rfl
  i232 := by kernel_rfl
  i233 := by kernel_rfl
  m17 := by kernel_rfl
  m18 := by kernel_rfl
  m19 := by kernel_rfl }
open Go.RowKit Go.Sort Go.Lib in
theorem Tryz.strconv_Itoa (n : Int) (h0 : -9223372036854775808 ≤ n) (h1 : n ≤ 9223372036854775807) (w : World) (htab : Lib.TabIs Tryz.prog w "internal/strconv.uint64pow10" .u64 Lib.pow10Tab) :
    Calls Tryz.prog 62 #[.int .i64 n] w fun e w' => e = .returned (.string ⟨(Lib.itoa n).toArray⟩) ∧ ∃ k os, w' = grow (w.drewN k) os := Any.strconv_Itoa Tryz.laysM171 n h0 h1 w htab
def Tryz.laysC172_ren : Go.Shelf.Ren := ⟨fun | 172 => 120 | 244 => 131 | 245 => 132 | 247 => 142 | 279 => 143 | 280 => 144 | 281 => 145 | 282 => 146 | 287 => 152 | 316 => 153 | 171 => 62 | 205 => 154 | 321 => 157 | 322 => 158 | 243 => 103 | 246 => 121 | 283 => 133 | 284 => 134 | 285 => 135 | 286 => 136 | 129 => 148 | 317 => 147 | 318 => 149 | 319 => 150 | 320 => 151 | 337 => 155 | 338 => 156 | n => n, fun | 9 => 9 | 3 => 3 | 75 => 149 | 76 => 150 | 4 => 4 | 5 => 5 | 167 => 167 | 37 => 163 | 0 => 0 | 85 => 168 | 2 => 2 | 168 => 170 | 53 => 160 | 175 => 180 | 46 => 178 | 210 => 183 | 127 => 187 | 145 => 190 | 143 => 188 | 21 => 21 | 171 => 159 | 173 => 164 | 212 => 175 | 51 => 176 | 20 => 20 | 213 => 177 | 232 => 191 | 233 => 192 | 80 => 72 | n => n, fun | 15 => 1 | 16 => 2 | 17 => 0 | 18 => 3 | 19 => 4 | n => n⟩
theorem Tryz.laysC172 : Go.Proofs.LaysC.n172 Tryz.prog Tryz.laysC172_ren := {
  mixed := by kernel_rfl
  f129 := Tryz.func148.trans (congrArg some (by kernel_rfl))
  f171 := Tryz.func62.trans (congrArg some (by kernel_rfl))
  f172 := Tryz.func120.trans (congrArg some (by kernel_rfl))
  f205 := Tryz.func154.trans (congrArg some (by kernel_rfl))
  f243 := Tryz.func103.trans (congrArg some (by kernel_rfl))
  f244 := Tryz.func131.trans (congrArg some (by kernel_rfl))
  f245 := Tryz.func132.trans (congrArg some (by kernel_rfl))
  f246 := Tryz.func121.trans (congrArg some (by kernel_rfl))
  f247 := Tryz.func142.trans (congrArg some (by kernel_rfl))
  f279 := Tryz.func143.trans (congrArg some (by kernel_rfl))
  f280 := Tryz.func144.trans (congrArg some (by kernel_rfl))
  f281 := Tryz.func145.trans (congrArg some (by kernel_rfl))
  f282 := Tryz.func146.trans (congrArg some (by kernel_rfl))
  f283 := Tryz.func133.trans (congrArg some (by kernel_rfl))
  f284 := Tryz.func134.trans (congrArg some (by kernel_rfl))
  f285 := Tryz.func135.trans (congrArg some (by kernel_rfl))
  f286 := Tryz.func136.trans (congrArg some (by kernel_rfl))
  f287 := Tryz.func152.trans (congrArg some (by kernel_rfl))
  f316 := Tryz.func153.trans (congrArg some (by kernel_rfl))
  f317 := Tryz.func147.trans (congrArg some (by kernel_rfl))
  f318 := Tryz.func149.trans (congrArg some (by kernel_rfl))
  f319 := Tryz.func150.trans (congrArg some (by kernel_rfl))
  f320 := Tryz.func151.trans (congrArg some (by kernel_rfl))
  f321 := Tryz.func157.trans (congrArg some (by kernel_rfl))
  f322 := Tryz.func158.trans (congrArg some (by kernel_rfl))
  f337 := Tryz.func155.trans (congrArg some (by kernel_rfl))
  f338 := Tryz.func156.trans (congrArg some (by kernel_rfl))
  t0 := Tryz.underlying0
  a0 := Tryz.isAgg0
  z0 := Tryz.sizeOf0
  v0 := Tryz.zeroValue0
  t2 := Tryz.underlying2
  a2 := Tryz.isAgg2
  z2 := Tryz.sizeOf2
  v2 := Tryz.zeroValue2
  t3 := Tryz.underlying3
  a3 := Tryz.isAgg3
  z3 := Tryz.sizeOf3
  v3 := Tryz.zeroValue3
  t4 := Tryz.underlying4
  a4 := Tryz.isAgg4
  z4 := Tryz.sizeOf4
  v4 := Tryz.zeroValue4
  t5 := Tryz.underlying5
  a5 := Tryz.isAgg5
  z5 := Tryz.sizeOf5
  v5 := Tryz.zeroValue5
  t9 := Tryz.underlying9
  a9 := Tryz.isAgg9
  z9 := Tryz.sizeOf9
  v9 := Tryz.zeroValue9
  t20 := Tryz.underlying20
  a20 := Tryz.isAgg20
  z20 := Tryz.sizeOf20
  v20 := Tryz.zeroValue20
  t21 := Tryz.underlying21
  a21 := Tryz.isAgg21
  z21 := Tryz.sizeOf21
  v21 := Tryz.zeroValue21
  t37 := Tryz.underlying163
  a37 := Tryz.isAgg163
  z37 := Tryz.sizeOf163
  v37 := Tryz.zeroValue163
  t46 := Tryz.underlying178
  a46 := Tryz.isAgg178
  z46 := Tryz.sizeOf178
  v46 := Tryz.zeroValue178
  t51 := Tryz.underlying176
  a51 := Tryz.isAgg176
  z51 := Tryz.sizeOf176
  v51 := Tryz.zeroValue176
  t53 := Tryz.underlying160
  a53 := Tryz.isAgg160
  z53 := Tryz.sizeOf160
  v53 := Tryz.zeroValue160
  t75 := Tryz.underlying149
  a75 := Tryz.isAgg149
  z75 := Tryz.sizeOf149
  v75 := Tryz.zeroValue149
  t76 := Tryz.underlying150
  a76 := Tryz.isAgg150
  z76 := Tryz.sizeOf150
  v76 := Tryz.zeroValue150
  t85 := Tryz.underlying168
  a85 := Tryz.isAgg168
  z85 := Tryz.sizeOf168
  v85 := Tryz.zeroValue168
  t127 := Tryz.underlying187
  a127 := Tryz.isAgg187
  z127 := Tryz.sizeOf187
  v127 := Tryz.zeroValue187
  t143 := Tryz.underlying188
  a143 := Tryz.isAgg188
  z143 := Tryz.sizeOf188
  v143 := Tryz.zeroValue188
  t145 := Tryz.underlying190
  a145 := Tryz.isAgg190
  z145 := Tryz.sizeOf190
  v145 := Tryz.zeroValue190
  t167 := Tryz.underlying167
  a167 := Tryz.isAgg167
  z167 := Tryz.sizeOf167
  v167 := Tryz.zeroValue167
  t168 := Tryz.underlying170
  a168 := Tryz.isAgg170
  z168 := Tryz.sizeOf170
  v168 := Tryz.zeroValue170
  t171 := Tryz.underlying159
  a171 := Tryz.isAgg159
  z171 := Tryz.sizeOf159
  v171 := Tryz.zeroValue159
  t173 := Tryz.underlying164
  a173 := Tryz.isAgg164
  z173 := Tryz.sizeOf164
  v173 := Tryz.zeroValue164
  t175 := Tryz.underlying180
  a175 := Tryz.isAgg180
  z175 := Tryz.sizeOf180
  v175 := Tryz.zeroValue180
  t210 := Tryz.underlying183
  a210 := Tryz.isAgg183
  z210 := Tryz.sizeOf183
  v210 := Tryz.zeroValue183
  t212 := Tryz.underlying175
  a212 := Tryz.isAgg175
  z212 := Tryz.sizeOf175
  v212 := Tryz.zeroValue175
  t213 := Tryz.underlying177
  a213 := Tryz.isAgg177
  z213 := Tryz.sizeOf177
  t232 := Tryz.underlying191
  a232 := Tryz.isAgg191
  z232 := Tryz.sizeOf191
  v232 := Tryz.zeroValue191
  t233 := Tryz.underlying192
  a233 := Tryz.isAgg192
  z233 := Tryz.sizeOf192
  v233 := Tryz.zeroValue192
  g15 := by kernel_rfl
  g16 := by kernel_rfl
  g17 := by kernel_rfl
  g18 := by kernel_rfl
  g19 := by kernel_rfl
  t80 := Tryz.underlying72
  a80 := Tryz.isAgg72
  z80 := Tryz.sizeOf72
  v80 := Tryz.zeroValue72
  i0 := by kernel_rfl
  i2 := by kernel_rfl
  i3 := by kernel_rfl
  i4 := by kernel_rfl
  i5 := by kernel_rfl
  i9 := by kernel_rfl
  i20 := by kernel_rfl
  i21 := by kernel_rfl
  i37 := by kernel_rfl
  i46 := by kernel_rfl
  i51 := by kernel_rfl
  i53 := by kernel_rfl
  i75 := by kernel_rfl
  i76 := by kernel_rfl
  i80 := by kernel_rfl
  i85 := by kernel_rfl
  i127 := by kernel_rfl
  i143 := by kernel_rfl
  i145 := by kernel_rfl
  i167 := by kernel_rfl
  i168 := by kernel_rfl
  i171 := by kernel_rfl
  i173 := by kernel_rfl
  i175 := by kernel_rfl
  i210 := by kernel_rfl
  i212 := by kernel_rfl
  i232 := by kernel_rfl
  i233 := by kernel_rfl
  m15 := by kernel_rfl
  m16 := by kernel_rfl
  m17 := by kernel_rfl
  m18 := by kernel_rfl
  m19 := by kernel_rfl
  c0 := by kernel_rfl
  c2 := by kernel_rfl
  c3 := by kernel_rfl
  c4 := by kernel_rfl
  c5 := by kernel_rfl
  c9 := by kernel_rfl
  c20 := by kernel_rfl
  c21 := by kernel_rfl
  c37 := by kernel_rfl
  c46 := by kernel_rfl
  c51 := by kernel_rfl
  c53 := by kernel_rfl
  c75 := by kernel_rfl
  c76 := by kernel_rfl
  c80 := by kernel_rfl
  c85 := by kernel_rfl
  c127 := by kernel_rfl
  c143 := by kernel_rfl
  c145 := by kernel_rfl
  c167 := by kernel_rfl
  c168 := by kernel_rfl
  c171 := by kernel_rfl
  c173 := by kernel_rfl
  c175 := by kernel_rfl
  c210 := by kernel_rfl
  c212 := by kernel_rfl
  c213 := by kernel_rfl
  c232 := by kernel_rfl
  c233 := by kernel_rfl }
open Go.RowKit in
theorem Tryz.strconv_Atoi_ok (s : ByteArray) (hmax : s.size ≤ 9223372036854775806) (v : Int) (h : Lib.atoiAll s.data.toList = .ok v) (w : World) :
    Calls Tryz.prog 120 #[.string s] w fun e w' => e = .returned (.tuple #[.int .i64 v, .nilIface]) ∧ (w' = w ∨ ∃ t, w' = Lib.bytesWorld w 5 t) := Any.strconv_Atoi_ok Tryz.laysC172 s hmax v h w
open Go.RowKit in
theorem Tryz.strconv_Atoi_syntax_var (s : ByteArray) (hlim : s.size ≤ 281474976710656) (h : Lib.atoiAll s.data.toList = .«syntax») (tp : TypeId) (p : Value) (w : World) (hvar : w.var? Tryz.prog "strconv.ErrSyntax" = some #[.iface tp p]) :
    Calls Tryz.prog 120 #[.string s] w fun e w' => ∃ N, e = .returned (.tuple #[.int .i64 0, .iface 170 (.pointer (some ⟨N, 0, none⟩))]) ∧ w.heap.size ≤ N ∧ w'.heap[N]? = some (.cells #[.string ⟨#[65, 116, 111, 105]⟩, .string s, .iface tp p] 183 (0, 0)) ∧ Below w.heap.size w w' := Any.strconv_Atoi_syntax_var Tryz.laysC172 s hlim h tp p w hvar
open Go.RowKit in
theorem Tryz.strconv_Atoi_range_var (s : ByteArray) (hlim : s.size ≤ 281474976710656) (h : Lib.atoiAll s.data.toList = .range) (tp : TypeId) (p : Value) (w : World) (hvar : w.var? Tryz.prog "strconv.ErrRange" = some #[.iface tp p]) :
    Calls Tryz.prog 120 #[.string s] w fun e w' => ∃ N, e = .returned (.tuple #[.int .i64 (Lib.atoiSat s.data.toList), .iface 170 (.pointer (some ⟨N, 0, none⟩))]) ∧ w.heap.size ≤ N ∧ w'.heap[N]? = some (.cells #[.string ⟨#[65, 116, 111, 105]⟩, .string s, .iface tp p] 183 (0, 0)) ∧ Below w.heap.size w w' := Any.strconv_Atoi_range_var Tryz.laysC172 s hlim h tp p w hvar
end Go.Proofs

/- The document's reader: numbers; terms of one word, walked. -/
namespace Go.Proofs.YtomahbdidlglfacGreatDoor
open Go.RowKit Go.Maps Go.WideMaps

/-- What the listed variables hold. -/
def Env (w : World) : Prop :=
  Lib.TabIs Tryz.prog w "internal/strconv.uint64pow10" .u64 Lib.pow10Tab ∧ (∃ tp p, w.var? Tryz.prog "strconv.ErrSyntax" = some #[.iface tp p]) ∧ (∃ tp p, w.var? Tryz.prog "strconv.ErrRange" = some #[.iface tp p])

theorem var_kept {w w' : World} (name : String) (g : Nat) (hg : Tryz.prog.globalNamed name = some g) (h : w'.heap[g]? = w.heap[g]?) : w'.var? Tryz.prog name = w.var? Tryz.prog name := by
  simp only [World.var?, hg, Option.bind_some, h]
theorem named0 : Tryz.prog.globalNamed "strconv.ErrSyntax" = some 1 := by kernel_rfl
theorem named1 : Tryz.prog.globalNamed "strconv.ErrRange" = some 2 := by kernel_rfl
theorem named2 : Tryz.prog.globalNamed "internal/strconv.uint64pow10" = some 0 := by kernel_rfl
theorem Env.kept {w w' : World} (h : Env w) (hb : ∀ k, k < 3 → w'.heap[k]? = w.heap[k]?) : Env w' := by
  obtain ⟨h1, h2, h3⟩ := h
  refine ⟨?_, ?_, ?_⟩
  · unfold Lib.TabIs; rw [var_kept _ 0 named2 (hb 0 (by omega))]; exact h1
  · rw [var_kept _ 1 named0 (hb 1 (by omega))]; exact h2
  · rw [var_kept _ 2 named1 (hb 2 (by omega))]; exact h3
theorem Env.fr {T : Nat → Prop} {w w' : World} (h : Env w) (hf : Fr T w w') (h3 : 3 ≤ w.heap.size) (hT : ∀ i, i < 3 → ¬ T i) : Env w' := h.kept fun k hk => hf.block k (by omega) (hT k hk)

theorem fr_below {w w' : World} (h : Below w.heap.size w w') : Fr No w w' := ⟨h.os, h.tape, h.output, h.size, fun k hk _ => h.block k hk⟩
theorem below_grow (w : World) (k : Nat) (os : Array Obj) : Below w.heap.size w (Sort.grow (w.drewN k) os) :=
  ⟨rfl, rfl, rfl, by simp [Sort.grow, World.drewN], fun i hi => by
    show (w.heap ++ os)[i]? = _
    rw [Array.getElem?_append_left hi]⟩

theorem itoa_any (n : Int) (w : World) (h0 : -9223372036854775808 ≤ n) (h1 : n ≤ 9223372036854775807) (henv : Env w) :
    Calls Tryz.prog 62 #[.int .i64 n] w fun e w' => e = .returned (.string ⟨(Lib.itoa n).toArray⟩) ∧ Fr No w w' :=
  (Tryz.strconv_Itoa n h0 h1 w henv.1).mono fun _ _ ⟨he, k, os, hw⟩ => ⟨he, by rw [hw]; exact fr_below (below_grow w k os)⟩

/-- A number, if a word is one. -/
def number (x : ByteArray) : Int × Bool :=
  match Lib.atoiAll x.data.toList with
  | .ok v => (v, Lib.itoa v == x.toList)
  | .range => (Lib.atoiSat x.data.toList, false)
  | _ => (0, false)

theorem ret_num2 {a b : Int × Bool} (h : a = b) : Ending.returned (.tuple #[.int .i64 b.1, .bool b.2]) = .returned (.tuple #[.int .i64 a.1, .bool a.2]) := by rw [h]

set_option maxHeartbeats 400000 in
theorem number2_any (x : ByteArray) (w : World) (hx : x.size ≤ 1600) (henv : Env w) (h3 : 3 ≤ w.heap.size) :
    Calls Tryz.prog 98 #[.string x] w fun e w' => e = .returned (.tuple #[.int .i64 (number x).1, .bool (number x).2]) ∧ Fr No w w' := by
  obtain ⟨ht, ⟨tp, p, hv⟩, ⟨tp', p', hv'⟩⟩ := id henv
  have HE : Hid (Env w) := henv
  have HV := hide (hv)
  have HV' : Hid _ := hv'
  clear henv hv hv' ht
  cases h : Lib.atoiAll x.data.toList with
  | ok v =>
    have hn : Hid (number x = (v, Lib.itoa v == x.toList)) := by simp only [Hid, number, h]
    have hbd := Lib.atoiAll_bounds h
    have H := hide (h)
    clear h
    go_enter Tryz.func98, Tryz.ntmps98
    go_wp2_with fail
    refine (Tryz.strconv_Atoi_ok x (by omega) v H.out _).mono ?_
    rintro e w1 ⟨rfl, hw⟩
    have hb1 : Fr No w w1 := by
      rcases hw with rfl | ⟨t, rfl⟩
      · exact Fr.refl _ _
      · exact fr_below (Lib.bytesWorld_below _ _ _)
    have he1 := HE.out.fr hb1 h3 (fun _ _ e => e)
    have HB1 := hide hb1
    have HE1 := hide he1
    clear hw hb1 he1
    go_wp2_with fail
    refine (itoa_any v _ hbd.1 hbd.2 HE1.out).mono ?_
    rintro e w2 ⟨rfl, hb2⟩
    have HB2 := hide (HB1.out.trans hb2)
    clear hb2
    go_wp2_with fail
    go_ret2
    exact ⟨ret_num2 hn.out, HB2.out⟩
  | range =>
    have hn : Hid (number x = (Lib.atoiSat x.data.toList, false)) := by simp only [Hid, number, h]
    have H := hide (h)
    clear h
    go_enter Tryz.func98, Tryz.ntmps98
    go_wp2_with fail
    refine (Tryz.strconv_Atoi_range_var x (by omega) H.out tp' p' _ HV'.out).mono ?_
    rintro e w1 ⟨N, rfl, _, _, hb1⟩
    have HB1 : Hid (Fr No w w1) := fr_below hb1
    clear hb1
    go_wp2_with fail
    go_ret2
    exact ⟨ret_num2 hn.out, HB1.out⟩
  | _ =>
    have hn : Hid (number x = (0, false)) := by simp only [Hid, number, h]
    have H := hide (h)
    clear h
    go_enter Tryz.func98, Tryz.ntmps98
    go_wp2_with fail
    refine (Tryz.strconv_Atoi_syntax_var x (by omega) H.out tp p _ HV.out).mono ?_
    rintro e w1 ⟨N, rfl, _, _, hb1⟩
    have HB1 : Hid (Fr No w w1) := fr_below hb1
    clear hb1
    go_wp2_with fail
    go_ret2
    exact ⟨ret_num2 hn.out, HB1.out⟩

theorem number_x : (number ⟨#[120]⟩).2 = false := by
  have e : (match Lib.atoiAll (⟨#[120]⟩ : ByteArray).data.toList with | .ok _ => false | _ => true) = true := rfl
  unfold number
  cases h : Lib.atoiAll (⟨#[120]⟩ : ByteArray).data.toList with
  | ok v => rw [h] at e; exact absurd (show false = true from e) (by decide)
  | range => rfl
  | _ => rfl

theorem infoT : (Tryz.prog.info? 32).map (·.size) = some 7 := by kernel_rfl
theorem retT {fn : Func} {p : Tmp} (h : fn.results = #[.cell p 32]) (tmps : Array Value) (w : World) (g : Nat) (u0 u1 u2 u3 u4 u5 u6 : Value) (z : Nat × Nat) (hp : tmps.getD p undef = .pointer (some ⟨g, 0, none⟩)) (hg : w.heap[g]? = some (.cells #[u0, u1, u2, u3, u4, u5, u6] 32 z)) :
    (results fn tmps).run Tryz.prog w = .ok (.agg #[u0, u1, u2, u3, u4, u5, u6]) w := results_cell_row h tmps w g _ _ z _ hp hg Tryz.underlying32 rfl infoT
theorem set7 {w : World} {g : Nat} {x0 x1 x2 x3 x4 x5 x6 : Value} {t : TypeId} {z : Nat × Nat} (h : w.heap[g]? = some (.cells #[x0, x1, x2, x3, x4, x5, x6] t z)) (u0 u1 u2 u3 u4 u5 u6 : Value) :
    (((((((w.setCell ⟨g, 0, none⟩ u0).setCell ⟨g, 1, none⟩ u1).setCell ⟨g, 2, none⟩ u2).setCell ⟨g, 3, none⟩ u3).setCell ⟨g, 4, none⟩ u4).setCell ⟨g, 5, none⟩ u5).setCell ⟨g, 6, none⟩ u6).heap[g]? = some (.cells #[u0, u1, u2, u3, u4, u5, u6] t z) ∧
    Fr (· = g) w (((((((w.setCell ⟨g, 0, none⟩ u0).setCell ⟨g, 1, none⟩ u1).setCell ⟨g, 2, none⟩ u2).setCell ⟨g, 3, none⟩ u3).setCell ⟨g, 4, none⟩ u4).setCell ⟨g, 5, none⟩ u5).setCell ⟨g, 6, none⟩ u6) :=
  ⟨by simp [World.setCell, Array.getElem?_modify, h], (((((((Fr.refl (· = g) w).setCell (p := ⟨g, 0, none⟩) (.inl rfl) u0).setCell (p := ⟨g, 1, none⟩) (.inl rfl) u1).setCell (p := ⟨g, 2, none⟩) (.inl rfl) u2).setCell (p := ⟨g, 3, none⟩) (.inl rfl) u3).setCell (p := ⟨g, 4, none⟩) (.inl rfl) u4).setCell (p := ⟨g, 5, none⟩) (.inl rfl) u5).setCell (p := ⟨g, 6, none⟩) (.inl rfl) u6⟩

/-- What 'Term' has laid ahead. -/
structure TAhead (w W : World) (pb : Nat) (d : Int) : Prop where
  fr : Fr No w W
  p : W.heap[w.heap.size]? = some (.cells #[.pointer (some ⟨pb, 0, none⟩)] 88 (0, 0))
  d : W.heap[w.heap.size + 1]? = some (.cells #[.int .i64 d] 3 (0, 0))
  r : W.heap[w.heap.size + 1 + 1]? = some (.cells #[.int .i64 0, .int .i64 0, .string ⟨#[]⟩, .string ⟨#[]⟩, .slice none 0 0, .slice none 0 0, .slice none 0 0] 32 (0, 0))
theorem tahead_new (w : World) (pb : Nat) (d : Int) : TAhead w (((w.alloc (.cells #[.pointer (some ⟨pb, 0, none⟩)] 88)).alloc (.cells #[.int .i64 d] 3)).alloc (.cells #[.int .i64 0, .int .i64 0, .string ⟨#[]⟩, .string ⟨#[]⟩, .slice none 0 0, .slice none 0 0, .slice none 0 0] 32)) pb d := by
  refine ⟨(((Fr.refl No w).alloc _).alloc _).alloc _, fr_heap (heap_alloc_new w _) (((Fr.refl No _).alloc _).alloc _) (fun e => e), ?_, ?_⟩
  · have h := heap_alloc_new (w.alloc (.cells #[.pointer (some ⟨pb, 0, none⟩)] 88)) (.cells #[.int .i64 d] 3)
    rw [World.size_alloc] at h
    exact fr_heap h ((Fr.refl No _).alloc _) (fun e => e)
  · have h := heap_alloc_new ((w.alloc (.cells #[.pointer (some ⟨pb, 0, none⟩)] 88)).alloc (.cells #[.int .i64 d] 3)) (.cells #[.int .i64 0, .int .i64 0, .string ⟨#[]⟩, .string ⟨#[]⟩, .slice none 0 0, .slice none 0 0, .slice none 0 0] 32)
    rw [World.size_alloc, World.size_alloc] at h
    exact h
theorem TAhead.step {w W W' : World} {pb : Nat} {d : Int} (h : TAhead w W pb d) {T : Nat → Prop} (hf : Fr T W W') (hT : ∀ i, w.heap.size ≤ i → ¬ T i) : W'.heap[w.heap.size]? = some (.cells #[.pointer (some ⟨pb, 0, none⟩)] 88 (0, 0)) ∧ W'.heap[w.heap.size + 1]? = some (.cells #[.int .i64 d] 3 (0, 0)) ∧ W'.heap[w.heap.size + 1 + 1]? = some (.cells #[.int .i64 0, .int .i64 0, .string ⟨#[]⟩, .string ⟨#[]⟩, .slice none 0 0, .slice none 0 0, .slice none 0 0] 32 (0, 0)) :=
  ⟨fr_heap h.p hf (hT _ (Nat.le_refl _)), fr_heap h.d hf (hT _ (by omega)), fr_heap h.r hf (hT _ (by omega))⟩
theorem pkb_self {S : ByteArray} {at' a k : Nat} (h : pkb S at' a k = true) : pkb S a a k = true := by
  unfold pkb at h ⊢
  simp only [Bool.and_eq_true, decide_eq_true_eq, List.all_eq_true, List.mem_range] at h ⊢
  obtain ⟨⟨⟨⟨h1, h2, h3⟩, h4⟩, h5⟩, h6⟩ := h
  exact ⟨⟨⟨⟨Nat.le_refl _, h2, h3⟩, fun j hj => by simp [hj]⟩, h5⟩, h6⟩

end Go.Proofs.YtomahbdidlglfacGreatDoor
