/- The document's reader: 'bad', 'blank', 'Peek', walked. -/
import Derived.Laws.ResultCell
import Derived.Laws.Rows
import Derived.Test.YtdcdegeeaakekacDoorO1O2
import Derived.Test.YtdcdegeeaakekacDoorN1Pc
import Derived.Test.YtdcdegeeaakekacDoorS1RsKh
namespace Go.Proofs.YtdcdegeeaakekacDoor
open Go.RowKit Go.Maps Go.WideMaps

/-- The reader: its text, the place, what is wrong. -/
def PS (pb : Nat) (S : ByteArray) (at' : Nat) (err : Int) (w : World) : Prop := w.heap[pb]? = some (.cells #[.string S, .int .i64 at', .int .i64 err] 99 (0, 0))

theorem PS.fr {pb : Nat} {S : ByteArray} {at' : Nat} {err : Int} {w w' : World} {T : Nat → Prop} (h : PS pb S at' err w) (hf : Fr T w w') (hT : ¬ T pb) : PS pb S at' err w' := fr_heap h hf hT
theorem PS.setAt {pb : Nat} {S : ByteArray} {at' : Nat} {err : Int} {w : World} (h : PS pb S at' err w) (n : Nat) : PS pb S n err (w.setCell ⟨pb, 1, none⟩ (.int .i64 n)) := by
  unfold PS at h ⊢; simp [World.setCell, Array.getElem?_modify, h]
theorem PS.setErr {pb : Nat} {S : ByteArray} {at' : Nat} {err : Int} {w : World} (h : PS pb S at' err w) (e : Int) : PS pb S at' e (w.setCell ⟨pb, 2, none⟩ (.int .i64 e)) := by
  unfold PS at h ⊢; simp [World.setCell, Array.getElem?_modify, h]

theorem pbad_any (pb : Nat) (S : ByteArray) (at' : Nat) (err e : Int) (w : World) (h : PS pb S at' err w) :
    Calls Tryd.prog 96 #[.pointer (some ⟨pb, 0, none⟩), .int .i64 e] w fun r w' => r = .returned (.tuple #[]) ∧ Fr (· = pb) w w' ∧ PS pb S at' (if err = 0 then e else err) w' := by
  have c := cell_of_heap h
  have z := frozen_of_heap h
  have hl := lt_of_heap h
  have H := hide h
  clear h
  by_cases h0 : err = 0
  · subst h0
    rw [if_pos rfl]
    go_enter Tryd.func96, Tryd.ntmps96
    go_wp2_with fail
    go_end0
    exact ⟨rfl, (Fr.refl (· = pb) w).setCell (p := ⟨pb, 2, none⟩) (.inl rfl) _, H.out.setErr e⟩
  · rw [if_neg h0]
    go_enter Tryd.func96, Tryd.ntmps96
    go_wp2_with fail
    go_end0
    exact ⟨rfl, Fr.refl _ w, H.out⟩

def isBl (c : UInt8) : Bool := decide ((c.toNat : Int) = 32) || decide ((c.toNat : Int) = 9) || decide ((c.toNat : Int) = 10)
def isBr (c : UInt8) : Bool := decide ((c.toNat : Int) = 40) || decide ((c.toNat : Int) = 41)

theorem blank_any (c : UInt8) (w : World) : Calls Tryd.prog 94 #[.int .u8 (c.toNat : Int)] w fun r w' => r = .returned (.bool (isBl c)) ∧ w' = w := by
  by_cases h1 : (c.toNat : Int) = 32
  · have e : isBl c = true := by simp [isBl, h1]
    rw [e, h1]
    go_enter Tryd.func94, Tryd.ntmps94
    go_wp2_with fail
    go_ret
    exact ⟨rfl, rfl⟩
  by_cases h2 : (c.toNat : Int) = 9
  · have e : isBl c = true := by simp [isBl, h2]
    rw [e, h2]
    go_enter Tryd.func94, Tryd.ntmps94
    go_wp2_with fail
    go_ret
    exact ⟨rfl, rfl⟩
  have e : isBl c = decide ((c.toNat : Int) = 10) := by simp [isBl, h1, h2]
  rw [e]
  obtain ⟨n, hn⟩ : ∃ n : Int, n = (c.toNat : Int) := ⟨_, rfl⟩
  rw [← hn] at h1 h2 ⊢
  clear e hn
  have h1' : (n == 32) = false := by simpa using h1
  have h2' : (n == 9) = false := by simpa using h2
  go_enter Tryd.func94, Tryd.ntmps94
  go_wp2_with fail
  go_ret
  exact ⟨by first | rfl | (by_cases h : n = 10 <;> simp [h]), rfl⟩

def blAt (S : ByteArray) (j : Nat) : Bool := if h : j < S.size then isBl S[j] else false
def brAt (S : ByteArray) (j : Nat) : Bool := if h : j < S.size then isBr S[j] else false
/-- From a place the next word begins at a, and ends ahead of k. -/
def pkb (S : ByteArray) (at' a k : Nat) : Bool :=
  decide (at' ≤ a ∧ a ≤ k ∧ k ≤ S.size) && (List.range a).all (fun j => decide (j < at') || blAt S j) && !blAt S a &&
  (if brAt S a then decide (k = a + 1) else (List.range k).all (fun j => decide (j < a) || (!blAt S j && !brAt S j)) && (decide (k = S.size) || blAt S k || brAt S k))

theorem blAt_eq {S : ByteArray} {j : Nat} (h : j < S.size) : blAt S j = isBl S[j] := by unfold blAt; rw [dif_pos h]
theorem brAt_eq {S : ByteArray} {j : Nat} (h : j < S.size) : brAt S j = isBr S[j] := by unfold brAt; rw [dif_pos h]

/-- The word. -/
def wd (S : ByteArray) (a k : Nat) : ByteArray := S.extract a k

theorem slice_wd (S : ByteArray) (a k : Nat) (h1 : a ≤ k) (h2 : k ≤ S.size) (u : World) : (Instr.slice 9 (.string S) (some (.int .i64 (a : Int))) (some (.int .i64 (k : Int))) none).run Tryd.prog u = .ok (.string (wd S a k)) u := by
  have := run_slice_string (P := Tryd.prog) u 9 S .i64 .i64 (a : Int) (k : Int) Tryd.underlying9 (by omega) (by omega) (by omega)
  simpa [wd] using this

set_option maxRecDepth 100000 in
set_option maxHeartbeats 2000000 in
theorem peek_any (pb : Nat) (S : ByteArray) (at' a k : Nat) (err : Int) (w : World) (h : PS pb S at' err w) (hS : S.size ≤ 1600) (hp : pkb S at' a k = true) :
    Calls Tryd.prog 70 #[.pointer (some ⟨pb, 0, none⟩)] w fun r w' => r = .returned (.string (wd S a k)) ∧ Fr (· = pb) w w' ∧ PS pb S a err w' := by
  unfold pkb at hp
  simp only [Bool.and_eq_true, decide_eq_true_eq, Bool.not_eq_true', List.all_eq_true, List.mem_range] at hp
  obtain ⟨⟨⟨⟨hle, hak, hks⟩, hbl⟩, hnb⟩, hword⟩ := hp
  have H := hide h
  have HBL : Hid (∀ j, at' ≤ j → j < a → blAt S j = true) := fun j h1 h2 => by
    have := hbl j h2
    simp at this
    rcases this with h | h
    · omega
    · exact h
  have HNB := hide hnb
  have HWORD := hide hword
  clear h hbl hnb hword
  go_enter Tryd.func70, Tryd.ntmps70
  go_wp2_with fail
  go_loopg [] (a - at' + 1) (fun gn wr => ∃ i : Nat, at' ≤ i ∧ i ≤ a ∧ gn = a - i + 1 ∧ Fr (· = pb) w wr ∧ PS pb S i err wr)
  case atStart => exact ⟨at', Nat.le_refl _, hle, rfl, Fr.refl _ _, H.out⟩
  case round =>
    obtain ⟨i, hi1, hi2, hgk, hf, hps⟩ := hrel
    have c := cell_of_heap hps
    have z := frozen_of_heap hps
    have hl := lt_of_heap hps
    have HPS := hide hps
    have HF := hide hf
    have HGK := hide hgk
    clear hps hf hgk
    by_cases hia : i < a
    · have his : i < S.size := by omega
      have hbl := HBL.out i hi1 hia
      rw [blAt_eq his] at hbl
      have i1 : decide ((i : Int) < (S.size : Int)) = true := by simp; omega
      have i2 : (i : Int) < (S.size : Int) := by omega
      have i0 : (0 : Int) ≤ (i : Int) := by omega
      have CB : Hid (∀ u, Calls Tryd.prog 94 #[.int .u8 (S[i].toNat : Int)] u fun r w' => r = .returned (.bool true) ∧ w' = u) := fun u => by rw [← hbl]; exact blank_any _ u
      clear hbl
      go_wp2_with fail
      go_quiet ((go_at_call 94; exact Calls.quiet_of_same (CB.out _)))
      go_wp2_with fail
      go_roundg (a - (i + 1) + 1)
      case measure => have := HGK.out; omega
      case rel =>
        refine ⟨i + 1, by omega, by omega, rfl, ?_, ?_⟩
        · exact (HF.out.drewN nq).setCell (p := ⟨pb, 1, none⟩) (.inl rfl) _
        · have := (HPS.out.fr (T := No) ((Fr.refl No wr).drewN nq) (fun e => e)).setAt (i + 1)
          simpa using this
    · have hi : i = a := by omega
      subst hi
      by_cases his : i < S.size
      · have hnb := HNB.out
        rw [blAt_eq his] at hnb
        have i1 : decide ((i : Int) < (S.size : Int)) = true := by simp; omega
        have i2 : (i : Int) < (S.size : Int) := by omega
        have i0 : (0 : Int) ≤ (i : Int) := by omega
        have CB : Hid (∀ u, Calls Tryd.prog 94 #[.int .u8 (S[i].toNat : Int)] u fun r w' => r = .returned (.bool false) ∧ w' = u) := fun u => by rw [← hnb]; exact blank_any _ u
        clear hnb
        go_wp2_with fail
        go_quiet ((go_at_call 94; exact Calls.quiet_of_same (CB.out _)))
        clear CB
        by_cases hbr : isBr S[i] = true
        · have hk : k = i + 1 := by have h := HWORD.out; rw [brAt_eq his, if_pos hbr] at h; simpa using h
          subst hk
          have hsl : ∀ u : World, (Instr.slice 9 (.string S) (some (.int .i64 (i : Int))) (some (.int .i64 ((i : Int) + 1))) none).run Tryd.prog u = .ok (.string (wd S i (i + 1))) u := fun u => by
            have := slice_wd S i (i + 1) hak hks u
            simpa using this
          by_cases h40 : (S[i].toNat : Int) = 40
          · have d40 : ((S[i].toNat : Int) == 40) = true := by simp [h40]
            clear h40 hbr
            go_wp2_with fail
            go_ret
            exact ⟨rfl, HF.out.drewN nq, HPS.out.fr (T := No) ((Fr.refl No wr).drewN nq) (fun e => e)⟩
          · have d40 : ((S[i].toNat : Int) == 40) = false := by simpa using h40
            have h41 : (S[i].toNat : Int) = 41 := by simp [isBr] at hbr; omega
            have d41 : ((S[i].toNat : Int) == 41) = true := by simp [h41]
            clear h40 hbr h41
            go_wp2_with fail
            go_ret
            exact ⟨rfl, HF.out.drewN nq, HPS.out.fr (T := No) ((Fr.refl No wr).drewN nq) (fun e => e)⟩
        · have hbr : isBr S[i] = false := by simpa using hbr
          have hw := HWORD.out
          rw [brAt_eq his, hbr, if_neg (by decide)] at hw
          simp only [Bool.and_eq_true, List.all_eq_true, List.mem_range] at hw
          obtain ⟨hin, hend⟩ := hw
          have HIN : Hid (∀ j, i ≤ j → j < k → blAt S j = false ∧ brAt S j = false) := fun j h1 h2 => by
            have := hin j h2
            simp at this
            rcases this with h | h
            · omega
            · exact h
          have HEND := hide hend
          have d40 : ((S[i].toNat : Int) == 40) = false := by simp [isBr] at hbr; simp; omega
          have d41 : ((S[i].toNat : Int) == 41) = false := by simp [isBr] at hbr; simp; omega
          have hps2 : PS pb S i err (wr.drewN nq) := HPS.out.fr (T := No) ((Fr.refl No wr).drewN nq) (fun e => e)
          have hf2 : Fr (· = pb) w (wr.drewN nq) := HF.out.drewN nq
          have HPS2 := hide hps2
          have HF2 := hide hf2
          clear hbr hin hend hps2 hf2 HWORD HBL
          go_wp2_with fail
          go_loopg [3] (k - i + 1) (fun gn v wr' => ∃ j : Nat, i ≤ j ∧ j ≤ k ∧ gn = k - j + 1 ∧ v = .int .i64 (j : Int) ∧ ∃ n, wr' = wr.drewN n)
          case atStart => exact ⟨i, Nat.le_refl _, hak, rfl, rfl, nq, rfl⟩
          case round =>
            obtain ⟨j, hj1, hj2, hgj, rfl, n, rfl⟩ := hrel
            have HGJ := hide hgj
            clear hgj
            by_cases hjk : j < k
            · have hjs : j < S.size := by omega
              obtain ⟨b1, b2⟩ := HIN.out j hj1 hjk
              rw [blAt_eq hjs] at b1
              rw [brAt_eq hjs] at b2
              have j1 : decide ((j : Int) < (S.size : Int)) = true := by simp; omega
              have j2 : (j : Int) < (S.size : Int) := by omega
              have j0 : (0 : Int) ≤ (j : Int) := by omega
              have e40 : ((S[j].toNat : Int) != 40) = true := by simp [isBr] at b2; simp; omega
              have e41 : ((S[j].toNat : Int) != 41) = true := by simp [isBr] at b2; simp; omega
              have CB : Hid (∀ u, Calls Tryd.prog 94 #[.int .u8 (S[j].toNat : Int)] u fun r w' => r = .returned (.bool false) ∧ w' = u) := fun u => by rw [← b1]; exact blank_any _ u
              clear b1 b2
              go_wp2_with fail
              refine (CB.out _).mono ?_
              rintro e w7 ⟨rfl, rfl⟩
              go_wp2_with fail
              go_roundg (k - (j + 1) + 1)
              case measure => have := HGJ.out; omega
              case rel => exact ⟨j + 1, by omega, by omega, rfl, by go_num, _, rfl⟩
            · have hjk' : j = k := by omega
              subst hjk'
              have hsl : ∀ u : World, (Instr.slice 9 (.string S) (some (.int .i64 (i : Int))) (some (.int .i64 (j : Int))) none).run Tryd.prog u = .ok (.string (wd S i j)) u := fun u => slice_wd S i j hak hks u
              by_cases hjs : j < S.size
              · have j1 : decide ((j : Int) < (S.size : Int)) = true := by simp; omega
                have j2 : (j : Int) < (S.size : Int) := by omega
                have j0 : (0 : Int) ≤ (j : Int) := by omega
                have hend := HEND.out
                rw [blAt_eq hjs, brAt_eq hjs] at hend
                have hend' : isBl S[j] = true ∨ isBr S[j] = true := by
                  simp at hend
                  rcases hend with (h | h) | h
                  · omega
                  · exact .inl h
                  · exact .inr h
                obtain ⟨bb, hbb⟩ : ∃ bb, bb = isBl S[j] := ⟨_, rfl⟩
                have CB : Hid (∀ u, Calls Tryd.prog 94 #[.int .u8 (S[j].toNat : Int)] u fun r w' => r = .returned (.bool bb) ∧ w' = u) := fun u => by rw [hbb]; exact blank_any _ u
                rw [← hbb] at hend'
                have HE' := hide hend'
                clear hend hend' hbb
                cases bb with
                | true =>
                  go_wp2_with fail
                  refine (CB.out _).mono ?_
                  rintro e w7 ⟨rfl, rfl⟩
                  go_wp2_with fail
                  go_quiet (fail)
                  go_wp2_with fail
                  go_ret
                  exact ⟨rfl, (HF.out.drewN n).drewN nq, HPS.out.fr (T := No) (((Fr.refl No wr).drewN n).drewN nq) (fun e => e)⟩
                | false =>
                  have hbr' : isBr S[j] = true := by have := HE'.out; simpa using this
                  by_cases h40 : (S[j].toNat : Int) = 40
                  · have e40 : ((S[j].toNat : Int) != 40) = false := by simp [h40]
                    clear h40 hbr'
                    go_wp2_with fail
                    refine (CB.out _).mono ?_
                    rintro e w7 ⟨rfl, rfl⟩
                    go_wp2_with fail
                    go_quiet (fail)
                    go_wp2_with fail
                    go_ret
                    exact ⟨rfl, (HF.out.drewN n).drewN nq, HPS.out.fr (T := No) (((Fr.refl No wr).drewN n).drewN nq) (fun e => e)⟩
                  · have e40 : ((S[j].toNat : Int) != 40) = true := by simpa using h40
                    have h41 : (S[j].toNat : Int) = 41 := by simp [isBr] at hbr'; omega
                    have e41 : ((S[j].toNat : Int) != 41) = false := by simp [h41]
                    clear h40 hbr' h41
                    go_wp2_with fail
                    refine (CB.out _).mono ?_
                    rintro e w7 ⟨rfl, rfl⟩
                    go_wp2_with fail
                    go_quiet (fail)
                    go_wp2_with fail
                    go_ret
                    exact ⟨rfl, (HF.out.drewN n).drewN nq, HPS.out.fr (T := No) (((Fr.refl No wr).drewN n).drewN nq) (fun e => e)⟩
              · have hsz : j = S.size := by omega
                subst hsz
                have j1 : decide ((S.size : Int) < (S.size : Int)) = false := by simp
                go_wp2_with fail
                go_quiet (fail)
                go_wp2_with fail
                go_ret
                exact ⟨rfl, (HF.out.drewN n).drewN nq, HPS.out.fr (T := No) (((Fr.refl No wr).drewN n).drewN nq) (fun e => e)⟩
      · have hsz : i = S.size := by omega
        subst hsz
        have hk : k = S.size := by omega
        subst hk
        have i1 : decide ((S.size : Int) < (S.size : Int)) = false := by simp
        go_wp2_with fail
        go_quiet (fail)
        have hps2 : PS pb S S.size err (wr.drewN nq) := HPS.out.fr (T := No) ((Fr.refl No wr).drewN nq) (fun e => e)
        have hf2 : Fr (· = pb) w (wr.drewN nq) := HF.out.drewN nq
        have hsl : ∀ u : World, (Instr.slice 9 (.string S) (some (.int .i64 (S.size : Int))) (some (.int .i64 (S.size : Int))) none).run Tryd.prog u = .ok (.string (wd S S.size S.size)) u := fun u => slice_wd S S.size S.size (Nat.le_refl _) (Nat.le_refl _) u
        have HPS2 := hide hps2
        have HF2 := hide hf2
        clear hps2 hf2 HWORD HBL
        go_wp2_with fail
        go_loopg [3] 1 (fun gn v wr' => gn = 1 ∧ v = .int .i64 (S.size : Int) ∧ wr' = wr.drewN nq)
        case atStart => exact ⟨rfl, rfl, rfl⟩
        case round =>
          obtain ⟨_, rfl, rfl⟩ := hrel
          go_wp2_with fail
          go_quiet (fail)
          go_wp2_with fail
          go_ret
          exact ⟨rfl, HF2.out.drewN _, HPS2.out.fr (T := No) ((Fr.refl No _).drewN _) (fun e => e)⟩

/-- What 'Next' does at a word that is there. -/
theorem pnext_any (pb : Nat) (S : ByteArray) (at' a k : Nat) (err : Int) (w : World) (h : PS pb S at' err w) (hS : S.size ≤ 1600) (hp : pkb S at' a k = true) (hak : a < k) (hks : k ≤ S.size) :
    Calls Tryd.prog 95 #[.pointer (some ⟨pb, 0, none⟩)] w fun r w' => r = .returned (.string (wd S a k)) ∧ Fr (· = pb) w w' ∧ PS pb S k err w' := by
  have hl := lt_of_heap h
  have hsz : (wd S a k).size = k - a := by unfold wd; rw [ByteArray.size_extract]; omega
  have hne : ¬ wd S a k = ⟨#[]⟩ := fun e => by have h0 : (⟨#[]⟩ : ByteArray).size = 0 := rfl; rw [e, h0] at hsz; omega
  have hne' := str_ne' hne
  have CP := hide (peek_any pb S at' a k err w h hS hp)
  obtain ⟨x, hx⟩ : ∃ x, x = wd S a k := ⟨_, rfl⟩
  rw [← hx] at CP hne' hsz ⊢
  have HSZ := hide hsz
  have hne2 : x.toList.isEmpty = false := by
    cases hh : x.toList with
    | nil => rw [hh, ByteArray.toList_eq] at hne'; simp at hne'
    | cons a l => rfl
  clear hx hne hsz h hne'
  go_enter Tryd.func95, Tryd.ntmps95
  go_wp2_with fail
  refine CP.out.mono ?_
  rintro e w1 ⟨rfl, hf1, hps1⟩
  have c := cell_of_heap hps1
  have z := frozen_of_heap hps1
  have hl1 := lt_of_heap hps1
  have HF1 := hide hf1
  have HPS1 := hide hps1
  have hxs : x.size ≤ 1600 := by have := HSZ.out; omega
  clear hf1 hps1 CP
  go_wp2_with fail
  go_ret
  refine ⟨rfl, HF1.out.setCell (p := ⟨pb, 1, none⟩) (.inl rfl) _, ?_⟩
  have := HPS1.out.setAt k
  have e : ((k : Nat) : Int) = (a : Int) + (x.size : Int) := by have := HSZ.out; omega
  rw [e] at this
  exact this

theorem pwant_any (pb : Nat) (S x : ByteArray) (at' a k : Nat) (err : Int) (w : World) (h : PS pb S at' err w) (hS : S.size ≤ 1600) (hp : pkb S at' a k = true) (hak : a < k) (hks : k ≤ S.size) (hx : wd S a k = x) :
    Calls Tryd.prog 71 #[.pointer (some ⟨pb, 0, none⟩), .string x] w fun r w' => r = .returned (.tuple #[]) ∧ Fr (· = pb) w w' ∧ PS pb S k err w' := by
  have CN := pnext_any pb S at' a k err w h hS hp hak hks
  rw [hx] at CN
  have HCN := hide CN
  clear CN h
  go_enter Tryd.func71, Tryd.ntmps71
  go_wp2_with fail
  refine HCN.out.mono ?_
  rintro e w1 ⟨rfl, hf1, hps1⟩
  have HF1 := hide hf1
  have HPS1 := hide hps1
  clear hf1 hps1 HCN
  go_wp2_with fail
  go_end0
  exact ⟨rfl, HF1.out, HPS1.out⟩

theorem pname_any (pb : Nat) (S : ByteArray) (at' a k : Nat) (err : Int) (w : World) (h : PS pb S at' err w) (hS : S.size ≤ 1600) (hp : pkb S at' a k = true) (hak : a < k) (hks : k ≤ S.size) (hn : isName (wd S a k) = true) :
    Calls Tryd.prog 72 #[.pointer (some ⟨pb, 0, none⟩)] w fun r w' => r = .returned (.string (wd S a k)) ∧ Fr (· = pb) w w' ∧ PS pb S k err w' := by
  have CN := hide (pnext_any pb S at' a k err w h hS hp hak hks)
  have hsz : (wd S a k).size ≤ maxLen := by unfold wd maxLen; rw [ByteArray.size_extract]; omega
  obtain ⟨x, hx⟩ : ∃ x, x = wd S a k := ⟨_, rfl⟩
  rw [← hx] at CN hn hsz ⊢
  have CM : Hid (∀ u, Calls Tryd.prog 25 #[.string x] u fun e w' => e = .returned (.bool true) ∧ ∃ n, w' = u.drewN n) := fun u => by rw [← hn]; exact name_any x u hsz
  clear hx hn hsz h
  go_enter Tryd.func72, Tryd.ntmps72
  go_wp2_with fail
  refine CN.out.mono ?_
  rintro e w1 ⟨rfl, hf1, hps1⟩
  have HF1 := hide hf1
  have HPS1 := hide hps1
  clear hf1 hps1 CN
  go_wp2_with fail
  refine (CM.out _).mono ?_
  rintro e w2 ⟨rfl, n, rfl⟩
  go_wp2_with fail
  go_ret
  exact ⟨rfl, HF1.out.drewN n, HPS1.out.fr (T := No) ((Fr.refl No w1).drewN n) (fun e => e)⟩
end Go.Proofs.YtdcdegeeaakekacDoor
