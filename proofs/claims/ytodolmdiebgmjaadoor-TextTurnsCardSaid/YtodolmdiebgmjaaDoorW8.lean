/- 'split', walked. -/
import Derived.Test.YtodolmdiebgmjaaDoorW7
namespace Go.Proofs.YtodolmdiebgmjaaDoor
open Go.RowKit

set_option maxHeartbeats 400000 in
theorem between_any (c : UInt8) (w : World) :
    Calls Tryd.prog 34 #[.int .u8 c.toNat] w fun e w' => e = .returned (.bool (Pu.isBl c)) ∧ w' = w := by
  have e1 : Pu.isBl c = (((c.toNat : Int) == 32) || ((c.toNat : Int) == 10) || ((c.toNat : Int) == 9)) := by
    unfold Pu.isBl; rw [Bool.eq_iff_iff]; simp; omega
  have E1 := hide e1
  clear e1
  cases h1 : ((c.toNat : Int) == 32) <;> cases h2 : ((c.toNat : Int) == 10) <;> cases h3 : ((c.toNat : Int) == 9)
  all_goals
    go_enter Tryd.func34, Tryd.ntmps34
    go_wp2
    go_ret
    exact ⟨ret_bool (by rw [E1.out, h1, h2, h3]; rfl), rfl⟩

theorem getD_at (s : ByteArray) (k : Nat) (h : k < s.size) : s.data.getD k 0 = s[k] := by
  rw [Array.getD]; exact dif_pos h

set_option maxHeartbeats 1000000 in
theorem split_any (s : ByteArray) (w : World) (hs : s.size ≤ 1500) :
    Calls Tryd.prog 16 #[.string s] w fun e w' => ∃ v, e = .returned v ∧ w'.ownsRow w.heap.size 9 1 v (Pu.split s).length ((Pu.split s).map .string) ∧ Below w.heap.size w w' := by
  obtain ⟨i0, hi, hz0, hz1, hz2⟩ := info_parts Tryd.info9
  go_enter Tryd.func16, Tryd.ntmps16
  go_wp2_with fail
  go_loopw [3, 4, 9] (fun v st i wr => ∃ k : Nat, k ≤ s.size ∧ i = .int .i64 k ∧ st = .int .i64 ((Pu.splitTo s k).2 : Nat) ∧ wr.ownsRow w.heap.size 9 1 v (Pu.splitTo s k).1.length ((Pu.splitTo s k).1.map .string) ∧ Below w.heap.size w wr) (fun _ _ i _ => s.size - (intOf i).toNat)
  case atStart => exact ⟨0, Nat.zero_le _, rfl, rfl, World.ownsRow_nil _ _ _ _, Below.refl _ _⟩
  case round =>
    obtain ⟨k, hk, rfl, rfl, hown, hb⟩ := hrel
    obtain ⟨l1, l2⟩ := Pu.splitTo_le s k
    have hbs := hb.size
    have HO := hide hown
    clear hown
    by_cases hlt : k < s.size
    · have hstep : Hid (Pu.splitTo s (k + 1) = if Pu.isBr s[k] = true then ((if (Pu.splitTo s k).2 < k then (Pu.splitTo s k).1 ++ [s.extract (Pu.splitTo s k).2 k] else (Pu.splitTo s k).1) ++ [s.extract k (k + 1)], k + 1)
          else if Pu.isBl s[k] = true then ((if (Pu.splitTo s k).2 < k then (Pu.splitTo s k).1 ++ [s.extract (Pu.splitTo s k).2 k] else (Pu.splitTo s k).1), k + 1) else Pu.splitTo s k) := by
        simp only [Hid]; rw [Pu.splitTo, getD_at s k hlt]
      have hbr : Pu.isBr s[k] = (((s[k].toNat : Int) == 40) || ((s[k].toNat : Int) == 41)) := by
        unfold Pu.isBr; rw [Bool.eq_iff_iff]; simp; omega
      generalize hst : (Pu.splitTo s k).2 = st at *
      generalize hac : (Pu.splitTo s k).1 = acc at *
      have HS := hide hst
      have HA := hide hac
      clear hst hac
      cases h0 : Pu.isBr s[k]
      · rw [h0] at hbr
        obtain ⟨q1, q2⟩ := Bool.or_eq_false_iff.1 hbr.symm
        clear hbr
        cases h1 : Pu.isBl s[k]
        · have hE : Hid (Pu.splitTo s (k + 1) = Pu.splitTo s k) := by have := hstep.out; simp only [Hid]; rw [this, h0, h1]; simp
          clear hstep
          go_wp2_with (go_at_call 34; refine (between_any _ _).mono ?_; rintro e w' ⟨rfl, hw'⟩; obtain rfl := hw'.symm)
          go_roundw
          case rel => exact ⟨k + 1, by omega, by go_num, by rw [hE.out, HS.out], by rw [hE.out, HA.out]; exact HO.out, hb⟩
          case measure => simp [intOf]; omega
        · by_cases hsk : st < k
          · have hE : Hid (Pu.splitTo s (k + 1) = (acc ++ [s.extract st k], k + 1)) := by have := hstep.out; simp only [Hid]; rw [this, h0, h1]; simp [hsk]
            clear hstep
            go_wp2_with (first | (go_at_call 34; refine (between_any _ _).mono ?_; rintro e w' ⟨rfl, hw'⟩; obtain rfl := hw'.symm) | (at_builtin; refine wpList_append_own _ rfl _ _ 29 rfl w.heap.size 9 i0 (.string ⟨#[]⟩) 1 16 Tryd.underlying29 hi hz0 hz1 hz2 rfl (by decide) _ _ _ rfl (HO.out.alloc _) ⟨wr.heap.size, 0, none⟩ 1 1 [.string (s.extract st k)] rfl rfl ?c1a ?c2a ?c3a ?c4a ?c5a ?_))
            case c1a =>
              intro j u hj
              match j, hj with
              | 0, hj => simp at hj; subst hj; simp [Addr.add]
            case c2a => intro u hu; simp at hu; subst hu; rfl
            case c3a => unfold maxLen; omega
            case c4a => omega
            case c5a => simp; omega
            intro v5 w5 hown5 hgrow5 _
            have HO5 := hide hown5
            have HG5 := hide hgrow5
            have hs5 := hgrow5.size
            rw [World.size_alloc] at hs5
            clear hown5 hgrow5
            go_wp2_with fail
            go_roundw
            case rel => exact ⟨k + 1, by omega, by go_num, by rw [hE.out]; go_num, by rw [hE.out]; simpa using HO5.out, (hb.alloc hb.size _).grown HG5.out (by simp; omega) (ownBlock_ge HO.out)⟩
            case measure => simp [intOf]; omega
          · have hE : Hid (Pu.splitTo s (k + 1) = (acc, k + 1)) := by have := hstep.out; simp only [Hid]; rw [this, h0, h1]; simp [hsk]
            clear hstep
            go_wp2_with (go_at_call 34; refine (between_any _ _).mono ?_; rintro e w' ⟨rfl, hw'⟩; obtain rfl := hw'.symm)
            go_roundw
            case rel => exact ⟨k + 1, by omega, by go_num, by rw [hE.out]; go_num, by rw [hE.out]; exact HO.out, hb⟩
            case measure => simp [intOf]; omega
      · rw [h0] at hbr
        have hq : ((s[k].toNat : Int) == 40) = true ∨ (((s[k].toNat : Int) == 40) = false ∧ ((s[k].toNat : Int) == 41) = true) := by
          cases h : ((s[k].toNat : Int) == 40)
          · rw [h] at hbr; exact .inr ⟨rfl, by simpa using hbr.symm⟩
          · exact .inl rfl
        clear hbr
        by_cases hsk : st < k
        · have hE : Hid (Pu.splitTo s (k + 1) = (acc ++ [s.extract st k] ++ [s.extract k (k + 1)], k + 1)) := by have := hstep.out; simp only [Hid]; rw [this, h0]; simp [hsk]
          clear hstep
          rcases hq with q1 | ⟨q1, q2⟩
          all_goals
            go_wp2_with ((at_builtin; refine wpList_append_own _ rfl _ _ 29 rfl w.heap.size 9 i0 (.string ⟨#[]⟩) 1 16 Tryd.underlying29 hi hz0 hz1 hz2 rfl (by decide) _ _ _ rfl (HO.out.alloc _) ⟨wr.heap.size, 0, none⟩ 1 1 [.string (s.extract st k)] rfl rfl ?c1a ?c2a ?c3a ?c4a ?c5a ?_))
            case c1a =>
              intro j u hj
              match j, hj with
              | 0, hj => simp at hj; subst hj; simp [Addr.add]
            case c2a => intro u hu; simp at hu; subst hu; rfl
            case c3a => unfold maxLen; omega
            case c4a => omega
            case c5a => simp; omega
            intro v5 w5 hown5 hgrow5 _
            have HO5 := hide hown5
            have HG5 := hide hgrow5
            have hs5 := hgrow5.size
            rw [World.size_alloc] at hs5
            clear hown5 hgrow5
            go_wp2_with ((at_builtin; refine wpList_append_own _ rfl _ _ 29 rfl w.heap.size 9 i0 (.string ⟨#[]⟩) 1 16 Tryd.underlying29 hi hz0 hz1 hz2 rfl (by decide) _ _ _ rfl (HO5.out.alloc _) ⟨w5.heap.size, 0, none⟩ 1 1 [.string (s.extract k (k + 1))] rfl rfl ?c1b ?c2b ?c3b ?c4b ?c5b ?_))
            case c1b =>
              intro j u hj
              match j, hj with
              | 0, hj => simp at hj; subst hj; simp [Addr.add]
            case c2b => intro u hu; simp at hu; subst hu; rfl
            case c3b => unfold maxLen; omega
            case c4b => omega
            case c5b => simp; omega
            intro v6 w6 hown6 hgrow6 _
            have HO6 := hide hown6
            have HG6 := hide hgrow6
            have hs6 := hgrow6.size
            rw [World.size_alloc] at hs6
            clear hown6 hgrow6
            go_wp2_with fail
            go_roundw
            case rel => exact ⟨k + 1, by omega, by go_num, by rw [hE.out]; go_num, by rw [hE.out]; simpa using HO6.out, (((hb.alloc hb.size _).grown HG5.out (by simp; omega) (ownBlock_ge HO.out)).alloc (by omega) _).grown HG6.out (by simp; omega) (ownBlock_ge HO5.out)⟩
            case measure => simp [intOf]; omega
        · have hE : Hid (Pu.splitTo s (k + 1) = (acc ++ [s.extract k (k + 1)], k + 1)) := by have := hstep.out; simp only [Hid]; rw [this, h0]; simp [hsk]
          clear hstep
          rcases hq with q1 | ⟨q1, q2⟩
          all_goals
            go_wp2_with ((at_builtin; refine wpList_append_own _ rfl _ _ 29 rfl w.heap.size 9 i0 (.string ⟨#[]⟩) 1 16 Tryd.underlying29 hi hz0 hz1 hz2 rfl (by decide) _ _ _ rfl (HO.out.alloc _) ⟨wr.heap.size, 0, none⟩ 1 1 [.string (s.extract k (k + 1))] rfl rfl ?c1a ?c2a ?c3a ?c4a ?c5a ?_))
            case c1a =>
              intro j u hj
              match j, hj with
              | 0, hj => simp at hj; subst hj; simp [Addr.add]
            case c2a => intro u hu; simp at hu; subst hu; rfl
            case c3a => unfold maxLen; omega
            case c4a => omega
            case c5a => simp; omega
            intro v5 w5 hown5 hgrow5 _
            have HO5 := hide hown5
            have HG5 := hide hgrow5
            have hs5 := hgrow5.size
            rw [World.size_alloc] at hs5
            clear hown5 hgrow5
            go_wp2_with fail
            go_roundw
            case rel => exact ⟨k + 1, by omega, by go_num, by rw [hE.out]; go_num, by rw [hE.out]; simpa using HO5.out, (hb.alloc hb.size _).grown HG5.out (by simp; omega) (ownBlock_ge HO.out)⟩
            case measure => simp [intOf]; omega
    · have hks : k = s.size := by omega
      subst hks
      generalize hst : (Pu.splitTo s s.size).2 = st at *
      generalize hac : (Pu.splitTo s s.size).1 = acc at *
      have HS := hide hst
      have HA := hide hac
      clear hst hac
      by_cases hsk : st < s.size
      · have hE : Hid (Pu.split s = acc ++ [s.extract st s.size]) := by simp only [Hid, Pu.split]; rw [HS.out, HA.out, if_pos hsk]
        go_wp2_with ((at_builtin; refine wpList_append_own _ rfl _ _ 29 rfl w.heap.size 9 i0 (.string ⟨#[]⟩) 1 16 Tryd.underlying29 hi hz0 hz1 hz2 rfl (by decide) _ _ _ rfl (HO.out.alloc _) ⟨wr.heap.size, 0, none⟩ 1 1 [.string (s.extract st s.size)] rfl rfl ?c1a ?c2a ?c3a ?c4a ?c5a ?_))
        case c1a =>
          intro j u hj
          match j, hj with
          | 0, hj => simp at hj; subst hj; simp [Addr.add]
        case c2a => intro u hu; simp at hu; subst hu; rfl
        case c3a => unfold maxLen; omega
        case c4a => omega
        case c5a => simp; omega
        intro v5 w5 hown5 hgrow5 _
        have HO5 := hide hown5
        have HG5 := hide hgrow5
        have hs5 := hgrow5.size
        rw [World.size_alloc] at hs5
        clear hown5 hgrow5
        go_wp2_with fail
        go_ret
        exact ⟨_, rfl, by rw [hE.out]; simpa using HO5.out, (hb.alloc hb.size _).grown HG5.out (by simp; omega) (ownBlock_ge HO.out)⟩
      · have hE : Hid (Pu.split s = acc) := by simp only [Hid, Pu.split]; rw [HS.out, HA.out, if_neg hsk]
        go_wp2_with fail
        go_ret
        exact ⟨_, rfl, by rw [hE.out]; exact HO.out, hb⟩

end Go.Proofs.YtodolmdiebgmjaaDoor
