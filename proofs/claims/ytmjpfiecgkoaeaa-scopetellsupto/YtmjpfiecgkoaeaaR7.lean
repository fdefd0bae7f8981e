/- The document's 'Wrong': what is wrong with a term, as a plain function; what is wrong at once. -/
import Derived.Test.YtmjpfiecgkoaeaaR6
namespace Go.Proofs.Ytmjpfiecgkoaeaa
open Go.RowKit Go.Maps Go.WideMaps

/-- What 'Wrong' answers at terms of k levels. -/
def RWrongC (k : Nat) : Prop := ∀ (B Bn m K : Nat) (w : World) (cs : List Value) (t : Pu.TT k) (nv : Value) (nm : List ByteArray) (fns : ByteArray → Option Int) (c : Pu.Cnt) (d : Nat), RT k B w cs t → Names Bn w nv nm → MapC w m K fns → Agree c nm → B ≤ w.heap.size → d ≤ 25 → nm.length + Pu.wt k t ≤ 1073741824 →
  Calls Try.prog 43 #[.map (some m), .agg cs.toArray, nv, .int .i64 d] w fun e w' => e = .returned (.int .i64 (Pu.term fns k c t d)) ∧ Fr No w w'
/-- The same, of one kind of terms. -/
def RWrongK (k : Nat) (kd : Int) : Prop := ∀ (B Bn m K : Nat) (w : World) (cs : List Value) (t : Pu.TT (k + 1)) (nv : Value) (nm : List ByteArray) (fns : ByteArray → Option Int) (c : Pu.Cnt) (d : Nat), RT (k + 1) B w cs t → Pu.Node.kind t = kd → Names Bn w nv nm → MapC w m K fns → Agree c nm → B ≤ w.heap.size → ¬ 24 < d → nm.length + Pu.wt (k + 1) t ≤ 1073741824 →
  Calls Try.prog 43 #[.map (some m), .agg cs.toArray, nv, .int .i64 d] w fun e w' => e = .returned (.int .i64 (Pu.term fns (k + 1) c t d)) ∧ Fr No w w'

section
variable {k d : Nat} {fns : ByteArray → Option Int} {c : Pu.Cnt} {t : Pu.Node (Pu.TT k)}
theorem term_5 (hd : ¬ 24 < d) (hk : ¬ (t.kind < 1 ∨ 7 < t.kind)) (hf : Pu.fits t = false) : Pu.term fns (k + 1) c t d = 5 := by
  have : Pu.own fns c t d = 5 := by unfold Pu.own; rw [if_neg hd, if_neg hk, if_pos hf]
  show Pu.termN _ _ _ _ _ = _
  unfold Pu.termN
  rw [this]; rfl
theorem term_e {e : Int} (hd : ¬ 24 < d) (hk : ¬ (t.kind < 1 ∨ 7 < t.kind)) (hf : Pu.fits t = true) (ha : Pu.alone fns c t = e) (he : e ≠ 0) : Pu.term fns (k + 1) c t d = e := by
  have : Pu.own fns c t d = e := by unfold Pu.own; rw [if_neg hd, if_neg hk, if_neg (by rw [hf]; decide), ha]
  show Pu.termN _ _ _ _ _ = _
  unfold Pu.termN
  rw [this, if_neg he]
theorem term_0 (hd : ¬ 24 < d) (hk : ¬ (t.kind < 1 ∨ 7 < t.kind)) (hf : Pu.fits t = true) (ha : Pu.alone fns c t = 0) : Pu.term fns (k + 1) c t d =
    (if Pu.chkArgs (Pu.term fns k) c (decide (t.kind = 6)) t.name (d + 1) 0 t.args = 0 then (if t.kind = 7 then Pu.cases' (Pu.term fns k) c (d + 1) t.cases else 0)
    else Pu.chkArgs (Pu.term fns k) c (decide (t.kind = 6)) t.name (d + 1) 0 t.args) := by
  have : Pu.own fns c t d = 0 := by unfold Pu.own; rw [if_neg hd, if_neg hk, if_neg (by rw [hf]; decide), ha]
  show Pu.termN _ _ _ _ _ = _
  unfold Pu.termN
  rw [this, if_pos rfl]
theorem term_9 (hd : 24 < d) : Pu.term fns (k + 1) c t d = 9 := by
  have : Pu.own fns c t d = 9 := by unfold Pu.own; rw [if_pos hd]
  show Pu.termN _ _ _ _ _ = _
  unfold Pu.termN
  rw [this]; rfl
theorem term_1 (hd : ¬ 24 < d) (hk : t.kind < 1 ∨ 7 < t.kind) : Pu.term fns (k + 1) c t d = 1 := by
  have : Pu.own fns c t d = 1 := by unfold Pu.own; rw [if_neg hd, if_pos hk]
  show Pu.termN _ _ _ _ _ = _
  unfold Pu.termN
  rw [this]; rfl
end

set_option maxHeartbeats 4000000 in
set_option maxRecDepth 100000 in
theorem wrong_all (k : Nat) (h1 : RWrongK k 1) (h2 : RWrongK k 2) (h3 : RWrongK k 3) (h4 : RWrongK k 4) (h5 : RWrongK k 5) (h6 : RWrongK k 6) (h7 : RWrongK k 7) : RWrongC (k + 1) := by
  intro B Bn m K w cs t nv nm fns c d ht hnm hm ha hB hd hw
  by_cases hin : ¬ 24 < d ∧ 1 ≤ Pu.Node.kind t ∧ Pu.Node.kind t ≤ 7
  · obtain ⟨hd', hk1, hk7⟩ := hin
    have hk : Pu.Node.kind t = 1 ∨ Pu.Node.kind t = 2 ∨ Pu.Node.kind t = 3 ∨ Pu.Node.kind t = 4 ∨ Pu.Node.kind t = 5 ∨ Pu.Node.kind t = 6 ∨ Pu.Node.kind t = 7 := by omega
    rcases hk with h | h | h | h | h | h | h
    · exact h1 B Bn m K w cs t nv nm fns c d ht h hnm hm ha hB hd' hw
    · exact h2 B Bn m K w cs t nv nm fns c d ht h hnm hm ha hB hd' hw
    · exact h3 B Bn m K w cs t nv nm fns c d ht h hnm hm ha hB hd' hw
    · exact h4 B Bn m K w cs t nv nm fns c d ht h hnm hm ha hB hd' hw
    · exact h5 B Bn m K w cs t nv nm fns c d ht h hnm hm ha hB hd' hw
    · exact h6 B Bn m K w cs t nv nm fns c d ht h hnm hm ha hB hd' hw
    · exact h7 B Bn m K w cs t nv nm fns c d ht h hnm hm ha hB hd' hw
  obtain ⟨vv, av, cv, acs, ccs, rfl, hx, hnn, hvars, hr, he, hq, hf⟩ := ht
  obtain ⟨a0, d0, rfl, _⟩ := hvars.1.form
  obtain ⟨a1, d1, rfl, _⟩ := hr.form
  obtain ⟨a2, d2, rfl, _⟩ := hq.form
  obtain ⟨an0, cn0, rfl, _⟩ := hnm.1.form
  clear hx hnn hvars hr he hq hf hnm hm ha h1 h2 h3 h4 h5 h6 h7 hw
  show Calls Try.prog 43 #[.map (some m), .agg #[.int .i64 t.kind, .int .i64 t.n, .string t.name, .string t.token, .slice a0 t.vars.length d0, .slice a1 t.args.length d1, .slice a2 t.cases.length d2], .slice an0 nm.length cn0, .int .i64 d] w _
  by_cases h24 : 24 < d
  · have h24' : 24 < (d : Int) := by omega
    have hE : Pu.term fns (k + 1) c t d = 9 := term_9 h24
    rw [hE]
    clear hin h24 hE
    go_enter Try.func43, Try.ntmps43
    go_wp2_with fail
    go_ret
    exact ⟨rfl, (Fr.refl No w).alloc _⟩
  have h24' : ¬ 24 < (d : Int) := by omega
  by_cases hk1 : Pu.Node.kind t < 1
  · have hE : Pu.term fns (k + 1) c t d = 1 := term_1 h24 (.inl hk1)
    rw [hE]
    clear hE
    obtain ⟨kd, hkd⟩ : ∃ kd, kd = Pu.Node.kind t := ⟨_, rfl⟩
    rw [← hkd] at hk1 ⊢
    clear hin h24 hkd
    go_enter Try.func43, Try.ntmps43
    go_wp2_with fail
    go_ret
    exact ⟨rfl, (Fr.refl No w).alloc _⟩
  · have hk7 : 7 < Pu.Node.kind t := by omega
    have hE : Pu.term fns (k + 1) c t d = 1 := term_1 h24 (.inr hk7)
    rw [hE]
    clear hE
    obtain ⟨kd, hkd⟩ : ∃ kd, kd = Pu.Node.kind t := ⟨_, rfl⟩
    rw [← hkd] at hk1 hk7 ⊢
    clear hin h24 hkd
    go_enter Try.func43, Try.ntmps43
    go_wp2_with fail
    go_ret
    exact ⟨rfl, (Fr.refl No w).alloc _⟩
end Go.Proofs.Ytmjpfiecgkoaeaa
