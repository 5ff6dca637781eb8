/- FaultNumbers: its walk: whatever the number and the depth, it answers true and old memory stays. -/
import Derived.Test.YtmbgfcanchmmpaaDoorFaultL
namespace Go.Proofs.YtmbgfcanchmmpaaDoor
open Go.RowKit Go.Extern.Stop Go.Stop Go.Extern

theorem Ends.own {A : Nat → Addr} {m : Nat} {t : Tree} (h : Ends A m t) : Ends A m (.own t) := ⟨rfl, fun j h1 h2 => h.2 j h1 h2⟩
theorem Ends.shut {A : Nat → Addr} (t : Tree) : Ends A 0 (.shut t) := ⟨rfl, fun j h1 _ => by
  simp only [Tree.hits]
  exact (decide_eq_false (by omega)).symm⟩
theorem both_code {w : World} {A : Nat → Addr} (hr : Roots w A) {m : Nat} (hm : m ≤ 11) {t : Tree} (h : Ends A m t) {c : Int} (hc : IsCode A (.both (.leaf (A 11)) t) c) : c = if m = 0 then 11 else m := by
  have hh : ∀ j, 1 ≤ j → j ≤ 11 → (Tree.both (.leaf (A 11)) t).hits 94 (A j) = (decide (j = 11) || decide (j = m)) := fun j h1 h2 => by
    have e : (Tree.both (.leaf (A 11)) t).hits 94 (A j) = ((Tree.leaf (A 11)).hits 94 (A j) || t.hits 94 (A j)) := rfl
    rw [e, (Ends.leaf hr (m := 11) (Nat.le_refl _)).2 j h1 h2, h.2 j h1 h2]
  rcases hc with ⟨h1, _⟩ | ⟨_, k, hk1, hk2, rfl, hk, hj⟩ | ⟨_, rfl, hj⟩
  · cases h1
  · rw [hh k hk1 hk2] at hk
    have hor : k = 11 ∨ k = m := by simpa using hk
    by_cases h0 : m = 0
    · rw [if_pos h0]; omega
    · rw [if_neg h0]
      rcases Nat.lt_or_ge m k with h1 | h1
      · have := hj m (by omega) h1
        rw [hh m (by omega) hm] at this
        simp at this
      · omega
  · have := hj 11 (by decide) (by decide)
    rw [hh 11 (by decide) (by decide)] at this
    simp at this

def kn (n : Int) : Int := if 1 ≤ n ∧ n ≤ 11 then n else 99
theorem known_code (n : Int) : codeNum (known n) = kn n := by
  unfold codeNum known kn
  split
  · rw [if_neg (by omega)]; omega
  · rfl

theorem Known_any (n : Int) (w : World) :
    Calls Tryd.prog 26 #[.int .i64 n] w fun e w' => e = .returned (.int .i64 (kn n)) ∧ w = w' := by
  unfold kn
  by_cases h1 : 1 ≤ n
  · by_cases h2 : n ≤ 11
    · rw [if_pos ⟨h1, h2⟩]
      go_enter Tryd.func26, Tryd.ntmps26
      go_wp2
      go_ret
      exact ⟨rfl, rfl⟩
    · rw [if_neg (by omega)]
      go_enter Tryd.func26, Tryd.ntmps26
      go_wp2
      go_ret
      exact ⟨rfl, rfl⟩
  · rw [if_neg (by omega)]
    go_enter Tryd.func26, Tryd.ntmps26
    go_wp2
    go_ret
    exact ⟨rfl, rfl⟩

def mn (k : Int) : Int := if 11 < k then 11 else k
def NumRel (A : Nat → Addr) (m : Nat) (w : World) (v5 v6 : Value) : Prop :=
  ∃ (k : Nat) (t : Tree), v6 = .int .i64 k ∧ k ≤ 20 ∧ v5 = t.val ∧ t.lies w ∧ Ends A m t

set_option maxHeartbeats 2000000 in
theorem numbers_any (n d : Int) (w : World) (A : Nat → Addr) (hr : Roots w A) (hT : TypeVar w) :
    Calls Tryd.prog 6 #[.int .i64 n, .int .i64 d] w (AwakePost w) := by
  have HR := Lib.hid hr
  have HT := Lib.hid hT
  clear hr hT
  go_enter Tryd.func6, Tryd.ntmps6
  go_wp2_with fail
  refine (awake_any _ A HR.out HT.out).mono ?_
  rintro e w1 ⟨rfl, hb1⟩
  go_wp2_with fail
  refine (code_any .nil _ A True.intro (HR.out.below hb1)).mono ?_
  rintro e w2 ⟨c, rfl, hc, hb2⟩
  obtain rfl : c = 0 := by
    rcases hc with ⟨_, h⟩ | ⟨h, _⟩ | ⟨h, _⟩
    · exact h
    · cases h
    · cases h
  clear hc
  have hB2 : Below w.heap.size w w2 := hb1.trans (hb2.mono hb1.size)
  clear hb1 hb2
  by_cases hn : n = 0
  · subst hn
    go_wp2_with fail
    go_ret
    exact ⟨rfl, hB2⟩
  · go_wp2_with fail
    refine (new_tree _ _ _ _ A (HR.out.below hB2) hn).mono ?_
    rintro e w3 ⟨t0, rfl, hl0, he0, _, hb3⟩
    go_wp2_with fail
    have hX : (wrap64 (d.tmod 20 + 20)).tmod 20 < 20 := Int.tmod_lt_of_pos _ (by decide)
    generalize (wrap64 (d.tmod 20 + 20)).tmod 20 = X at hX ⊢
    have hB3 : Below w.heap.size w w3 := hB2.trans (hb3.mono hB2.size)
    have HQ := Lib.hid (And.intro hl0 he0)
    clear hb3 hB2 hl0 he0
    go_loop [5, 6] (fun v5 v6 => NumRel A (known n) w3 v5 v6) (fun _ i => 20 - (intOf i).toNat)
    case atStart => exact ⟨0, t0, rfl, by decide, rfl, HQ.out.1, HQ.out.2⟩
    case round =>
      obtain ⟨k, t, rfl, hk, rfl, hl, he⟩ := hrel
      have HE := Lib.hid (And.intro hl he)
      by_cases hlt : (k : Int) < X
      · obtain ⟨T, x, hv⟩ := Tree.val_held (t := t) (by rintro rfl; cases he.1)
        have HV := Lib.hid hv
        clear hl he
        rw [hv]
        clear hv
        go_wp2_with fail
        go_round
        case rel => exact ⟨k + 1, .own t, by go_num, by omega, by rw [← HV.out]; rfl, HE.out.1, HE.out.2.own⟩
        case measure => simp [intOf]; omega
      · clear hl he
        go_wp2_with fail
        refine (Known_any n _).mono ?_
        rintro e w4 ⟨rfl, rfl⟩
        go_wp2_with fail
        refine (code_any t _ A HE.out.1 (HR.out.below hB3)).mono ?_
        rintro e w4 ⟨c, rfl, hc, hb4⟩
        have hc1 : c = kn n := by rw [HE.out.2.code (known_le n) hc, known_code]
        subst hc1
        clear hc
        have hB4 : Below w.heap.size w w4 := hB3.trans (hb4.mono hB3.size)
        obtain ⟨T, x, hv⟩ := Tree.val_held (t := t) (by rintro rfl; cases HE.out.2.1)
        have HV := Lib.hid hv
        have HL4 := Lib.hid (Tree.lies_below hb4 (t := t) HE.out.1)
        rw [hv]
        clear hv hb4
        go_wp2_with fail
        have e1 : (Value.iface 60 (.agg #[.iface T x])) = (Tree.shut t).val := by rw [← HV.out]; rfl
        rw [e1]
        clear e1
        refine (code_any (.shut t) _ A HL4.out (HR.out.below hB4)).mono ?_
        rintro e w5 ⟨c, rfl, hc, hb5⟩
        obtain rfl : c = 99 := (Ends.shut t).code (by decide) hc
        clear hc
        have hB5 : Below w.heap.size w w5 := hB4.trans (hb5.mono hB4.size)
        have HL5 := Lib.hid (Tree.lies_below hb5 (t := t) HL4.out)
        have hg : w5.cell? ⟨0, 0, none⟩ = some (.iface 94 (.pointer (some (A 11)))) := (HR.out.below hB5).var 11 (by decide)
        clear hb5
        go_wp2_with fail
        have e1 : (Value.iface 62 (.agg #[.iface 94 (.pointer (some (A 11))), .iface T x])) = (Tree.both (.leaf (A 11)) t).val := by rw [← HV.out]; rfl
        rw [e1]
        clear e1
        refine (code_any (.both (.leaf (A 11)) t) _ A ⟨(HR.out.below hB5).there 11 (by decide), HL5.out⟩ (HR.out.below hB5)).mono ?_
        rintro e w6 ⟨c, rfl, hc, hb6⟩
        have hc1 := both_code HR.out (known_le n) HE.out.2 hc
        have hB6 : Below w.heap.size w w6 := hB5.trans (hb6.mono hB5.size)
        clear hc hb6
        have hKmin : c = mn (kn n) := by
          rw [hc1]
          unfold known kn mn
          by_cases h : 1 ≤ n ∧ n ≤ 11
          · rw [if_pos h, if_pos h]
            split <;> split <;> omega
          · rw [if_neg h, if_neg h]
            simp
        clear hc1
        by_cases h11 : 11 < kn n
        · obtain rfl : c = 11 := by rw [hKmin]; unfold mn; rw [if_pos h11]
          clear hKmin
          go_wp2_with fail
          go_ret
          exact ⟨rfl, hB6⟩
        · obtain rfl : c = kn n := by rw [hKmin]; unfold mn; rw [if_neg h11]
          clear hKmin
          go_wp2_with fail
          go_ret
          exact ⟨rfl, hB6⟩
end Go.Proofs.YtmbgfcanchmmpaaDoor
