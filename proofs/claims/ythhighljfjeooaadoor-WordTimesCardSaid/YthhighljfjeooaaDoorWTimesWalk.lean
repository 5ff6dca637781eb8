/- WordTimes: its walk: whatever the list and the number, it answers true and old memory stays. -/
import Derived.Test.YthhighljfjeooaaDoorLawWord
import Derived.Test.YthhighljfjeooaaDoorWordG
namespace Go.Proofs.YthhighljfjeooaaDoor
open Go.RowKit Go.Extern.Stop Go.Stop Go.Extern WordM NatM

theorem perW_times {l : List Int} {m : Nat} (h0 : 0 < l.length) (hm : 1 ≤ m) : perW (timesW l m) = perW l ∧ 1 ≤ perW l ∧ perW l ∣ l.length := by
  have hex : ∃ p, IsPer l p := by
    have : ∀ k, (∃ q, 1 ≤ q ∧ q ≤ k ∧ q ∣ l.length ∧ Per l q) → ∃ p, IsPer l p := by
      intro k
      induction k with
      | zero => rintro ⟨q, h1, h2, _⟩; omega
      | succ k ih =>
        rintro ⟨q, h1, h2, h3, h4⟩
        by_cases hk : ∃ q, 1 ≤ q ∧ q ≤ k ∧ q ∣ l.length ∧ Per l q
        · exact ih hk
        · have hq : q = k + 1 := by
            rcases (by omega : q ≤ k ∨ q = k + 1) with h5 | h5
            · exact absurd ⟨q, h1, h5, h3, h4⟩ hk
            · exact h5
          exact ⟨q, h1, h3, h4, fun r r1 r2 r3 => hk ⟨r, r1, by omega, r3.1, r3.2⟩⟩
    exact this l.length ⟨l.length, h0, Nat.le_refl _, Nat.dvd_refl _, per_len l⟩
  obtain ⟨p, hp⟩ := hex
  have h1 : (timesW l m).length ≠ 0 := by
    rw [timesW_length]
    have := Nat.mul_pos hm h0
    omega
  rw [perW_eq (by omega) hp, perW_eq h1 (isPer_times hm hp)]
  exact ⟨rfl, hp.1, hp.2.1⟩

set_option maxRecDepth 100000 in
set_option maxHeartbeats 8000000 in
theorem wtimes_neg (z : Int) (p : Option Addr) (n c : Nat) (w : World) (A : Nat → Addr) (hr : Roots w A) (hz : z < 0) :
    Calls Tryd.prog 8 #[.slice p n c, .int .i64 z] w (Tells (.bool true) w) := by
  have HR := Lib.hid hr
  clear hr
  go_enter Tryd.func8, Tryd.ntmps8
  go_wp2_with fail
  refine (awakeW _).mono ?_
  rintro e w1 ⟨rfl, hb1⟩
  have S1 := Lib.hid (And.intro hb1 (HR.out.below hb1))
  clear hb1
  go_wp2_with fail
  refine (times_neg p n c z w1 A S1.out.2 hz).mono ?_
  rintro e w2 ⟨b2, rfl, _, hb2⟩
  have S2 := Lib.hid (S1.out.1.trans (hb2.mono S1.out.1.size))
  clear hb2
  go_wp2_with fail
  go_ret
  exact ⟨rfl, S2.out⟩
set_option maxRecDepth 100000 in
set_option maxHeartbeats 8000000 in
theorem wtimes_big (m : Nat) (p : Option Addr) (n c : Nat) (w : World) (A : Nat → Addr) (hr : Roots w A) (hm : m ≤ 9223372036854775807) (hn : n ≤ 17592186043904) (h0 : 0 < n) (hbig : 4096 / n < m) :
    Calls Tryd.prog 8 #[.slice p n c, .int .i64 (m : Int)] w (Tells (.bool true) w) := by
  have hprod : 4096 < m * n := by
    have h1 := Nat.lt_mul_div_succ 4096 h0
    have h2 : n * (4096 / n + 1) ≤ n * m := Nat.mul_le_mul_left _ hbig
    rw [Nat.mul_comm m n]
    omega
  have HB := Lib.hid (And.intro hr hbig)
  by_cases h4 : 4096 < m
  · clear hr hbig hprod
    go_enter Tryd.func8, Tryd.ntmps8
    go_wp2_with fail
    refine (awakeW _).mono ?_
    rintro e w1 ⟨rfl, hb1⟩
    have S1 := Lib.hid (And.intro hb1 (HB.out.1.below hb1))
    clear hb1
    go_wp2_with fail
    refine (times_big p n c m w1 A S1.out.2 (by omega) h0 HB.out.2).mono ?_
    rintro e w2 ⟨b2, rfl, _, hb2⟩
    have S2 := Lib.hid (S1.out.1.trans (hb2.mono S1.out.1.size))
    clear hb2
    go_wp2_with fail
    go_ret
    exact ⟨rfl, S2.out⟩
  · have hpl : m * n ≤ 4096 * 17592186043904 := Nat.mul_le_mul (by omega) hn
    obtain ⟨T, hT⟩ : ∃ T, m * n = T := ⟨_, rfl⟩
    rw [hT] at hprod hpl
    have hTi : (m : Int) * (n : Int) = (T : Int) := by rw [← hT]; exact (Int.natCast_mul ..).symm
    have hdT : decide ((4096 : Int) < (T : Int)) = true := by rw [decide_eq_true_iff]; omega
    clear hr hbig hT
    go_enter Tryd.func8, Tryd.ntmps8
    go_wp2_with fail
    refine (awakeW _).mono ?_
    rintro e w1 ⟨rfl, hb1⟩
    have S1 := Lib.hid (And.intro hb1 (HB.out.1.below hb1))
    clear hb1
    go_wp2_with fail
    refine (times_big p n c m w1 A S1.out.2 (by omega) h0 HB.out.2).mono ?_
    rintro e w2 ⟨b2, rfl, _, hb2⟩
    have S2 := Lib.hid (S1.out.1.trans (hb2.mono S1.out.1.size))
    clear hb2
    go_wp2_with fail
    go_ret
    exact ⟨rfl, S2.out⟩
set_option maxRecDepth 100000 in
set_option maxHeartbeats 8000000 in
theorem wtimes_none (m : Nat) (p : Option Addr) (c : Nat) (w : World) (h : IntV w.heap.size w p c []) (hm : m ≤ 9223372036854775807) :
    Calls Tryd.prog 8 #[.slice p 0 c, .int .i64 (m : Int)] w (Tells (.bool true) w) := by
  have HB := Lib.hid h
  clear h
  have hdm : decide ((m : Int) < 0) = false := by rw [decide_eq_false_iff_not]; omega
  go_enter Tryd.func8, Tryd.ntmps8
  go_wp2_with fail
  refine (awakeW _).mono ?_
  rintro e w1 ⟨rfl, hb1⟩
  have S1 := Lib.hid (And.intro hb1 (HB.out.next hb1))
  clear hb1
  go_wp2_with fail
  refine (times_ok p 0 c m [] w1 rfl S1.out.2 hm (Or.inl rfl)).mono ?_
  rintro e w2 ⟨p2, c2, rfl, ho2, hb2⟩
  rw [show (timesW [] m).length = 0 by rw [timesW_length]; rfl]
  have S2 := Lib.hid (S1.out.1.trans (hb2.mono S1.out.1.size))
  clear hb2 ho2
  go_wp2_with fail
  go_ret
  exact ⟨rfl, S2.out⟩
set_option maxRecDepth 100000 in
set_option maxHeartbeats 8000000 in
theorem wtimes_ok (m : Nat) (p : Option Addr) (n c : Nat) (l : List Int) (w : World) (hn : n = l.length) (h : IntV w.heap.size w p c l) (hm : m ≤ 9223372036854775807) (h0 : 0 < n) (hs : m ≤ 4096 / n) :
    Calls Tryd.prog 8 #[.slice p n c, .int .i64 (m : Int)] w (Tells (.bool true) w) := by
  have hle := h.le
  have hcap := h.cap
  unfold maxLen at hcap
  have hnc : n ≤ c := by omega
  have hprod : m * n ≤ 4096 := by
    have h1 := Nat.mul_le_mul_left n hs
    have h2 := Nat.mul_div_le 4096 n
    rw [Nat.mul_comm]
    omega
  obtain ⟨T, hT⟩ : ∃ T, m * n = T := ⟨_, rfl⟩
  rw [hT] at hprod
  have hTi : (m : Int) * (n : Int) = (T : Int) := by rw [← hT]; exact (Int.natCast_mul ..).symm
  have hTl : (timesW l m).length = T := by rw [timesW_length, ← hn, hT]
  have S0 := Lib.hid (And.intro ((Si.start w).push h) (And.intro hn (And.intro hs (And.intro hT hTl))))
  have hdm : decide ((m : Int) < 0) = false := by rw [decide_eq_false_iff_not]; omega
  have hm4 : m ≤ 4096 := Nat.le_trans hs (Nat.div_le_self _ _)
  clear h hn hs hT hTl hle
  go_enter Tryd.func8, Tryd.ntmps8
  go_wp2_with fail
  refine (awakeW _).mono ?_
  rintro e w1 ⟨rfl, hb1⟩
  have S1 := Lib.hid (S0.out.1.next hb1)
  clear hb1
  go_wp2_with fail
  refine (times_ok p n c m l w1 S0.out.2.1 (S1.out.get 0 rfl) hm (Or.inr S0.out.2.2.1)).mono ?_
  rintro e w2 ⟨p2, c2, rfl, ho2, hb2⟩
  rw [S0.out.2.2.2.2]
  have S2 := Lib.hid ((S1.out.next hb2).push ho2.toV)
  clear hb2 ho2
  have hn0' : ((n : Int) == 0) = false := by rw [beq_eq_false_iff_ne]; omega
  have hd4 : decide ((4096 : Int) < (T : Int)) = false := by rw [decide_eq_false_iff_not]; omega
  go_wp2_with fail
  go_loopw [7] (fun v wr => ∃ i : Nat, i ≤ T ∧ v = .int .i64 (i : Int) ∧ Below w2.heap.size w2 wr) (fun v _ => T - (intOf v).toNat)
  case atStart => exact ⟨0, Nat.zero_le _, rfl, Below.refl _ _⟩
  case round =>
    obtain ⟨i, hi, rfl, hb⟩ := hrel
    by_cases hlt : i < T
    · obtain ⟨bx, ox, rfl, hbx, hcx⟩ := ((S2.out.next hb).get 0 rfl).cell (by have := S0.out.2.2.2.2; rintro h; rw [h] at this; simp at this; omega)
      obtain ⟨bw, ow, rfl, hbw, hcw⟩ := ((S2.out.next hb).get 1 rfl).cell (by have := S0.out.2.1; rintro rfl; simp at this; omega)
      obtain ⟨r, hr⟩ : ∃ r, i % n = r := ⟨_, rfl⟩
      have hrn : r < n := by rw [← hr]; exact Nat.mod_lt _ h0
      obtain ⟨y, hy⟩ := getI (l := l) (k := r) (by have := S0.out.2.1; omega)
      have hx : (timesW l m)[i]? = some y := by
        rw [timesW_get l m i (by have h1 := S0.out.2.2.2.1; have h2 := S0.out.2.1; rw [← h2, h1]; exact hlt)]
        rw [← hy, ← F_mod, ← S0.out.2.1, hr, F_get (by have := S0.out.2.1; omega)]
      have h1 := hcx i y hx
      have h2 := hcw r y hy
      have e2 : (i : Int) % (n : Int) = (r : Int) := by rw [← hr]; rfl
      have e1 : (i : Int).tmod (n : Int) = (r : Int) := by rw [Int.tmod_eq_emod_of_nonneg (by omega), e2]
      have hT2 : T ≤ c2 := by have := (S2.out.get 0 rfl).le; have := S0.out.2.2.2.2; omega
      have hc2m : c2 ≤ 9223372036854775807 := by have := (S2.out.get 0 rfl).cap; unfold maxLen at this; omega
      clear hcx hcw hr hy hx
      go_wp2_with fail
      go_quiet (fail)
      go_wp2_with fail
      go_roundw
      case rel => exact ⟨i + 1, by omega, by go_num, below_drewN hb _⟩
      case measure => simp [intOf]; omega
    · obtain rfl : i = T := by omega
      have S3 := Lib.hid (S2.out.next hb)
      clear hb
      rcases Nat.eq_zero_or_pos m with rfl | hm1
      · have hz0 : ((0 : Int) == 0) = true := rfl
        go_wp2_with fail
        go_ret
        exact ⟨rfl, S3.out.below⟩
      · have hm0 : ((m : Int) == 0) = false := by rw [beq_eq_false_iff_ne]; omega
        by_cases h400 : 400 < i
        · have hd400 : decide ((400 : Int) < (i : Int)) = true := by rw [decide_eq_true_iff]; omega
          go_wp2_with fail
          go_ret
          exact ⟨rfl, S3.out.below⟩
        · have hd400 : decide ((400 : Int) < (i : Int)) = false := by rw [decide_eq_false_iff_not]; omega
          have hpw := perW_times (l := l) (m := m) (by have := S0.out.2.1; omega) hm1
          obtain ⟨q, hq⟩ : ∃ q, perW l = q := ⟨_, rfl⟩
          rw [hq] at hpw
          have hq0 : 1 ≤ q := hpw.2.1
          have hmod : (n : Int) % (q : Int) = 0 := by
            have : n % q = 0 := Nat.mod_eq_zero_of_dvd (by rw [S0.out.2.1]; exact hpw.2.2)
            omega
          have hmod2 : (n : Int).tmod (q : Int) = 0 := by rw [Int.tmod_eq_emod_of_nonneg (by omega), hmod]
          have hqn : q ≤ n := by
            have := Nat.le_of_dvd (by have := S0.out.2.1; omega) hpw.2.2
            have := S0.out.2.1; omega
          have hnl : l.length ≤ 17592186044000 := by
            have h1 := S0.out.2.1
            have h2 := S0.out.2.2.2.1
            have h3 : n * 1 ≤ n * m := Nat.mul_le_mul_left _ hm1
            rw [Nat.mul_comm n m] at h3
            omega
          have hpx : ∀ W, IntV W.heap.size W p2 c2 (timesW l m) → Calls Tryd.prog 25 #[.slice p2 i c2] W (Tells (.int .i64 (q : Int)) W) := fun W hW => by
            have h := Quiet.tells (period_any p2 i c2 (timesW l m) W S0.out.2.2.2.2.symm hW (by rw [S0.out.2.2.2.2]; omega))
            rwa [hpw.1] at h
          have hpl : ∀ W, IntV W.heap.size W p c l → Calls Tryd.prog 25 #[.slice p n c] W (Tells (.int .i64 (q : Int)) W) := fun W hW => by
            have h := Quiet.tells (period_any p n c l W S0.out.2.1 hW hnl)
            rwa [hq] at h
          have HP := Lib.hid (And.intro hpx hpl)
          clear hpx hpl hpw hq hnl
          go_wp2_with fail
          refine (HP.out.1 _ (S3.out.get 0 rfl)).mono ?_
          rintro e w4 ⟨rfl, hb4⟩
          have S4 := Lib.hid (S3.out.next hb4)
          clear hb4
          go_wp2_with fail
          refine (HP.out.1 _ (S4.out.get 0 rfl)).mono ?_
          rintro e w5 ⟨rfl, hb5⟩
          have S5 := Lib.hid (S4.out.next hb5)
          clear hb5
          go_wp2_with fail
          refine (HP.out.2 _ (S5.out.get 1 rfl)).mono ?_
          rintro e w6 ⟨rfl, hb6⟩
          have S6 := Lib.hid (S5.out.next hb6)
          clear hb6
          go_wp2_with fail
          go_ret
          exact ⟨rfl, S6.out.below⟩
/-- WordTimes, whatever came in -/
theorem wtimes_any (p : Option Addr) (c : Nat) (l : List Int) (z : Int) (w : World) (A : Nat → Addr) (hr : Roots w A) (h : IntV w.heap.size w p c l) (hl : l.length ≤ 17592186043904) (hz : z ≤ 9223372036854775807) :
    Calls Tryd.prog 8 #[.slice p l.length c, .int .i64 z] w (Tells (.bool true) w) := by
  rcases Int.lt_or_le z 0 with hz0 | hz0
  · exact wtimes_neg z p l.length c w A hr hz0
  · obtain ⟨m, rfl⟩ : ∃ m : Nat, z = (m : Int) := ⟨z.toNat, by omega⟩
    rcases Nat.eq_zero_or_pos l.length with h0 | h0
    · have hl0 := List.eq_nil_of_length_eq_zero h0
      subst hl0
      exact wtimes_none m p c w h (by omega)
    · rcases Nat.lt_or_ge (4096 / l.length) m with h1 | h1
      · exact wtimes_big m p l.length c w A hr (by omega) hl h0 h1
      · exact wtimes_ok m p l.length c l w rfl h (by omega) h0 h1
end Go.Proofs.YthhighljfjeooaaDoor
