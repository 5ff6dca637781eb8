/- Package word by its contracts: Least. -/
import Derived.Test.YthhighljfjeooaaDoorWordC
namespace Go.Proofs.YthhighljfjeooaaDoor
open Go.RowKit WordM

set_option maxRecDepth 100000 in
set_option maxHeartbeats 8000000 in
theorem least_any (p : Option Addr) (n c : Nat) (l : List Int) (w : World) (hn : n = l.length) (h : IntV w.heap.size w p c l) (hl : l.length ≤ 1000000) :
    Calls Tryd.prog 24 #[.slice p n c] w (Quiet (.int .i64 (leastW l : Int)) w) := by
  have hle := h.le
  have hcap := h.cap
  unfold maxLen at hcap
  have hnc : n ≤ c := by omega
  have hnl : n ≤ 1000000 := by omega
  have H := Lib.hid (And.intro h hn)
  clear h hn hl hle
  go_enter Tryd.func24, Tryd.ntmps24
  go_wp2_with fail
  go_loopw [4, 5, 6] (fun v4 v5 v6 wr => ∃ b r s : Nat, b ≤ n ∧ r ≤ 2 * n + 1 ∧ s ≤ n ∧ v4 = .int .i64 (b : Int) ∧ v5 = .int .i64 (r : Int) ∧ v6 = .int .i64 (s : Int) ∧ Hid (∃ a, wr = w.drewN a) ∧ Hid (Duel l b r s)) (fun v4 v5 v6 _ => 5 * n + 5 - ((intOf v4).toNat + (intOf v5).toNat + (intOf v6).toNat))
  case atStart => exact ⟨0, 1, 0, Nat.zero_le _, by omega, Nat.zero_le _, rfl, rfl, rfl, ⟨0, rfl⟩, duel_start l⟩
  case round =>
    obtain ⟨b, r, s, hbn, hrn, hsn, rfl, rfl, rfl, hdr, hD⟩ := hrel
    by_cases hr : r < n
    · by_cases hs : s < n
      · have hbr := hD.out.lt
        have hn0 : 0 < n := by omega
        have hbw : Below w.heap.size w wr := hdr.out.elim fun a e => e ▸ below_drewN (Below.refl _ _) a
        obtain ⟨bk, off, rfl, hbk, hc⟩ := (H.out.1.below hbw).cell (by have := H.out.2; rintro rfl; simp at this; omega)
        obtain ⟨i1, hi1⟩ : ∃ i, (b + s) % n = i := ⟨_, rfl⟩
        obtain ⟨i2, hi2⟩ : ∃ i, (r + s) % n = i := ⟨_, rfl⟩
        have h1n : i1 < n := by rw [← hi1]; exact Nat.mod_lt _ hn0
        have h2n : i2 < n := by rw [← hi2]; exact Nat.mod_lt _ hn0
        obtain ⟨x, hx⟩ : ∃ x, F l (b + s) = x := ⟨_, rfl⟩
        obtain ⟨y, hy⟩ : ∃ y, F l (r + s) = y := ⟨_, rfl⟩
        have hgx : l[i1]? = some x := by rw [← hx, ← F_mod, ← H.out.2, hi1, F_get (by have := H.out.2; omega)]
        have hgy : l[i2]? = some y := by rw [← hy, ← F_mod, ← H.out.2, hi2, F_get (by have := H.out.2; omega)]
        have hcx := hc i1 x hgx
        have hcy := hc i2 y hgy
        have e1 : ((b : Int) + (s : Int)) % (n : Int) = (i1 : Int) := by rw [← hi1]; rfl
        have e2 : ((r : Int) + (s : Int)) % (n : Int) = (i2 : Int) := by rw [← hi2]; rfl
        have t1 : ((b : Int) + (s : Int)).tmod (n : Int) = (i1 : Int) := by rw [Int.tmod_eq_emod_of_nonneg (by omega), e1]
        have t2 : ((r : Int) + (s : Int)).tmod (n : Int) = (i2 : Int) := by rw [Int.tmod_eq_emod_of_nonneg (by omega), e2]
        have w1 : IntKind.i64.wrap ((b : Int) + (s : Int)) = (b : Int) + (s : Int) := by rw [IntWalk.i64_in _ (by omega)]
        have w2 : IntKind.i64.wrap ((r : Int) + (s : Int)) = (r : Int) + (s : Int) := by rw [IntWalk.i64_in _ (by omega)]
        have hsl : s < l.length := by have := H.out.2; omega
        have HX := Lib.hid (And.intro hx (And.intro hy hsl))
        have hI1 : (i1 : Int) < (n : Int) := by omega
        have hI2 : (i2 : Int) < (n : Int) := by omega
        have hi1' : (0 : Int) ≤ (i1 : Int) := by omega
        have hi2' : (0 : Int) ≤ (i2 : Int) := by omega
        have hcI : (n : Int) ≤ (c : Int) := by omega
        clear hc hi1 hi2 hx hy hgx hgy hbw hsl
        have hcmp := fun W => compare_any x y W
        rcases (by omega : x < y ∨ y < x ∨ x = y) with hxy | hxy | hxy
        · simp only [cmpInt_lt hxy] at hcmp
          have HC := Lib.hid hcmp
          have hst := duel_less hD.out HX.out.2.2 (by rw [HX.out.1, HX.out.2.1]; exact hxy)
          have HS := Lib.hid hst
          clear hcmp hst
          go_wp2_with fail
          go_quiet ((go_at_call 68; first | exact quiet_add_left (HC.out _) | exact quiet_left (HC.out _)))
          go_wp2_with fail
          go_roundw
          case rel => exact ⟨b, r + s + 1, 0, hbn, by omega, by omega, rfl, by go_num, rfl, quiet_more hdr.out _, HS.out⟩
          case measure => simp [intOf]; omega
        · simp only [cmpInt_gt hxy] at hcmp
          have HC := Lib.hid hcmp
          have hst := duel_more hD.out HX.out.2.2 (by rw [HX.out.1, HX.out.2.1]; exact hxy)
          have HS := Lib.hid hst
          clear hcmp hst
          go_wp2_with fail
          go_quiet ((go_at_call 68; first | exact quiet_add_left (HC.out _) | exact quiet_left (HC.out _)))
          go_wp2_with fail
          go_roundw
          case rel => exact ⟨r, max (b + s) r + 1, 0, by omega, by omega, by omega, rfl, by congr 1; omega, rfl, quiet_more hdr.out _, HS.out⟩
          case measure => simp [intOf]; omega
        · subst hxy
          simp only [cmpInt_self] at hcmp
          have HC := Lib.hid hcmp
          have hst := duel_same hD.out (by rw [HX.out.1, HX.out.2.1])
          have HS := Lib.hid hst
          clear hcmp hst
          go_wp2_with fail
          go_quiet ((go_at_call 68; first | exact quiet_add_left (HC.out _) | exact quiet_left (HC.out _)))
          go_wp2_with fail
          go_roundw
          case rel => exact ⟨b, r, s + 1, hbn, hrn, by omega, rfl, rfl, by go_num, quiet_more hdr.out _, HS.out⟩
          case measure => simp [intOf]; omega
      · have hlw : leastW l = b := (duel_alike hD.out (by have := H.out.2; omega) (leastW_is (by have := H.out.2; omega))).symm
        have HL := Lib.hid hlw
        have hds : decide ((s : Int) < (n : Int)) = false := by rw [decide_eq_false_iff_not]; omega
        have hds2 : decide (s < n) = false := by rw [decide_eq_false_iff_not]; omega
        clear hlw
        go_wp2_with fail
        go_ret
        exact ⟨by rw [HL.out]; rfl, hdr.out⟩
    · have hlw : leastW l = b := by
        rcases Nat.eq_zero_or_pos n with h0 | h0
        · have hl0 : l = [] := List.eq_nil_of_length_eq_zero (by have := H.out.2; omega)
          rw [hl0, leastW_nil]; omega
        · exact (duel_done hD.out (by have := H.out.2; omega) (leastW_is (by have := H.out.2; omega))).symm
      have HL := Lib.hid hlw
      have hds : decide ((r : Int) < (n : Int)) = false := by rw [decide_eq_false_iff_not]; omega
      have hds2 : decide (r < n) = false := by rw [decide_eq_false_iff_not]; omega
      clear hlw
      go_wp2_with fail
      go_ret
      exact ⟨by rw [HL.out]; rfl, hdr.out⟩
end Go.Proofs.YthhighljfjeooaaDoor
