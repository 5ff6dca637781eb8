/- WordNumbers: its walk: whatever is asked, it answers true and old memory stays. -/
import Derived.Test.YthhighljfjeooaaDoorLawWord
import Derived.Test.YthhighljfjeooaaDoorWordJ
namespace Go.Proofs.YthhighljfjeooaaDoor
open Go.RowKit Go.Extern.Stop Go.Stop Go.Extern WordM NatM

set_option maxRecDepth 100000 in
set_option maxHeartbeats 8000000 in
theorem wnumbers_ok (k n : Nat) (p : Option Addr) (c : Nat) (a : List Nat) (w : World) (h : NatV w.heap.size w p c a) (hl : a.length ≤ 100) (h1 : 1 ≤ k) (h4 : k ≤ 4) (h256 : n ≤ 256) (hlt : V32 a < k ^ n) :
    Calls Tryd.prog 6 #[.int .i64 (k : Int), .int .i64 (n : Int), .slice p a.length c] w (Tells (.bool true) w) := by
  have H := Lib.hid (And.intro h hlt)
  clear h hlt
  go_enter Tryd.func6, Tryd.ntmps6
  go_wp2_with fail
  refine (awakeW _).mono ?_
  rintro e w1 ⟨rfl, hb1⟩
  have S1 := Lib.hid hb1
  clear hb1
  have hdl : decide ((100 : Int) < (a.length : Int)) = false := by rw [decide_eq_false_iff_not]; omega
  have hdl2 : decide (100 < a.length) = false := by rw [decide_eq_false_iff_not]; omega
  go_wp2_with fail
  refine (at_ok k n p a.length c a w1 rfl (H.out.1.next S1.out) (by omega) h1 h4 h256 H.out.2).mono ?_
  rintro e w2 ⟨x, hxl, hxo, hxv, p2, c2, rfl, ho2, hb2⟩
  have S2 := Lib.hid (And.intro ((Si.start w).next (S1.out.trans (hb2.mono S1.out.size)) |>.push ho2.toV) (And.intro hxl (And.intro hxo hxv)))
  have hck : ∀ W, IntV W.heap.size W p2 c2 x → Calls Tryd.prog 32 #[.int .i64 (k : Int), .slice p2 n c2] W (Tells .nilIface W) := fun W hW => check_ok k p2 n c2 x W hxl.symm hW (chkW_ok h1 h4 (by omega) hxo)
  have hidx := index_ok k p2 n c2 x w2 hxl.symm ho2.toV (chkW_ok h1 h4 (by omega) hxo) h256
  rw [hxv] at hidx
  have HC := Lib.hid (And.intro hck hidx)
  rw [hxl]
  clear hxl hxo hxv ho2 hb2 hck hidx
  go_wp2_with fail
  refine HC.out.2.mono ?_
  rintro e w3 ⟨p3, c3, rfl, ho3, hb3⟩
  have hd3 : (D32 (V32 a)).length ≤ 100000 := Nat.le_trans (D32_le H.out.1.ok) (by omega)
  have hat := at_ok k n p3 (D32 (V32 a)).length c3 (D32 (V32 a)) w3 rfl ho3.toV hd3 h1 h4 h256 (by rw [V32_D32]; exact H.out.2)
  rw [V32_D32] at hat
  have S3 := Lib.hid (And.intro (S2.out.1.next hb3) (And.intro ho3.toV hat))
  clear ho3 hb3 hat hd3
  go_wp2_with fail
  refine S3.out.2.2.mono ?_
  rintro e w4 ⟨y, hyl, hyo, hyv, p4, c4, rfl, ho4, hb4⟩
  obtain rfl : y = x := valW_inj (by rw [hyl, S2.out.2.1]) hyo S2.out.2.2.1 (by rw [hyv, S2.out.2.2.2])
  rw [hyl]
  have S4 := Lib.hid (And.intro ((S3.out.1.next hb4).push ho4.toV) (S3.out.2.1.next hb4))
  clear ho4 hb4 hyl hyo hyv
  go_wp2_with fail
  refine (HC.out.1 _ (S4.out.1.get 1 rfl)).mono ?_
  rintro e w5 ⟨rfl, hb5⟩
  have hb05 : Below w.heap.size w w5 := (S4.out.1.next hb5).below
  have hcm := cmp_any p p3 c c3 a (D32 (V32 a)) w5 (H.out.1.next hb05) (S4.out.2.next hb5)
  have hcv : cmpV a (D32 (V32 a)) = .int .i64 0 := by unfold cmpV; rw [V32_D32, cmp_eq]
  rw [hcv] at hcm
  have S5 := Lib.hid (And.intro (S4.out.1.next hb5) hcm)
  clear hb5 hb05 hcm hcv
  go_wp2_with fail
  refine S5.out.2.mono ?_
  rintro e w6 ⟨rfl, hb6⟩
  have S6 := Lib.hid (S5.out.1.next hb6)
  clear hb6
  go_wp2_with fail
  refine (ints_any _ _ _ _ _ _ y y _ S2.out.2.1.symm S2.out.2.1.symm (S6.out.get 0 rfl) (S6.out.get 1 rfl)).mono ?_
  rintro e w7 ⟨rfl, hb7⟩
  rw [sameI_self]
  have S7 := Lib.hid (S6.out.next hb7).below
  clear hb7
  go_wp2_with fail
  go_ret
  exact ⟨rfl, S7.out⟩
set_option maxRecDepth 100000 in
set_option maxHeartbeats 8000000 in
theorem wnumbers_long (k n : Int) (p : Option Addr) (m c : Nat) (w : World) (hl : 100 < m) (hm : m ≤ 9223372036854775807) :
    Calls Tryd.prog 6 #[.int .i64 k, .int .i64 n, .slice p m c] w (Tells (.bool true) w) := by
  go_enter Tryd.func6, Tryd.ntmps6
  go_wp2_with fail
  refine (awakeW _).mono ?_
  rintro e w1 ⟨rfl, hb1⟩
  have S1 := Lib.hid hb1
  clear hb1
  go_wp2_with fail
  go_ret
  exact ⟨rfl, S1.out⟩
set_option maxRecDepth 100000 in
set_option maxHeartbeats 8000000 in
/-- where At refuses the alphabet or the number of symbols -/
theorem wnumbers_bad (k n : Int) (p : Option Addr) (c : Nat) (a : List Nat) (w : World) (A : Nat → Addr) (hr : Roots w A) (hl : a.length ≤ 100)
    (hkl : -9223372036854775808 ≤ k ∧ k ≤ 9223372036854775807) (hc : k < 1 ∨ 4 < k ∨ n < 0 ∨ 256 < n) :
    Calls Tryd.prog 6 #[.int .i64 k, .int .i64 n, .slice p a.length c] w (Tells (.bool true) w) := by
  have hat : ∀ W, Roots W A → Calls Tryd.prog 38 #[.int .i64 k, .int .i64 n, .slice p a.length c] W fun e W' => ∃ b, e = .returned (.tuple #[.slice none 0 0, .iface 105 (.pointer (some ⟨b, 0, none⟩))]) ∧ Below W.heap.size W W' := fun W hW => by
    by_cases h1 : (k < 1 ∨ 4 < k) ∨ n < 0
    · exact (at_arg k n p a.length c W A hW h1).mono fun e W' ⟨b, he, _, hb⟩ => ⟨b, he, hb⟩
    · exact (at_long k n p a.length c W A hW (by omega) (by omega) (by omega)).mono fun e W' ⟨b, he, _, hb⟩ => ⟨b, he, hb⟩
  have H := Lib.hid (And.intro hat hr)
  clear hat hr
  have hdl : decide ((100 : Int) < (a.length : Int)) = false := by rw [decide_eq_false_iff_not]; omega
  have hdl2 : decide (100 < a.length) = false := by rw [decide_eq_false_iff_not]; omega
  go_enter Tryd.func6, Tryd.ntmps6
  go_wp2_with fail
  refine (awakeW _).mono ?_
  rintro e w1 ⟨rfl, hb1⟩
  have S1 := Lib.hid (And.intro hb1 (H.out.2.below hb1))
  clear hb1
  go_wp2_with fail
  refine (H.out.1 w1 S1.out.2).mono ?_
  rintro e w2 ⟨b2, rfl, hb2⟩
  have S2 := Lib.hid (And.intro (S1.out.1.trans (hb2.mono S1.out.1.size)) (S1.out.2.below hb2))
  clear hb2
  go_wp2_with fail
  refine (pow_some _ n w2 A S2.out.2 (Int.emod_nonneg _ (by omega)) (Int.emod_lt_of_pos _ (by omega))).mono ?_
  rintro e w3 ⟨p3, n3, c3, v3, rfl, hb3⟩
  have S3 := Lib.hid (S2.out.1.trans (hb3.mono S2.out.1.size))
  clear hb3
  by_cases hk1 : k < 1
  · clear hc hkl
    go_wp2_with fail
    go_ret
    exact ⟨rfl, S3.out⟩
  · by_cases hk4 : 4 < k
    · clear hc hkl
      have hdk1 : decide (k < 1) = false := by rw [decide_eq_false_iff_not]; exact hk1
      have hdk4 : decide (4 < k) = true := by rw [decide_eq_true_iff]; exact hk4
      go_wp2_with fail
      go_ret
      exact ⟨rfl, S3.out⟩
    · by_cases hn0 : n < 0
      · have hdk1 : decide (k < 1) = false := by rw [decide_eq_false_iff_not]; exact hk1
        have hdk4 : decide (4 < k) = false := by rw [decide_eq_false_iff_not]; exact hk4
        have hdn : decide (n < 0) = true := by rw [decide_eq_true_iff]; exact hn0
        clear hc hkl
        go_wp2_with fail
        go_ret
        exact ⟨rfl, S3.out⟩
      · have hn2 : 256 < n := by omega
        have hdk1 : decide (k < 1) = false := by rw [decide_eq_false_iff_not]; exact hk1
        have hdk4 : decide (4 < k) = false := by rw [decide_eq_false_iff_not]; exact hk4
        have hdn : decide (n < 0) = false := by rw [decide_eq_false_iff_not]; exact hn0
        have hdn2 : decide (256 < n) = true := by rw [decide_eq_true_iff]; exact hn2
        clear hc hkl
        go_wp2_with fail
        go_ret
        exact ⟨rfl, S3.out⟩
set_option maxRecDepth 100000 in
set_option maxHeartbeats 8000000 in
theorem wnumbers_over (k n : Nat) (p : Option Addr) (c : Nat) (a : List Nat) (w : World) (A : Nat → Addr) (hr : Roots w A) (h : NatV w.heap.size w p c a) (hl : a.length ≤ 100) (h1 : 1 ≤ k) (h4 : k ≤ 4) (h256 : n ≤ 256) (hge : k ^ n ≤ V32 a) :
    Calls Tryd.prog 6 #[.int .i64 (k : Int), .int .i64 (n : Int), .slice p a.length c] w (Tells (.bool true) w) := by
  have hcv : ∃ r : Int, 0 ≤ r ∧ cmpN (V32 a) (k ^ n) = r := by
    rcases Nat.lt_or_ge (k ^ n) (V32 a) with h1 | h1
    · exact ⟨1, by omega, by rw [cmp_gt h1]⟩
    · exact ⟨0, by omega, by rw [show V32 a = k ^ n by omega, cmp_eq]⟩
  obtain ⟨r, hr0, hcr⟩ := hcv
  have hmx : max (k : Int) 0 % 4294967296 = (k : Int) := by omega
  have H := Lib.hid (And.intro h (And.intro hr (And.intro hge (And.intro hcr hmx))))
  clear h hr hge hcr hmx
  have hdl : decide ((100 : Int) < (a.length : Int)) = false := by rw [decide_eq_false_iff_not]; omega
  have hdl2 : decide (100 < a.length) = false := by rw [decide_eq_false_iff_not]; omega
  go_enter Tryd.func6, Tryd.ntmps6
  go_wp2_with fail
  refine (awakeW _).mono ?_
  rintro e w1 ⟨rfl, hb1⟩
  have S1 := Lib.hid (And.intro hb1 (H.out.2.1.below hb1))
  clear hb1
  go_wp2_with fail
  refine (at_over k n p a.length c a w1 A S1.out.2 rfl (H.out.1.next S1.out.1) h1 h4 h256 H.out.2.2.1).mono ?_
  rintro e w2 ⟨b2, rfl, _, hb2⟩
  have S2 := Lib.hid (S1.out.1.trans (hb2.mono S1.out.1.size))
  clear hb2
  go_wp2_with fail
  try rw [H.out.2.2.2.2]
  refine (pow_any k n (by omega) (by omega) w2).mono ?_
  rintro e w3 ⟨p3, c3, rfl, ho3, hb3⟩
  have hb03 := S2.out.trans (hb3.mono S2.out.size)
  have hcm := cmp_any p p3 c c3 a (D32 (k ^ n)) w3 (H.out.1.next hb03) ho3.toV
  have hcv : cmpV a (D32 (k ^ n)) = .int .i64 r := by unfold cmpV; rw [V32_D32, H.out.2.2.2.1]
  rw [hcv] at hcm
  have S3 := Lib.hid (And.intro hb03 hcm)
  clear hb3 hb03 ho3 hcm hcv
  have hdk1 : decide ((k : Int) < 1) = false := by rw [decide_eq_false_iff_not]; omega
  have hdk4 : decide ((4 : Int) < (k : Int)) = false := by rw [decide_eq_false_iff_not]; omega
  have hdn : decide ((n : Int) < 0) = false := by rw [decide_eq_false_iff_not]; omega
  have hdn2 : decide ((256 : Int) < (n : Int)) = false := by rw [decide_eq_false_iff_not]; omega
  have hdk1' : decide (k < 1) = false := by rw [decide_eq_false_iff_not]; omega
  have hdk4' : decide (4 < k) = false := by rw [decide_eq_false_iff_not]; omega
  have hdn2' : decide (256 < n) = false := by rw [decide_eq_false_iff_not]; omega
  go_wp2_with fail
  refine S3.out.2.mono ?_
  rintro e w4 ⟨rfl, hb4⟩
  have S4 := Lib.hid (S3.out.1.trans (hb4.mono S3.out.1.size))
  clear hb4
  have hdr : decide (0 ≤ r) = true := by rw [decide_eq_true_iff]; exact hr0
  go_wp2_with fail
  go_ret
  exact ⟨rfl, S4.out⟩
/-- WordNumbers, whatever came in -/
theorem wnumbers_any (k n : Int) (p : Option Addr) (c : Nat) (a : List Nat) (w : World) (A : Nat → Addr) (hr : Roots w A) (h : NatV w.heap.size w p c a) (hkl : -9223372036854775808 ≤ k ∧ k ≤ 9223372036854775807) :
    Calls Tryd.prog 6 #[.int .i64 k, .int .i64 n, .slice p a.length c] w (Tells (.bool true) w) := by
  by_cases hl : 100 < a.length
  · exact wnumbers_long k n p a.length c w hl (by have := h.le; have := h.cap; unfold maxLen at this; omega)
  · by_cases hc : k < 1 ∨ 4 < k ∨ n < 0 ∨ 256 < n
    · exact wnumbers_bad k n p c a w A hr (by omega) hkl hc
    · obtain ⟨k, rfl⟩ : ∃ q : Nat, k = (q : Int) := ⟨k.toNat, by omega⟩
      obtain ⟨n, rfl⟩ : ∃ q : Nat, n = (q : Int) := ⟨n.toNat, by omega⟩
      rcases Nat.lt_or_ge (V32 a) (k ^ n) with h1 | h1
      · exact wnumbers_ok k n p c a w h (by omega) (by omega) (by omega) (by omega) h1
      · exact wnumbers_over k n p c a w A hr h (by omega) (by omega) (by omega) (by omega) h1
end Go.Proofs.YthhighljfjeooaaDoor
