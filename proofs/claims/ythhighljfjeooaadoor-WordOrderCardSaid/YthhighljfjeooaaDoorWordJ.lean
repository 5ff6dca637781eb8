/- Package word by its contracts, tenth part: At where it is refused; nat.Pow whatever it is asked. -/
import Derived.Test.YthhighljfjeooaaDoorWordI
namespace Go.Proofs.YthhighljfjeooaaDoor
open Go.RowKit Go.Extern.Stop Go.Stop Go.Extern WordM NatM

set_option maxRecDepth 100000 in
set_option maxHeartbeats 1000000 in
theorem at_arg (k n : Int) (p : Option Addr) (m c : Nat) (w : World) (A : Nat → Addr) (hr : Roots w A) (h : (k < 1 ∨ 4 < k) ∨ n < 0) :
    Calls Tryd.prog 38 #[.int .i64 k, .int .i64 n, .slice p m c] w (Err2 w A wordOp 0 3 (.slice none 0 0)) := by
  have HR := Lib.hid hr
  clear hr
  by_cases hk : k < 1 ∨ 4 < k
  · clear h
    go_enter Tryd.func38, Tryd.ntmps38
    go_wp2_with fail
    refine (alpha_no _ _ hk).mono ?_
    rintro e w' ⟨rfl, rfl⟩
    go_wp2_with fail
    refine (new_at wordOp 0 3 _ A HR.out (by omega)).mono ?_
    rintro e w1 ⟨b, rfl, hl1, hb1⟩
    have H := Lib.hid (And.intro hl1 hb1)
    clear hl1 hb1
    go_wp2_with fail
    go_ret2
    exact ⟨_, rfl, H.out.1, H.out.2⟩
  · have hn : n < 0 := by omega
    have hk1 : 1 ≤ k := by omega
    have hk4 : k ≤ 4 := by omega
    clear h hk
    go_enter Tryd.func38, Tryd.ntmps38
    go_wp2_with fail
    refine (alpha_yes _ _ hk1 hk4).mono ?_
    rintro e w' ⟨rfl, rfl⟩
    go_wp2_with fail
    refine (new_at wordOp 0 3 _ A HR.out (by omega)).mono ?_
    rintro e w1 ⟨b, rfl, hl1, hb1⟩
    have H := Lib.hid (And.intro hl1 hb1)
    clear hl1 hb1
    go_wp2_with fail
    go_ret2
    exact ⟨_, rfl, H.out.1, H.out.2⟩
set_option maxRecDepth 100000 in
set_option maxHeartbeats 1000000 in
theorem at_long (k n : Int) (p : Option Addr) (m c : Nat) (w : World) (A : Nat → Addr) (hr : Roots w A) (hk1 : 1 ≤ k) (hk4 : k ≤ 4) (hn : 256 < n) :
    Calls Tryd.prog 38 #[.int .i64 k, .int .i64 n, .slice p m c] w (Err2 w A wordOp 0 4 (.slice none 0 0)) := by
  have HR := Lib.hid hr
  have hn0 : ¬ n < 0 := by omega
  clear hr
  go_enter Tryd.func38, Tryd.ntmps38
  go_wp2_with fail
  refine (alpha_yes _ _ hk1 hk4).mono ?_
  rintro e w' ⟨rfl, rfl⟩
  go_wp2_with fail
  refine (new_at wordOp 0 4 _ A HR.out (by omega)).mono ?_
  rintro e w1 ⟨b, rfl, hl1, hb1⟩
  have H := Lib.hid (And.intro hl1 hb1)
  clear hl1 hb1
  go_wp2_with fail
  go_ret2
  exact ⟨_, rfl, H.out.1, H.out.2⟩
set_option maxRecDepth 100000 in
set_option maxHeartbeats 4000000 in
theorem at_over (k n : Nat) (p : Option Addr) (m c : Nat) (a : List Nat) (w : World) (A : Nat → Addr) (hr : Roots w A) (hm : m = a.length) (h : NatV w.heap.size w p c a) (h1 : 1 ≤ k) (h4 : k ≤ 4) (h256 : n ≤ 256) (hge : k ^ n ≤ V32 a) :
    Calls Tryd.prog 38 #[.int .i64 (k : Int), .int .i64 (n : Int), .slice p m c] w (Err2 w A wordOp 0 3 (.slice none 0 0)) := by
  subst hm
  have hpow := pow_any k n (by omega) (by omega) w
  have hcv : ∃ r : Int, 0 ≤ r ∧ cmpN (V32 a) (k ^ n) = r := by
    rcases Nat.lt_or_ge (k ^ n) (V32 a) with h1 | h1
    · exact ⟨1, by omega, by rw [cmp_gt h1]⟩
    · exact ⟨0, by omega, by rw [show V32 a = k ^ n by omega, cmp_eq]⟩
  obtain ⟨r, hr0, hcr⟩ := hcv
  have H := Lib.hid (And.intro h (And.intro hcr (And.intro hpow hr)))
  clear h hcr hpow hr hge
  have hdn : decide ((n : Int) < 0) = false := by rw [decide_eq_false_iff_not]; omega
  go_enter Tryd.func38, Tryd.ntmps38
  go_wp2_with fail
  refine (alpha_yes _ _ (by omega) (by omega)).mono ?_
  rintro e w' ⟨rfl, rfl⟩
  go_wp2_with fail
  refine H.out.2.2.1.mono ?_
  rintro e w1 ⟨p1, c1, rfl, ho1, hb1⟩
  have hcmp := cmp_any p p1 c c1 a (D32 (k ^ n)) w1 (H.out.1.next hb1) ho1.toV
  have hcv : cmpV a (D32 (k ^ n)) = .int .i64 r := by unfold cmpV; rw [V32_D32, H.out.2.1]
  rw [hcv] at hcmp
  have HB1 := Lib.hid (And.intro hb1 hcmp)
  clear ho1 hb1 hcmp hcv
  go_wp2_with fail
  refine HB1.out.2.mono ?_
  rintro e w2 ⟨rfl, hb2⟩
  have hb02 : Below w.heap.size w w2 := HB1.out.1.trans (hb2.mono HB1.out.1.size)
  have HB2 := Lib.hid (And.intro hb02 (H.out.2.2.2.below hb02))
  clear hb2 hb02
  go_wp2_with fail
  refine (new_at wordOp 0 3 _ A HB2.out.2 (by omega)).mono ?_
  rintro e w3 ⟨b, rfl, hl3, hb3⟩
  have HF := Lib.hid (And.intro hl3 (HB2.out.1.trans (hb3.mono HB2.out.1.size)))
  clear hl3 hb3
  go_wp2_with fail
  go_ret2
  exact ⟨_, rfl, HF.out.1, HF.out.2⟩

/-- whatever Pow tells -/
def PowSome (w : World) (e : Ending) (w' : World) : Prop := ∃ p n c v, e = .returned (.tuple #[.slice p n c, v]) ∧ Below w.heap.size w w'
theorem pow_some (k n : Int) (w : World) (A : Nat → Addr) (hr : Roots w A) (hk : 0 ≤ k) (hk2 : k < 4294967296) : Calls Tryd.prog 37 #[.int .u32 k, .int .i64 n] w (PowSome w) := by
  rcases (by omega : n < 0 ∨ 1024 < n ∨ (0 ≤ n ∧ n ≤ 1024)) with h | h | ⟨h1, h2⟩
  · refine (pow_neg k n h w A hr).mono fun e w' ⟨b, he, _, hb⟩ => ⟨_, _, _, _, he, hb⟩
  · refine (pow_big k n h w A hr).mono fun e w' ⟨b, he, _, hb⟩ => ⟨_, _, _, _, he, hb⟩
  · obtain ⟨m, rfl⟩ : ∃ m : Nat, n = (m : Int) := ⟨n.toNat, by omega⟩
    obtain ⟨q, rfl⟩ : ∃ q : Nat, k = (q : Int) := ⟨k.toNat, by omega⟩
    refine (pow_any q m (by omega) (by omega) w).mono fun e w' ⟨p, c, he, _, hb⟩ => ⟨_, _, _, _, he, hb⟩
end Go.Proofs.YthhighljfjeooaaDoor
