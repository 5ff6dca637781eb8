/- Package word by its contracts, seventh part: Times. -/
import Derived.Test.YthhighljfjeooaaDoorWordF
import Derived.Test.YthhighljfjeooaaDoorIntE
namespace Go.Proofs.YthhighljfjeooaaDoor
open Go.RowKit Go.Extern.Stop Go.Stop Go.Extern WordM NatM

set_option maxRecDepth 100000 in
set_option maxHeartbeats 4000000 in
theorem times_ok (p : Option Addr) (n c m : Nat) (l : List Int) (w : World) (hn : n = l.length) (h : IntV w.heap.size w p c l) (hm : m ≤ 9223372036854775807) (hT : n = 0 ∨ m ≤ 4096 / n) :
    Calls Tryd.prog 41 #[.slice p n c, .int .i64 (m : Int)] w (IntOk w (timesW l m)) := by
  have hle := h.le
  have hcap := h.cap
  unfold maxLen at hcap
  have hnm : n * m ≤ 1000000 := by
    rcases hT with h0 | h0
    · rw [h0, Nat.zero_mul]; omega
    · have := Nat.mul_le_mul_left n h0
      have := Nat.mul_div_le 4096 n
      omega
  have hrep := repeatI p n c m l w hn h hm hnm
  have HR := Lib.hid hrep
  clear hrep h hn hle hnm
  rcases Nat.eq_zero_or_pos n with h0 | h0
  · subst h0
    have hd0 : decide ((0 : Int) < 0) = false := by decide
    go_enter Tryd.func41, Tryd.ntmps41
    go_wp2_with fail
    refine HR.out.mono ?_
    rintro e w1 ⟨p1, c1, rfl, ho1, hb1⟩
    have HO := Lib.hid (And.intro ho1 hb1)
    clear ho1 hb1
    go_wp2_with fail
    go_ret2
    exact ⟨p1, c1, rfl, HO.out.1, HO.out.2⟩
  · have hmq : m ≤ 4096 / n := by omega
    obtain ⟨q, hq⟩ : ∃ q, 4096 / n = q := ⟨_, rfl⟩
    have hq4 : q ≤ 4096 := by rw [← hq]; exact Nat.div_le_self _ _
    have hqi : (4096 : Int) / (n : Int) = (q : Int) := by rw [← hq]; rfl
    have hqi2 : (4096 : Int).tdiv (n : Int) = (q : Int) := by rw [Int.tdiv_eq_ediv_of_nonneg (by omega), hqi]
    have hmq2 : ¬ ((q : Int) < (m : Int)) := by omega
    have hmq3 : decide ((q : Int) < (m : Int)) = false := by rw [decide_eq_false_iff_not]; omega
    have hmq4 : decide (q < m) = false := by rw [decide_eq_false_iff_not]; omega
    have hn0 : ¬ ((n : Int) == 0) = true := by rw [beq_iff_eq]; omega
    clear hq hT hmq
    go_enter Tryd.func41, Tryd.ntmps41
    go_wp2_with fail
    refine HR.out.mono ?_
    rintro e w1 ⟨p1, c1, rfl, ho1, hb1⟩
    have HO := Lib.hid (And.intro ho1 hb1)
    clear ho1 hb1
    go_wp2_with fail
    go_ret2
    exact ⟨p1, c1, rfl, HO.out.1, HO.out.2⟩
set_option maxRecDepth 100000 in
theorem times_neg (p : Option Addr) (n c : Nat) (z : Int) (w : World) (A : Nat → Addr) (hr : Roots w A) (hz : z < 0) :
    Calls Tryd.prog 41 #[.slice p n c, .int .i64 z] w (Err2 w A wordOp 0 3 (.slice none 0 0)) := by
  have HR := Lib.hid hr
  clear hr
  go_enter Tryd.func41, Tryd.ntmps41
  go_wp2_with fail
  refine (new_at wordOp 0 3 _ A HR.out (by omega)).mono ?_
  rintro e w1 ⟨b, rfl, hl1, hb1⟩
  have H := Lib.hid (And.intro hl1 hb1)
  clear hl1 hb1
  go_wp2_with fail
  go_ret2
  exact ⟨_, rfl, H.out.1, H.out.2⟩
set_option maxRecDepth 100000 in
theorem times_big (p : Option Addr) (n c m : Nat) (w : World) (A : Nat → Addr) (hr : Roots w A) (hn : n ≤ 9223372036854775807) (h0 : 0 < n) (hm : 4096 / n < m) :
    Calls Tryd.prog 41 #[.slice p n c, .int .i64 (m : Int)] w (Err2 w A wordOp 0 4 (.slice none 0 0)) := by
  have HR := Lib.hid hr
  obtain ⟨q, hq⟩ : ∃ q, 4096 / n = q := ⟨_, rfl⟩
  have hq4 : q ≤ 4096 := by rw [← hq]; exact Nat.div_le_self _ _
  have hqi : (4096 : Int) / (n : Int) = (q : Int) := by rw [← hq]; rfl
  have hqi2 : (4096 : Int).tdiv (n : Int) = (q : Int) := by rw [Int.tdiv_eq_ediv_of_nonneg (by omega), hqi]
  have hmq2 : ((q : Int) < (m : Int)) := by omega
  have hmq4 : decide (q < m) = true := by rw [decide_eq_true_iff]; omega
  clear hr hq hm
  go_enter Tryd.func41, Tryd.ntmps41
  go_wp2_with fail
  refine (new_at wordOp 0 4 _ A HR.out (by omega)).mono ?_
  rintro e w1 ⟨b, rfl, hl1, hb1⟩
  have H := Lib.hid (And.intro hl1 hb1)
  clear hl1 hb1
  go_wp2_with fail
  go_ret2
  exact ⟨_, rfl, H.out.1, H.out.2⟩
end Go.Proofs.YthhighljfjeooaaDoor
