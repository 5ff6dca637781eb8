/- FormsPowers: its walk. -/
import Derived.Test.YtienaogmljlmlaaDoorBFPowersZero
namespace Go.Proofs.YtienaogmljlmlaaDoor
open Go.RowKit Go.Extern.Stop Go.Stop Go.Extern WordM RuleM NatM

theorem powers_ok (K R N : Nat) (s : Int) (p : Option Addr) (n c : Nat) (t : List Int) (w : World) (A : Nat → Addr) (hr : Roots w A) (hn : n = t.length) (h : IntV w.heap.size w p c t) (ho : OkR K R t) (hN : N ≤ 9223372036854775807) (h3 : R * N ≤ 3) (hs1 : -9223372036854775808 ≤ s) (hs2 : s ≤ 9223372036854775807) :
    Calls Tryd.prog 5 #[.agg #[.int .i64 (K : Int), .int .i64 (R : Int), .slice p n c], .int .i64 s, .int .i64 (N : Int)] w (Tells (.bool true) w) := by
  rcases Nat.eq_zero_or_pos R with rfl | hR
  · rcases Nat.eq_zero_or_pos N with hN0 | hN0
    · by_cases hσ : 0 ≤ s.tdiv 2 + s.tmod 2
      · exact powers_zero_pos0 K N s p n c t w A hr hn h ho hN h3 hs1 hs2 (by omega) hσ
      · exact powers_zero_neg0 K N s p n c t w A hr hn h ho hN h3 hs1 hs2 (by omega) hσ
    · by_cases hσ : 0 ≤ s.tdiv 2 + s.tmod 2
      · exact powers_zero_posP K N s p n c t w A hr hn h ho hN h3 hs1 hs2 (by omega) hσ
      · exact powers_zero_negP K N s p n c t w A hr hn h ho hN h3 hs1 hs2 (by omega) hσ
  · exact powers_pos K R N s p n c t w A hr hn h ho hN h3 hs1 hs2 hR
end Go.Proofs.YtienaogmljlmlaaDoor
