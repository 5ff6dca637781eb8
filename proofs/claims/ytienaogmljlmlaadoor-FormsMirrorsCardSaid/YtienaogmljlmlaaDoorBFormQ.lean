/- Plain mathematics: a shift and the one the other way change nothing. -/
import Derived.Test.YtienaogmljlmlaaDoorB4
namespace Go.Proofs.YtienaogmljlmlaaDoor.RuleM
open WordM
theorem shi_zero {k : Nat} : shiT k 0 = idT k := by
  unfold shiT idT
  show tabN (k ^ (2 * 0 + 1)) _ = _
  rw [show k ^ (2 * 0 + 1) = k by simp]
  refine tabN_ext fun i hi => ?_
  rw [if_neg (by omega), Nat.mod_eq_of_lt hi]
theorem shift_one : ∀ k : Nat, 1 ≤ k → k ≤ 4 → cmpT k 1 1 (shiT k 1) (shiT k (-1)) = widT k 0 (shiT k 0) 2 := by
  intro k h1 h4
  have : k = 1 ∨ k = 2 ∨ k = 3 ∨ k = 4 := by omega
  rcases this with rfl | rfl | rfl | rfl <;> decide +kernel
/-- a shift and the one the other way change nothing -/
theorem shift_back {k d : Nat} (h1 : 1 ≤ k) (h4 : k ≤ 4) (hd : d ≤ 1) : NarR k (d + d) (cmpT k d d (shiT k (d : Int)) (shiT k (-(d : Int)))) 0 (shiT k 0) := by
  have hz : OkR k 0 (shiT k 0) := shiT_ok (d := 0) h1 h4 (by decide)
  have h0 : NarR k 0 (shiT k 0) 0 (shiT k 0) := nar_zero hz
  have hd' : d = 0 ∨ d = 1 := by omega
  rcases hd' with rfl | rfl
  · show NarR k 0 (cmpT k 0 0 (shiT k 0) (shiT k 0)) 0 (shiT k 0)
    rw [shi_zero, cmp_id (idT_ok h1 h4), ← shi_zero]
    exact h0
  · have := h0.to_wid hz (R := 2) (by omega) (by omega)
    show NarR k 2 (cmpT k 1 1 (shiT k 1) (shiT k (-1))) 0 (shiT k 0)
    rw [shift_one k h1 h4]
    exact this
end Go.Proofs.YtienaogmljlmlaaDoor.RuleM
