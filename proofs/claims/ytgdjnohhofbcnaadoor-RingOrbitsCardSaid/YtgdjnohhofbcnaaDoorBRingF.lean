/- Plain mathematics of rings: two walkers, one twice as fast. -/
import Derived.Test.YtgdjnohhofbcnaaDoorB3
namespace Go.Proofs.YtgdjnohhofbcnaaDoor.RuleM
open WordM
/-! ### two walkers, one twice as fast -/
theorem steps_from {k r : Nat} {t l : List Int} {i d : Nat} (h : stepsW k r t i l = stepsW k r t (i + d) l) : ∀ a, i ≤ a → stepsW k r t a l = stepsW k r t (a + d) l := fun a ha => by
  obtain ⟨e, rfl⟩ : ∃ e, a = i + e := ⟨a - i, by omega⟩
  rw [stepsW_add, h, ← stepsW_add, show i + d + e = i + e + d by omega]
theorem steps_many {k r : Nat} {t l : List Int} {i d : Nat} (h : stepsW k r t i l = stepsW k r t (i + d) l) (a : Nat) (ha : i ≤ a) : ∀ c, stepsW k r t a l = stepsW k r t (a + c * d) l
  | 0 => by rw [Nat.zero_mul]; rfl
  | c + 1 => by
    rw [steps_many h a ha c, steps_from h (a + c * d) (by omega), Nat.succ_mul, Nat.add_assoc]
theorem floyd_orb {k r : Nat} {t l : List Int} {n m p : Nat} (hm : stepsW k r t m l = stepsW k r t (m + n) l) (hmin : ∀ i, i < m → stepsW k r t i l ≠ stepsW k r t (i + n) l) (hp1 : 1 ≤ p) (hp : stepsW k r t m l = stepsW k r t (m + p) l) (hpmin : ∀ q, 1 ≤ q → q < p → stepsW k r t m l ≠ stepsW k r t (m + q) l) : IsOrb k r t l m p := by
  refine ⟨hp1, hp.symm, fun i j hij hj he => ?_⟩
  obtain ⟨d, rfl⟩ : ∃ d, j = i + d := ⟨j - i, by omega⟩
  rcases Nat.lt_or_ge i m with c | c
  · refine hmin i c ?_
    have h1 : i + m * d ≥ m := by
      have : m * 1 ≤ m * d := Nat.mul_le_mul_left m (by omega)
      omega
    have h2 := steps_many he i (Nat.le_refl _) m
    have h3 := steps_from hm (i + m * d) h1
    have h4 := steps_many he (i + n) (by omega) m
    rw [h2, h3, h4, show i + m * d + n = i + n + m * d by omega]
  · refine hpmin d (by omega) (by omega) ?_
    have h1 : m + i * p ≥ i := by
      have : i * 1 ≤ i * p := Nat.mul_le_mul_left i hp1
      omega
    have h2 := steps_many hp m (Nat.le_refl _) i
    have h3 := steps_from he (m + i * p) h1
    have h4 := steps_many hp (m + d) (by omega) i
    rw [h2, h3, h4, show m + i * p + d = m + d + i * p by omega]
theorem floyd_none {k r N : Nat} {t l : List Int} (h : ∀ n, 1 ≤ n → n ≤ N → stepsW k r t n l ≠ stepsW k r t (n + n) l) : ∀ i j, i < j → j ≤ N → stepsW k r t i l ≠ stepsW k r t j l := fun i j hij hj he => by
  obtain ⟨d, rfl⟩ : ∃ d, j = i + d := ⟨j - i, by omega⟩
  rcases Nat.eq_zero_or_pos i with h0 | h0
  · subst h0
    refine h d (by omega) (by omega) ?_
    exact steps_from he d (by omega)
  · obtain ⟨c, hc⟩ : ∃ c, (i + d - 1) / d = c := ⟨_, rfl⟩
    have h1 : c * d ≤ i + d - 1 := by rw [← hc]; exact Nat.div_mul_le_self _ _
    have h2 : i + d - 1 < (c + 1) * d := (Nat.div_lt_iff_lt_mul (by omega)).1 (by omega)
    rw [Nat.succ_mul] at h2
    refine h (c * d) (by omega) (by omega) ?_
    exact steps_many he (c * d) (by omega) c
end Go.Proofs.YtgdjnohhofbcnaaDoor.RuleM
