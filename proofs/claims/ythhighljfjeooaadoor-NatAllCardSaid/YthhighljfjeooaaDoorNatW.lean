/- Plain mathematics of differences of lists of digits; no part of the program. -/
import Derived.Test.YthhighljfjeooaaDoorNatS
namespace Go.Proofs.YthhighljfjeooaaDoor.NatM
/-! ### a limb less a limb, with a borrow -/
theorem bit31 {x : Nat} (hx : x < 4294967296) : Nat.testBit x 31 = decide (2147483648 ≤ x) := by
  rw [Nat.testBit_eq_decide_div_mod_eq]
  congr 1
  have : 2 ^ 31 = 2147483648 := by decide
  rw [this]
  apply propext
  omega
theorem div31 {t : Nat} (ht : t < 4294967296) : t / 2147483648 = if Nat.testBit t 31 then 1 else 0 := by
  rw [bit31 ht]
  by_cases h : 2147483648 ≤ t
  · rw [decide_eq_true h, if_pos rfl]; omega
  · rw [decide_eq_false h]; simp; omega
theorem not31 {x : Nat} (hx : x < 4294967296) : Nat.testBit (4294967295 - x) 31 = !Nat.testBit x 31 := by
  have h := Nat.testBit_two_pow_sub_succ (n := 32) hx 31
  have e : 2 ^ 32 - (x + 1) = 4294967295 - x := by omega
  rw [e] at h
  rw [h]
  simp
theorem sub_borrow {x y c d : Nat} (hx : x < 4294967296) (hy : y < 4294967296) (hc : c ≤ 1) (hd : d = (x + 8589934592 - y - c) % 4294967296) :
    (((4294967295 - x) &&& y) ||| ((4294967295 - (x ^^^ y)) &&& d)) / 2147483648 = if x < y + c then 1 else 0 := by
  have hdl : d < 4294967296 := by omega
  have hxy : x ^^^ y < 2 ^ 32 := Nat.xor_lt_two_pow hx hy
  have h1 : (4294967295 - x) &&& y < 2 ^ 32 := Nat.and_lt_two_pow _ hy
  have h2 : (4294967295 - (x ^^^ y)) &&& d < 2 ^ 32 := Nat.and_lt_two_pow _ hdl
  rw [div31 (Nat.or_lt_two_pow h1 h2), Nat.testBit_or, Nat.testBit_and, Nat.testBit_and, not31 hx, not31 hxy, Nat.testBit_xor, bit31 hx, bit31 hy, bit31 hdl]
  by_cases a : 2147483648 ≤ x <;> by_cases b : 2147483648 ≤ y <;> by_cases e : 2147483648 ≤ d <;> by_cases f : x < y + c <;> simp [a, b, e, f] <;> omega
/-- Where a difference stands when k limbs of m have been taken from a. -/
structure DInv (B : Nat) (a m : List Nat) (k c : Nat) (t : List Nat) : Prop where
  ok : okB B t
  len : t.length = a.length
  car : c ≤ 1
  rest : t.drop k = a.drop k
  val : valB B (t.take k) + valB B (m.take k) = valB B (a.take k) + B ^ k * c
theorem DInv.start {B : Nat} {a m : List Nat} (ha : okB B a) : DInv B a m 0 0 a := ⟨ha, rfl, by omega, rfl, by simp [valB]⟩
theorem sub_step {T M A P x y c r q B : Nat} (h1 : T + M = A + P * c) (h2 : r + y + c = x + B * q) : T + P * r + (M + P * y) = A + P * x + P * B * q := by
  have e : P * (r + y + c) = P * (x + B * q) := by rw [h2]
  rw [Nat.mul_add, Nat.mul_add, Nat.mul_add, ← Nat.mul_assoc] at e
  omega
theorem DInv.step {B : Nat} {a m : List Nat} {k c x r q : Nat} {t : List Nat} (h : DInv B a m k c t) (hx : a[k]? = some x) (hr : r < B) (hq : q ≤ 1) (he : r + limbAt m k + c = x + B * q) :
    DInv B a m (k + 1) q (t.set k r) := by
  have hxt : t[k]? = some x := (get_of_drop h.rest).trans hx
  refine ⟨okB_set h.ok hr _, by rw [List.length_set]; exact h.len, hq, by rw [drop_set_succ]; exact drop_succ_of h.rest, ?_⟩
  rw [set_takeq hxt, valB_snoc, List.length_take, Nat.min_eq_left (by have := get_lt hxt; omega), valB_take_limb, valB_takeq B hx, Nat.pow_succ]
  exact sub_step h.val he
/-- While something is left to take away, the number is long enough. -/
theorem DInv.long {B : Nat} (hB : 2 ≤ B) {a m : List Nat} (ha : okB B a) (hmn : nrm m) (hle : valB B m ≤ valB B a) {k c : Nat} {t : List Nat} (h : DInv B a m k c t) (hgo : k < m.length ∨ c ≠ 0) : k < a.length := by
  rcases Nat.lt_or_ge k a.length with h1 | h1
  · exact h1
  · exfalso
    have hv := h.val
    rw [valB_take_all B h1, show t.take k = t by rw [List.take_of_length_le (by rw [h.len]; exact h1)]] at hv
    have h2 := valB_lt (B := B) (by omega) h.ok
    rw [h.len] at h2
    have h3 : B ^ a.length ≤ B ^ k := Nat.pow_le_pow_right (by omega) h1
    rcases Nat.eq_zero_or_pos c with hc | hc
    · have hk : k < m.length := by omega
      have h4 := valB_split B m k (by omega)
      have h5 := valB_pos hB hmn (List.length_pos_iff.1 (by omega))
      have h6 := ge_of_nrm hB hmn (List.length_pos_iff.1 (by omega))
      have h7 : B ^ k ≤ B ^ (m.length - 1) := Nat.pow_le_pow_right (by omega) (by omega)
      have h8 := valB_lt (B := B) (by omega) ha
      omega
    · have h4 := valB_take_le B m k
      have h5 : B ^ k * 1 ≤ B ^ k * c := Nat.mul_le_mul_left _ hc
      omega
theorem DInv.done {B : Nat} {a m : List Nat} {k : Nat} {t : List Nat} (h : DInv B a m k 0 t) (hk : m.length ≤ k) (hka : k ≤ a.length) : valB B t = valB B a - valB B m ∧ valB B m ≤ valB B a := by
  have hv := h.val
  rw [valB_take_all B hk] at hv
  have h1 := valB_split B t k (by rw [h.len]; exact hka)
  have h2 := valB_split B a k hka
  rw [h.rest] at h1
  simp at hv
  omega
end Go.Proofs.YthhighljfjeooaaDoor.NatM
