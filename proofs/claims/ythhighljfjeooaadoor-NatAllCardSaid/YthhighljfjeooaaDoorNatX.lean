/- Plain mathematics of binary digits; no part of the program. -/
import Derived.Test.YthhighljfjeooaaDoorNatS
namespace Go.Proofs.YthhighljfjeooaaDoor.NatM
/-! ### binary digits -/
theorem len2_lt (n : Nat) : n < 2 ^ (digs 2 n).length := by
  have := valB_lt (B := 2) (by omega) (digs_ok (by omega) n)
  rwa [valB_digs (by omega)] at this
theorem len2_ge {n : Nat} (h : 0 < n) : 2 ^ ((digs 2 n).length - 1) ≤ n := by
  have hne : digs 2 n ≠ [] := fun e => by have := (digs_eq_nil (B := 2) (by omega)).1 e; omega
  have := ge_of_nrm (B := 2) (by omega) (digs_nrm (by omega) n) hne
  rwa [valB_digs (by omega)] at this
theorem len2_unique {n k : Nat} (h1 : 2 ^ (k - 1) ≤ n) (h2 : n < 2 ^ k) : (digs 2 n).length = k := by
  have h0 : 0 < n := Nat.lt_of_lt_of_le (Nat.pow_pos (by omega)) h1
  have a := len2_lt n
  have b := len2_ge h0
  rcases Nat.lt_trichotomy (digs 2 n).length k with h | h | h
  · have : 2 ^ (digs 2 n).length ≤ 2 ^ (k - 1) := Nat.pow_le_pow_right (by omega) (by omega)
    omega
  · exact h
  · have : 2 ^ k ≤ 2 ^ ((digs 2 n).length - 1) := Nat.pow_le_pow_right (by omega) (by omega)
    omega
theorem len2_pow (k : Nat) : (digs 2 (2 ^ k)).length = k + 1 := by
  apply len2_unique
  · exact Nat.le_refl _
  · rw [Nat.pow_succ]; have := Nat.pow_pos (n := k) (by omega : 0 < 2); omega
theorem len2_succ {x : Nat} (h : 0 < x) : (digs 2 x).length = 1 + (digs 2 (x / 2)).length := by
  rw [digs_pos (by omega) h, List.length_cons]; omega
/-- The bits of a number are those of its last limb, and b more for each limb below. -/
theorem len2_top (b : Nat) {l : List Nat} (ho : okB (2 ^ b) l) (hn : nrm l) {x : Nat} (hx : l[l.length - 1]? = some x) : (digs 2 (valB (2 ^ b) l)).length = b * (l.length - 1) + (digs 2 x).length := by
  have hl := get_lt hx
  have hx0 : 0 < x := by
    have := hn x (by rw [List.getLast?_eq_getElem?]; exact hx)
    omega
  have h1 := valB_takeq (2 ^ b) hx
  rw [show l.length - 1 + 1 = l.length by omega, List.take_length] at h1
  have h2 := valB_lt (B := 2 ^ b) (Nat.pow_pos (by omega)) (okB_take ho (l.length - 1))
  rw [List.length_take, Nat.min_eq_left (by omega)] at h2
  have h3 := len2_lt x
  have h4 := len2_ge hx0
  have hlen : 0 < (digs 2 x).length := List.length_pos_iff.2 (fun e => by have := (digs_eq_nil (B := 2) (by omega)).1 e; omega)
  have e : (2 ^ b) ^ (l.length - 1) = 2 ^ (b * (l.length - 1)) := (Nat.pow_mul 2 b _).symm
  rw [e] at h1 h2
  apply len2_unique
  · rw [show b * (l.length - 1) + (digs 2 x).length - 1 = b * (l.length - 1) + ((digs 2 x).length - 1) by omega, Nat.pow_add, h1]
    have := Nat.mul_le_mul_left (2 ^ (b * (l.length - 1))) h4
    omega
  · rw [Nat.pow_add, h1]
    have : 2 ^ (b * (l.length - 1)) * (x + 1) ≤ 2 ^ (b * (l.length - 1)) * 2 ^ (digs 2 x).length := Nat.mul_le_mul_left _ h3
    rw [Nat.mul_add] at this
    omega
end Go.Proofs.YthhighljfjeooaaDoor.NatM
