/- Plain mathematics of decimal digits, and of turning a list round; no part of the program. -/
import Derived.Test.YthhighljfjeooaaDoorNatS
namespace Go.Proofs.YthhighljfjeooaaDoor.NatM
/-! ### decimal digits -/
structure TInv (n : Nat) (ds : List Nat) (q : Nat) : Prop where
  ok : okB 10 ds
  val : valB 10 ds + 10 ^ ds.length * q = n
  fin : q = 0 → nrm ds
theorem TInv.start (n : Nat) : TInv n [] n := ⟨okB_nil _, by simp [valB], fun _ _ h => by cases h⟩
theorem TInv.step {n q : Nat} {ds : List Nat} (h : TInv n ds q) (hq : 0 < q) : TInv n (ds ++ [q % 10]) (q / 10) := by
  refine ⟨okB_snoc h.ok (Nat.mod_lt _ (by omega)), ?_, fun h0 => nrm_snoc (by omega)⟩
  rw [valB_snoc, List.length_append, List.length_singleton, Nat.pow_succ, Nat.mul_assoc, Nat.add_assoc, ← Nat.mul_add]
  have : q % 10 + 10 * (q / 10) = q := by omega
  rw [this]; exact h.val
theorem TInv.done {n : Nat} {ds : List Nat} (h : TInv n ds 0) : digs 10 n = ds := digs_unique (by omega) h.ok (h.fin rfl) (by have := h.val; omega)
theorem TInv.len {n q : Nat} {ds : List Nat} (h : TInv n ds q) (hq : 0 < q) : 10 ^ ds.length ≤ n := by
  have h1 := h.val
  have : 10 ^ ds.length * 1 ≤ 10 ^ ds.length * q := Nat.mul_le_mul_left _ hq
  omega
theorem dec_len {n m k : Nat} (h : n < 4294967296 ^ m) (hk : 10 ^ k ≤ n) : k < 10 * m := by
  rcases Nat.lt_or_ge k (10 * m) with h1 | h1
  · exact h1
  · exfalso
    have h2 : 10 ^ (10 * m) ≤ 10 ^ k := Nat.pow_le_pow_right (by omega) h1
    rw [Nat.pow_mul] at h2
    have h3 : 4294967296 ^ m ≤ (10 ^ 10) ^ m := Nat.pow_le_pow_left (by decide) m
    omega
theorem pow9 {i : Nat} (h : i < 9) : 10 ^ (9 - i) = 10 * 10 ^ (9 - (i + 1)) := by
  rw [show 9 - i = (9 - (i + 1)) + 1 by omega, Nat.pow_succ, Nat.mul_comm]
theorem inner_step {n R i chunk : Nat} {ds : List Nat} (hi : i < 9) (h : TInv n ds (chunk + 10 ^ (9 - i) * R)) (hgo : 0 < R ∨ 0 < chunk) : TInv n (ds ++ [chunk % 10]) (chunk / 10 + 10 ^ (9 - (i + 1)) * R) := by
  have hp : 0 < chunk + 10 ^ (9 - i) * R := by
    rcases hgo with h1 | h1
    · have := Nat.mul_pos (Nat.pow_pos (by omega) : 0 < 10 ^ (9 - i)) h1; omega
    · omega
  have hs := h.step hp
  rw [pow9 hi, Nat.mul_assoc] at hs
  have e1 : (chunk + 10 * (10 ^ (9 - (i + 1)) * R)) % 10 = chunk % 10 := by omega
  have e2 : (chunk + 10 * (10 ^ (9 - (i + 1)) * R)) / 10 = chunk / 10 + 10 ^ (9 - (i + 1)) * R := by omega
  rw [e1, e2] at hs
  exact hs
theorem inner_lt {i chunk : Nat} (hi : i < 9) (h : chunk < 10 ^ (9 - i)) : chunk / 10 < 10 ^ (9 - (i + 1)) := by
  rw [pow9 hi] at h
  omega
theorem inner_le {i chunk : Nat} (h : chunk < 10 ^ (9 - i)) : chunk < 1000000000 := by
  have : 10 ^ (9 - i) ≤ 10 ^ 9 := Nat.pow_le_pow_right (by omega) (by omega)
  have e : 10 ^ 9 = 1000000000 := by decide
  omega
theorem inner_pos {n R i chunk : Nat} {ds : List Nat} (h : TInv n ds (chunk + 10 ^ (9 - i) * R)) (hgo : 0 < R ∨ 0 < chunk) : 10 ^ ds.length ≤ n := by
  refine h.len ?_
  rcases hgo with h1 | h1
  · have := Nat.mul_pos (Nat.pow_pos (by omega) : 0 < 10 ^ (9 - i)) h1; omega
  · omega
theorem outer_enter {n R : Nat} {ds : List Nat} (h : TInv n ds R) : TInv n ds (R % 1000000000 + 10 ^ (9 - 0) * (R / 1000000000)) := by
  have e : 10 ^ (9 - 0) = 1000000000 := by decide
  rw [e, Nat.mod_add_div]; exact h
/-- The decimal digits of a number, the highest first. -/
def decL (n : Nat) : List Nat := if n = 0 then [0] else (digs 10 n).reverse

/-! ### turning a list round, two by two -/
def RevAt {α : Type} (xs zs : List α) (k : Nat) : Prop := zs.length = xs.length ∧ ∀ t, t < xs.length → zs[t]? = if t < k ∨ xs.length ≤ t + k then xs[xs.length - 1 - t]? else xs[t]?
theorem RevAt.start {α : Type} (xs : List α) : RevAt xs xs 0 := ⟨rfl, fun t ht => by rw [if_neg (by omega)]⟩
theorem RevAt.step {α : Type} {xs zs : List α} {k : Nat} {x y : α} (h : RevAt xs zs k) (hk : 2 * k + 1 < xs.length) (hx : zs[k]? = some x) (hy : zs[xs.length - 1 - k]? = some y) :
    RevAt xs ((zs.set k y).set (xs.length - 1 - k) x) (k + 1) := by
  obtain ⟨hl, ha⟩ := h
  have hx' := ha k (by omega)
  rw [hx, if_neg (by omega)] at hx'
  have hy' := ha (xs.length - 1 - k) (by omega)
  rw [hy, if_neg (by omega)] at hy'
  refine ⟨by simp [hl], fun t ht => ?_⟩
  by_cases h1 : t = xs.length - 1 - k
  · subst h1
    rw [List.getElem?_set_self (by simp; omega), if_pos (by omega), show xs.length - 1 - (xs.length - 1 - k) = k by omega]
    exact hx'
  · rw [List.getElem?_set_ne (by omega)]
    by_cases h2 : t = k
    · subst h2
      rw [List.getElem?_set_self (by omega), if_pos (by omega)]
      exact hy'
    · rw [List.getElem?_set_ne (by omega), ha t ht]
      by_cases h3 : t < k ∨ xs.length ≤ t + k
      · rw [if_pos h3, if_pos (by omega)]
      · rw [if_neg h3, if_neg (by omega)]
theorem RevAt.done {α : Type} {xs zs : List α} {k : Nat} (h : RevAt xs zs k) (hk : xs.length ≤ 2 * k + 1) : zs = xs.reverse := by
  obtain ⟨hl, ha⟩ := h
  apply List.ext_getElem?
  intro t
  rcases Nat.lt_or_ge t xs.length with ht | ht
  · rw [ha t ht, List.getElem?_reverse ht]
    split
    · rfl
    · congr 1; omega
  · rw [List.getElem?_eq_none (by omega), List.getElem?_eq_none (by simp; omega)]
end Go.Proofs.YthhighljfjeooaaDoor.NatM
