/- Plain mathematics of sums of lists of digits, step by step; no part of the program. -/
import Derived.Test.YthhighljfjeooaaDoorNatM
namespace Go.Proofs.YthhighljfjeooaaDoor.NatM
theorem pow_pos' {B : Nat} (hB : 1 ≤ B) (k : Nat) : 0 < B ^ k := Nat.pow_pos (by omega)
theorem nrm_of_ge {B : Nat} (hB : 2 ≤ B) {t : List Nat} (ho : okB B t) (h : t = [] ∨ B ^ (t.length - 1) ≤ valB B t) : nrm t := by
  rcases h with rfl | h
  · intro x hx; cases hx
  · intro x hx hx0
    subst hx0
    rw [List.getLast?_eq_getElem?] at hx
    have h1 := valB_takeq B hx
    have hl := get_lt hx
    rw [show t.length - 1 + 1 = t.length by omega, List.take_length] at h1
    have h2 := valB_lt (B := B) (by omega) (okB_take ho (t.length - 1))
    rw [List.length_take, Nat.min_eq_left (by omega)] at h2
    simp at h1
    omega
theorem ge_of_nrm {B : Nat} (_ : 2 ≤ B) {t : List Nat} (hn : nrm t) (hne : t ≠ []) : B ^ (t.length - 1) ≤ valB B t := by
  have hl : 0 < t.length := List.length_pos_iff.2 hne
  obtain ⟨x, hx⟩ := some_get (l := t) (k := t.length - 1) (by omega)
  have h0 := hn x (by rw [List.getLast?_eq_getElem?]; exact hx)
  have h1 := valB_takeq B hx
  rw [show t.length - 1 + 1 = t.length by omega, List.take_length] at h1
  have : B ^ (t.length - 1) * 1 ≤ B ^ (t.length - 1) * x := Nat.mul_le_mul_left _ (by omega)
  omega

/-- Where a sum stands when k limbs of m have been added to s. -/
structure RInv (B : Nat) (s m : List Nat) (k c : Nat) (t : List Nat) : Prop where
  ok : okB B t
  len : t.length = max s.length k
  car : c ≤ 1
  val : valB B t + B ^ k * c = valB B s + valB B (m.take k)
  bnd : k ≤ max s.length m.length + 1
  top : k = max s.length m.length + 1 → B ^ max s.length m.length ≤ valB B s + valB B m
theorem RInv.start {B : Nat} {s m : List Nat} (hs : okB B s) : RInv B s m 0 0 s :=
  ⟨hs, by simp, by omega, by simp [valB], by omega, by omega⟩
theorem valB_take_all (B : Nat) {m : List Nat} {k : Nat} (h : m.length ≤ k) : valB B (m.take k) = valB B m := by rw [List.take_of_length_le h]
theorem valB_take_le (B : Nat) (m : List Nat) (k : Nat) : valB B (m.take k) ≤ valB B m := by
  rcases Nat.le_total k m.length with h | h
  · have := valB_split B m k h; omega
  · rw [valB_take_all B h]; exact Nat.le_refl _
theorem RInv.stop {B : Nat} (hB : 2 ≤ B) {s m : List Nat} (hs : okB B s) (hm : okB B m) {k c : Nat} {t : List Nat} (h : RInv B s m k c t) (hk : max s.length m.length < k) : c = 0 := by
  have hv := h.val
  have h1 := valB_take_le B m k
  have h2 := valB_lt (B := B) (by omega) hs
  have h3 := valB_lt (B := B) (by omega) hm
  have h4 : B ^ s.length ≤ B ^ max s.length m.length := Nat.pow_le_pow_right (by omega) (by omega)
  have h5 : B ^ m.length ≤ B ^ max s.length m.length := Nat.pow_le_pow_right (by omega) (by omega)
  have h6 : B ^ (max s.length m.length + 1) ≤ B ^ k := Nat.pow_le_pow_right (by omega) (by omega)
  rw [Nat.pow_succ] at h6
  have h7 : B ^ max s.length m.length * 2 ≤ B ^ max s.length m.length * B := Nat.mul_le_mul_left _ hB
  rcases Nat.eq_zero_or_pos c with h | h
  · exact h
  · have : B ^ k * 1 ≤ B ^ k * c := Nat.mul_le_mul_left _ h
    omega
/-- The next limb of m, 0 behind its end. -/
def limbAt (m : List Nat) (k : Nat) : Nat := m.getD k 0
theorem limb_some {m : List Nat} {k y : Nat} (h : m[k]? = some y) : limbAt m k = y := by unfold limbAt; rw [List.getD_eq_getElem?_getD, h]; rfl
theorem limb_none {m : List Nat} {k : Nat} (h : m.length ≤ k) : limbAt m k = 0 := by unfold limbAt; rw [List.getD_eq_getElem?_getD, List.getElem?_eq_none h]; rfl
theorem limb_lt {B : Nat} (hB : 1 ≤ B) {m : List Nat} (hm : okB B m) (k : Nat) : limbAt m k < B := by
  rcases Nat.lt_or_ge k m.length with h | h
  · obtain ⟨y, hy⟩ := some_get h
    rw [limb_some hy]; exact ok_get hm hy
  · rw [limb_none h]; omega
theorem valB_take_limb (B : Nat) (m : List Nat) (k : Nat) : valB B (m.take (k + 1)) = valB B (m.take k) + B ^ k * limbAt m k := by
  rcases Nat.lt_or_ge k m.length with h | h
  · obtain ⟨y, hy⟩ := some_get h
    rw [limb_some hy, valB_takeq B hy]
  · rw [limb_none h, valB_take_all B h, valB_take_all B (by omega)]; simp
/-- The sum's list, one longer where it ends at k. -/
def grown (t : List Nat) (k : Nat) : List Nat := if k = t.length then t ++ [0] else t
theorem grown_val (B : Nat) (t : List Nat) (k : Nat) : valB B (grown t k) = valB B t := by
  unfold grown
  split
  · rw [valB_snoc]; simp
  · rfl
theorem step_eq {B : Nat} {x y c : Nat} : (x + y + c) % B + B * ((x + y + c) / B) = x + y + c := Nat.mod_add_div _ _
theorem carry_step {B T T' P x y c V M r q : Nat} (h1 : T' + P * x = T + P * r) (h2 : T + P * c = V + M) (h3 : r + B * q = x + y + c) : T' + P * B * q = V + (M + P * y) := by
  have e : P * (r + B * q) = P * (x + y + c) := by rw [h3]
  rw [Nat.mul_add, Nat.mul_add, Nat.mul_add, ← Nat.mul_assoc] at e
  omega
theorem RInv.step {B : Nat} (hB : 2 ≤ B) {s m : List Nat} (hs : okB B s) (hm : okB B m) {k c x : Nat} {t : List Nat} (h : RInv B s m k c t) (hgo : k < m.length ∨ c ≠ 0) (hx : (grown t k)[k]? = some x) :
    RInv B s m (k + 1) ((x + limbAt m k + c) / B) ((grown t k).set k ((x + limbAt m k + c) % B)) := by
  have hle : k ≤ max s.length m.length := by
    rcases Nat.lt_or_ge (max s.length m.length) k with h1 | h1
    · have := h.stop hB hs hm h1
      omega
    · exact h1
  have hgo' : okB B (grown t k) := by
    unfold grown; split
    · exact okB_snoc h.ok (by omega)
    · exact h.ok
  have hxl := ok_get hgo' hx
  have hyl := limb_lt (by omega : 1 ≤ B) hm k
  have hc := h.car
  refine ⟨okB_set hgo' (Nat.mod_lt _ (by omega)) _, ?_, ?_, ?_, by omega, ?_⟩
  · rw [List.length_set]; unfold grown; have := h.len; split
    · rw [List.length_append, List.length_singleton]; omega
    · omega
  · have : (x + limbAt m k + c) / B < 2 := by
      rw [Nat.div_lt_iff_lt_mul (by omega)]; omega
    omega
  · rw [valB_take_limb, Nat.pow_succ]
    exact carry_step (by rw [valB_setq B _ hx, grown_val]) h.val step_eq
  · intro hk
    have hkm : m.length ≤ k := by omega
    have hc0 : c ≠ 0 := by omega
    have hv := h.val
    rw [valB_take_all B hkm, show k = max s.length m.length by omega] at hv
    have : B ^ max s.length m.length * 1 ≤ B ^ max s.length m.length * c := Nat.mul_le_mul_left _ (by omega)
    omega
theorem RInv.done {B : Nat} (hB : 2 ≤ B) {s m : List Nat} (hs : nrm s) (hm : nrm m) {k : Nat} {t : List Nat} (h : RInv B s m k 0 t) (hk : m.length ≤ k) : digs B (valB B s + valB B m) = t := by
  have hv := h.val
  rw [valB_take_all B hk] at hv
  refine digs_unique hB h.ok (nrm_of_ge hB h.ok ?_) (by omega)
  have hl := h.len
  rcases Nat.eq_zero_or_pos t.length with h0 | h0
  · exact Or.inl (List.eq_nil_of_length_eq_zero h0)
  · right
    rcases Nat.lt_or_ge (max s.length m.length) t.length with h1 | h1
    · have := h.bnd
      have hk1 : k = max s.length m.length + 1 := by omega
      have := h.top hk1
      rw [show t.length - 1 = max s.length m.length by omega]
      omega
    · rcases Nat.le_total s.length m.length with h2 | h2
      · have := ge_of_nrm hB hm (List.length_pos_iff.1 (by omega))
        rw [show t.length - 1 = m.length - 1 by omega]
        omega
      · have := ge_of_nrm hB hs (List.length_pos_iff.1 (by omega))
        rw [show t.length - 1 = s.length - 1 by omega]
        omega
theorem grown_get {B : Nat} {s m : List Nat} {k c : Nat} {t : List Nat} (h : RInv B s m k c t) : ∃ x, (grown t k)[k]? = some x := by
  apply some_get
  have := h.len
  unfold grown
  split
  · rw [List.length_append, List.length_singleton]; omega
  · omega
end Go.Proofs.YthhighljfjeooaaDoor.NatM
