/- Plain mathematics of products, of a number times a limb, of division by a limb, and of the order; no part of the program. -/
import Derived.Test.YthhighljfjeooaaDoorNatR
namespace Go.Proofs.YthhighljfjeooaaDoor.NatM
/-! ### products -/
structure MInv (B : Nat) (a b : List Nat) (i j x c : Nat) (P : List Nat) : Prop where
  ok : okB B P
  len : P.length = a.length + b.length
  car : c < B
  zero : ∀ t, i + b.length ≤ t → t < P.length → P[t]? = some 0
  val : valB B P + B ^ (i + j) * c = valB B (a.take i) * valB B b + B ^ i * x * valB B (b.take j)
theorem mul_car {B c x y p : Nat} (hc : c < B) (hx : x < B) (hy : y < B) (hp : p < B) : c + (x * y + p) < B * B := by
  have h1 : x * y ≤ (B - 1) * (B - 1) := Nat.mul_le_mul (by omega) (by omega)
  obtain ⟨k, rfl⟩ : ∃ k, B = k + 1 := ⟨B - 1, by omega⟩
  simp only [Nat.add_sub_cancel] at h1
  have : (k + 1) * (k + 1) = k * k + 2 * k + 1 := by rw [Nat.add_mul, Nat.mul_add]; omega
  omega
theorem MInv.start {B : Nat} (hB : 1 ≤ B) (a b : List Nat) (x : Nat) : MInv B a b 0 0 x 0 (List.replicate (a.length + b.length) 0) :=
  ⟨okB_replicate hB _, List.length_replicate, by omega, fun t _ h => by
    rw [List.length_replicate] at h
    rw [List.getElem?_replicate, if_pos h], by rw [valB_replicate]; simp [valB]⟩
theorem MInv.step {B : Nat} {a b : List Nat} {i j x c p y : Nat} {P : List Nat} (h : MInv B a b i j x c P) (hx : x < B) (hb : okB B b) (hj : j < b.length) (hy : b[j]? = some y) (hp : P[i + j]? = some p) :
    MInv B a b i (j + 1) x ((c + (x * y + p)) / B) (P.set (i + j) ((c + (x * y + p)) % B)) := by
  have hc := h.car
  have hB : 0 < B := by omega
  have hyl := ok_get hb hy
  have hpl := ok_get h.ok hp
  refine ⟨okB_set h.ok (Nat.mod_lt _ hB) _, by rw [List.length_set]; exact h.len, ?_, ?_, ?_⟩
  · rw [Nat.div_lt_iff_lt_mul hB]; exact mul_car hc hx hyl hpl
  · intro t h1 h2
    rw [List.length_set] at h2
    rw [List.getElem?_set_ne (by omega)]
    exact h.zero t h1 h2
  · have h1 := valB_setq B ((c + (x * y + p)) % B) hp
    have h2 := valB_takeq B hy
    have h3 := h.val
    have h4 : (c + (x * y + p)) % B + B * ((c + (x * y + p)) / B) = c + (x * y + p) := Nat.mod_add_div _ _
    rw [h2, show i + (j + 1) = i + j + 1 by omega, Nat.pow_succ]
    generalize (c + (x * y + p)) % B = r at *
    generalize (c + (x * y + p)) / B = q at *
    have h5 : B ^ (i + j) = B ^ i * B ^ j := Nat.pow_add _ _ _
    rw [h5] at *
    grind
theorem MInv.row {B : Nat} {a b : List Nat} {i x c : Nat} {P : List Nat} (h : MInv B a b i b.length x c P) (hi : i < a.length) (hx : a[i]? = some x) (x' : Nat) :
    MInv B a b (i + 1) 0 x' 0 (P.set (i + b.length) c) := by
  have hc := h.car
  have hl := h.len
  refine ⟨okB_set h.ok hc _, by rw [List.length_set]; exact hl, by omega, ?_, ?_⟩
  · intro t h1 h2
    rw [List.length_set] at h2
    rw [List.getElem?_set_ne (by omega)]
    exact h.zero t (by omega) h2
  · have h1 := valB_setq B c (h.zero (i + b.length) (Nat.le_refl _) (by omega))
    have h2 := valB_takeq B hx
    have h3 := h.val
    rw [List.take_length] at h3
    rw [h2]
    simp [valB] at *
    rw [Nat.add_mul]
    omega
theorem MInv.again {B : Nat} {a b : List Nat} {i c x : Nat} {P : List Nat} (h : MInv B a b i 0 x c P) (hc : c = 0) (x' : Nat) : MInv B a b i 0 x' 0 P :=
  ⟨h.ok, h.len, by have := h.car; omega, h.zero, by have := h.val; subst hc; simp [valB] at *; exact this⟩
theorem MInv.done {B : Nat} {a b : List Nat} {x c : Nat} {P : List Nat} (h : MInv B a b a.length 0 x c P) (hc : c = 0) : valB B P = valB B a * valB B b := by
  have := h.val
  subst hc
  rw [List.take_length] at this
  simpa [valB] using this

/-! ### a number times a limb plus a limb, in place -/
structure EInv (B : Nat) (a : List Nat) (m c0 i c : Nat) (t : List Nat) : Prop where
  ok : okB B t
  len : t.length = a.length
  car : c < B
  rest : t.drop i = a.drop i
  val : valB B (t.take i) + B ^ i * c = valB B (a.take i) * m + c0
theorem EInv.start {B : Nat} {a : List Nat} (ha : okB B a) (m c0 : Nat) (hc : c0 < B) : EInv B a m c0 0 c0 a := ⟨ha, rfl, hc, rfl, by simp [valB]⟩
theorem drop_set_succ {l : List Nat} {k y : Nat} : (l.set k y).drop (k + 1) = l.drop (k + 1) := by
  rw [List.drop_set]; simp
theorem get_of_drop {s t : List Nat} {k : Nat} (h : s.drop k = t.drop k) : s[k]? = t[k]? := by
  have := congrArg (fun l : List Nat => l[0]?) h
  simpa using this
theorem drop_succ_of {s t : List Nat} {k : Nat} (h : s.drop k = t.drop k) : s.drop (k + 1) = t.drop (k + 1) := by
  have := congrArg (fun l : List Nat => l.drop 1) h
  simpa [List.drop_drop] using this
theorem EInv.step {B : Nat} {a : List Nat} {m c0 i c x : Nat} {t : List Nat} (ha : okB B a) (hm : m < B) (h : EInv B a m c0 i c t) (hx : a[i]? = some x) :
    EInv B a m c0 (i + 1) ((c + x * m) / B) (t.set i ((c + x * m) % B)) := by
  have hc := h.car
  have hB : 0 < B := by omega
  have hxl := ok_get ha hx
  have hxt : t[i]? = some x := (get_of_drop h.rest).trans hx
  refine ⟨okB_set h.ok (Nat.mod_lt _ hB) _, by rw [List.length_set]; exact h.len, ?_, ?_, ?_⟩
  · rw [Nat.div_lt_iff_lt_mul hB]
    have := mul_car (p := 0) hc hxl hm hB
    omega
  · rw [drop_set_succ]; exact drop_succ_of h.rest
  · rw [set_takeq hxt, valB_snoc, List.length_take, Nat.min_eq_left (by have := get_lt hxt; omega), valB_takeq B hx]
    have h3 := h.val
    have h4 : (c + x * m) % B + B * ((c + x * m) / B) = c + x * m := Nat.mod_add_div _ _
    generalize (c + x * m) % B = r at *
    generalize (c + x * m) / B = q at *
    rw [Nat.pow_succ]
    grind
theorem EInv.done {B : Nat} {a : List Nat} {m c0 c : Nat} {t : List Nat} (h : EInv B a m c0 a.length c t) : valB B (t ++ [c]) = valB B a * m + c0 := by
  have h1 := h.val
  rw [List.take_length] at h1
  rw [valB_snoc, h.len]
  rw [show t.take a.length = t by rw [← h.len, List.take_length]] at h1
  exact h1
theorem EInv.done0 {B : Nat} {a : List Nat} {m c0 : Nat} {t : List Nat} (h : EInv B a m c0 a.length 0 t) : valB B t = valB B a * m + c0 := by
  have := h.done
  rw [valB_snoc] at this
  simpa using this
theorem nrm_snoc {t : List Nat} {c : Nat} (h : c ≠ 0) : nrm (t ++ [c]) := by
  intro x hx
  simp at hx
  omega
theorem EInv.nrm0 {B : Nat} (hB : 2 ≤ B) {a : List Nat} {m c0 : Nat} {t : List Nat} (h : EInv B a m c0 a.length 0 t) (ha : nrm a) (hm : 1 ≤ m) : nrm t := by
  refine nrm_of_ge hB h.ok ?_
  rcases Nat.eq_zero_or_pos a.length with h0 | h0
  · exact Or.inl (List.eq_nil_of_length_eq_zero (by rw [h.len]; exact h0))
  · right
    have h1 := ge_of_nrm hB ha (List.length_pos_iff.1 h0)
    have h2 := h.done0
    have h3 : valB B a * 1 ≤ valB B a * m := Nat.mul_le_mul_left _ hm
    rw [h.len]
    omega

/-! ### division by a limb, from the top -/
structure VInv (B : Nat) (a : List Nat) (d k r : Nat) (t : List Nat) : Prop where
  ok : okB B t
  len : t.length = a.length
  rem : r < d
  rest : t.take k = a.take k
  val : valB B (t.drop k) * d + r = valB B (a.drop k)
theorem VInv.start {B : Nat} {a : List Nat} (ha : okB B a) {d : Nat} (hd : 0 < d) : VInv B a d a.length 0 a := ⟨ha, rfl, hd, rfl, by simp [valB]⟩
theorem get_of_take {s t : List Nat} {k j : Nat} (h : s.take k = t.take k) (hj : j < k) : s[j]? = t[j]? := by
  have := congrArg (fun l : List Nat => l[j]?) h
  simp only [List.getElem?_take] at this
  rwa [if_pos hj, if_pos hj] at this
theorem div_lt_base {B r x d : Nat} (hr : r < d) (hx : x < B) : (r * B + x) / d < B := by
  rw [Nat.div_lt_iff_lt_mul (by omega)]
  have : (r + 1) * B ≤ d * B := Nat.mul_le_mul_right _ hr
  rw [Nat.add_mul] at this
  rw [Nat.mul_comm B d]
  omega
theorem VInv.step {B : Nat} {a : List Nat} {d j r x : Nat} {t : List Nat} (ha : okB B a) (h : VInv B a d (j + 1) r t) (hx : a[j]? = some x) :
    VInv B a d j ((r * B + x) % d) (t.set j ((r * B + x) / d)) := by
  have hr := h.rem
  have hxl := ok_get ha hx
  have hxt : t[j]? = some x := (get_of_take h.rest (by omega)).trans hx
  have hq := div_lt_base hr hxl
  refine ⟨okB_set h.ok hq _, by rw [List.length_set]; exact h.len, Nat.mod_lt _ (by omega), ?_, ?_⟩
  · rw [List.take_set_of_le (Nat.le_refl _)]
    have := congrArg (fun l : List Nat => l.take j) h.rest
    simpa [List.take_take] using this
  · have h1 : (t.set j ((r * B + x) / d))[j]? = some ((r * B + x) / d) := by rw [List.getElem?_set_self (get_lt hxt)]
    rw [valB_dropq B h1, drop_set_succ, valB_dropq B hx]
    have h3 := h.val
    have h4 : (r * B + x) % d + d * ((r * B + x) / d) = r * B + x := Nat.mod_add_div _ _
    generalize (r * B + x) % d = r' at *
    generalize (r * B + x) / d = q at *
    grind
theorem VInv.done {B : Nat} {a : List Nat} {d r : Nat} {t : List Nat} (h : VInv B a d 0 r t) : valB B t = valB B a / d ∧ r = valB B a % d := by
  have h1 := h.val
  have h2 := h.rem
  simp at h1
  have e : r + d * valB B t = valB B a := by rw [Nat.mul_comm]; omega
  constructor
  · rw [← e, Nat.add_mul_div_left _ _ (by omega), Nat.div_eq_of_lt h2]; omega
  · rw [← e, Nat.add_mul_mod_self_left, Nat.mod_eq_of_lt h2]

/-! ### order -/
def cmpN (a b : Nat) : Int := if a < b then -1 else if b < a then 1 else 0
theorem cmp_lt {a b : Nat} (h : a < b) : cmpN a b = -1 := by unfold cmpN; rw [if_pos h]
theorem cmp_gt {a b : Nat} (h : b < a) : cmpN a b = 1 := by unfold cmpN; rw [if_neg (by omega), if_pos h]
theorem cmp_eq (a : Nat) : cmpN a a = 0 := by unfold cmpN; rw [if_neg (by omega), if_neg (by omega)]
theorem trim_ex {B : Nat} (hB : 2 ≤ B) {l : List Nat} (ho : okB B l) : ∃ k, k ≤ l.length ∧ l.take k = digs B (valB B l) := by
  have key : ∀ n, n ≤ l.length → valB B (l.take n) = valB B l → ∃ k, k ≤ l.length ∧ l.take k = digs B (valB B l) := by
    intro n
    induction n with
    | zero => intro _ hv; exact ⟨0, Nat.zero_le _, (trim0 hB ho hv).symm⟩
    | succ n ih =>
      intro hn hv
      obtain ⟨x, hx⟩ := some_get (l := l) (k := n) (by omega)
      by_cases h0 : x = 0
      · subst h0
        exact ih (by omega) (trim_stepq B (k := n + 1) (by omega) hn hv hx)
      · exact ⟨n + 1, hn, trimq hB ho (k := n + 1) hn hv hx h0⟩
  exact key l.length (Nat.le_refl _) (by rw [List.take_length])
end Go.Proofs.YthhighljfjeooaaDoor.NatM
