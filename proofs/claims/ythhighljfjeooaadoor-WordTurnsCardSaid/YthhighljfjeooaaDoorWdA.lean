/- Plain mathematics of words: turns, their order, periods. -/
namespace Go.Proofs.YthhighljfjeooaaDoor.WordM

/-- the symbol at a place, counted around -/
def F (w : List Int) (i : Nat) : Int := w.getD (i % w.length) 0
/-- turned by t -/
def rot (w : List Int) (t : Nat) : List Int := (List.range w.length).map fun i => F w (i + t)
theorem rot_length (w : List Int) (t : Nat) : (rot w t).length = w.length := by simp [rot]
theorem F_add (w : List Int) (i : Nat) : F w (i + w.length) = F w i := by unfold F; rw [Nat.add_mod_right]
theorem F_mod (w : List Int) (i : Nat) : F w (i % w.length) = F w i := by unfold F; rw [Nat.mod_mod]
theorem F_get {w : List Int} {i : Nat} (h : i < w.length) : w[i]? = some (F w i) := by
  unfold F
  rw [Nat.mod_eq_of_lt h, List.getD_eq_getElem?_getD, List.getElem?_eq_getElem h]; rfl
theorem rot_get {w : List Int} {t i : Nat} (h : i < w.length) : (rot w t)[i]? = some (F w (i + t)) := by
  unfold rot
  rw [List.getElem?_map, List.getElem?_range h]; rfl
theorem F_rot (w : List Int) (t i : Nat) : F (rot w t) i = F w (i + t) := by
  rcases Nat.eq_zero_or_pos w.length with h | h
  · have h1 := List.eq_nil_of_length_eq_zero h
    subst h1; rfl
  · have h1 : i % w.length < w.length := Nat.mod_lt _ h
    have h2 := rot_get (t := t) h1
    unfold F
    rw [rot_length, List.getD_eq_getElem?_getD, h2]
    show F w (i % w.length + t) = w.getD ((i + t) % w.length) 0
    unfold F
    rw [Nat.mod_add_mod]
theorem ext_F {a b : List Int} (h : a.length = b.length) (hf : ∀ i, i < a.length → F a i = F b i) : a = b := by
  apply List.ext_getElem? ; intro i
  by_cases hi : i < a.length
  · rw [F_get hi, F_get (by omega), hf i hi]
  · rw [List.getElem?_eq_none (by omega), List.getElem?_eq_none (by omega)]
theorem rot_rot (w : List Int) (s t : Nat) : rot (rot w s) t = rot w (s + t) := by
  apply ext_F (by simp [rot_length])
  intro i _
  rw [F_rot, F_rot, F_rot]; congr 1; omega
theorem rot_zero (w : List Int) : rot w 0 = w := by
  apply ext_F (by simp [rot_length])
  intro i _
  rw [F_rot, Nat.add_zero]
theorem rot_mod (w : List Int) (t : Nat) : rot w (t % w.length) = rot w t := by
  apply ext_F (by simp [rot_length])
  intro i _
  rw [F_rot, F_rot]
  unfold F
  rw [Nat.add_mod_mod]
theorem rot_len (w : List Int) : rot w w.length = w := by
  rw [← rot_mod, Nat.mod_self, rot_zero]
theorem rot_drop {w : List Int} {t : Nat} (h : t ≤ w.length) : w.drop t ++ w.take t = rot w t := by
  apply ext_F
  · simp [rot_length]; omega
  intro i hi
  have hl : (w.drop t ++ w.take t).length = w.length := by simp; omega
  rw [hl] at hi
  rw [F_rot]
  have h1 := F_get (w := w.drop t ++ w.take t) (i := i) (by omega)
  apply Option.some.inj
  rw [← h1]
  by_cases hd : i < w.length - t
  · rw [List.getElem?_append_left (by simp; omega), List.getElem?_drop, F_get (by omega)]
    congr 2; omega
  · rw [List.getElem?_append_right (by simp; omega), List.getElem?_take, if_pos (by simp; omega), List.length_drop, F_get (by omega)]
    congr 1
    have := F_add w (i - (w.length - t))
    rw [← this]
    congr 1; omega

/-! ### the order of words of one length -/
def lexC : List Int → List Int → Int
  | x :: a, y :: b => if x < y then -1 else if y < x then 1 else lexC a b
  | _, _ => 0
theorem lexC_self (a : List Int) : lexC a a = 0 := by
  induction a with
  | nil => rfl
  | cons x a ih => unfold lexC; rw [if_neg (by omega), if_neg (by omega), ih]
theorem lexC_swap : ∀ (a b : List Int), lexC b a = -lexC a b
  | [], [] => rfl
  | [], _ :: _ => rfl
  | _ :: _, [] => rfl
  | x :: a, y :: b => by
    unfold lexC
    rcases (by omega : x < y ∨ y < x ∨ x = y) with h | h | h
    · rw [if_neg (by omega), if_pos h, if_pos h]; rfl
    · rw [if_pos h, if_neg (by omega), if_pos h]
    · rw [if_neg (by omega), if_neg (by omega), if_neg (by omega), if_neg (by omega), lexC_swap a b]
theorem lexC_cases : ∀ (a b : List Int), lexC a b = -1 ∨ lexC a b = 0 ∨ lexC a b = 1
  | [], _ => Or.inr (Or.inl (by unfold lexC; rfl))
  | _ :: _, [] => Or.inr (Or.inl rfl)
  | x :: a, y :: b => by
    unfold lexC
    split
    · exact Or.inl rfl
    · split
      · exact Or.inr (Or.inr rfl)
      · exact lexC_cases a b
theorem lexC_eq : ∀ {a b : List Int}, a.length = b.length → lexC a b = 0 → a = b
  | [], [], _, _ => rfl
  | [], _ :: _, h, _ => by simp at h
  | _ :: _, [], h, _ => by simp at h
  | x :: a, y :: b, h, h0 => by
    unfold lexC at h0
    split at h0
    · cases h0
    · split at h0
      · cases h0
      · rw [lexC_eq (by simpa using h) h0, show x = y by omega]
theorem lexC_trans : ∀ {a b c : List Int}, a.length = b.length → b.length = c.length → lexC a b ≤ 0 → lexC b c ≤ 0 → lexC a c ≤ 0
  | [], b, c, _, _, _, _ => by unfold lexC; exact Int.le_refl 0
  | x :: a, [], c, h, _, _, _ => by simp at h
  | x :: a, y :: b, [], _, h, _, _ => by simp at h
  | x :: a, y :: b, z :: c, h1, h2, ha, hb => by
    unfold lexC at ha hb ⊢
    rcases (by omega : x < y ∨ y < x ∨ x = y) with h | h | h
    · rcases (by omega : y < z ∨ z < y ∨ y = z) with k | k | k
      · rw [if_pos (by omega)]; omega
      · rw [if_neg (by omega), if_pos k] at hb; omega
      · rw [if_pos (by omega)]; omega
    · rw [if_neg (by omega), if_pos h] at ha; omega
    · rcases (by omega : y < z ∨ z < y ∨ y = z) with k | k | k
      · rw [if_pos (by omega)]; omega
      · rw [if_neg (by omega), if_pos k] at hb; omega
      · rw [if_neg (by omega), if_neg (by omega)] at ha hb
        rw [if_neg (by omega), if_neg (by omega)]
        exact lexC_trans (by simpa using h1) (by simpa using h2) ha hb
/-- less, by the first place where they differ -/
theorem lexC_lt : ∀ {a b : List Int} (k : Nat), a.length = b.length → (∀ i, i < k → a[i]? = b[i]?) → (∃ x y, a[k]? = some x ∧ b[k]? = some y ∧ x < y) → lexC a b = -1
  | [], _, k, _, _, ⟨x, y, h, _⟩ => by simp at h
  | _ :: _, [], k, h, _, _ => by simp at h
  | x :: a, y :: b, 0, h, _, ⟨x', y', h1, h2, hlt⟩ => by
    simp at h1 h2; subst h1 h2
    unfold lexC; rw [if_pos hlt]
  | x :: a, y :: b, k + 1, h, he, ⟨x', y', h1, h2, hlt⟩ => by
    have h0 := he 0 (by omega)
    simp at h0; subst h0
    unfold lexC; rw [if_neg (by omega), if_neg (by omega)]
    exact lexC_lt k (by simpa using h) (fun i hi => by simpa using he (i + 1) (by omega)) ⟨x', y', by simpa using h1, by simpa using h2, hlt⟩
theorem lexC_gt {a b : List Int} (k : Nat) (h : a.length = b.length) (he : ∀ i, i < k → a[i]? = b[i]?) (hx : ∃ x y, a[k]? = some x ∧ b[k]? = some y ∧ y < x) : lexC a b = 1 := by
  obtain ⟨x, y, h1, h2, hlt⟩ := hx
  have := lexC_lt (a := b) (b := a) k h.symm (fun i hi => (he i hi).symm) ⟨y, x, h2, h1, hlt⟩
  rw [lexC_swap a b] at this
  omega
/-- the order of words -/
def cmpW (a b : List Int) : Int := if a.length < b.length then -1 else if b.length < a.length then 1 else lexC a b
theorem cmpW_len {a b : List Int} (h : a.length = b.length) : cmpW a b = lexC a b := by unfold cmpW; rw [if_neg (by omega), if_neg (by omega)]
theorem cmpW_swap (a b : List Int) : cmpW b a = -cmpW a b := by
  unfold cmpW
  rcases Nat.lt_trichotomy a.length b.length with h | h | h
  · rw [if_neg (by omega), if_pos h, if_pos h]; rfl
  · rw [if_neg (by omega), if_neg (by omega), if_neg (by omega), if_neg (by omega), lexC_swap]
  · rw [if_pos h, if_neg (by omega), if_pos h]

/-! ### periods -/
/-- turned by p it is itself -/
def Per (w : List Int) (p : Nat) : Prop := ∀ i, F w (i + p) = F w i
theorem per_len (w : List Int) : Per w w.length := F_add w
theorem per_zero (w : List Int) : Per w 0 := fun _ => rfl
theorem per_rot {w : List Int} {p : Nat} (h : Per w p) : rot w p = w := ext_F (by simp [rot_length]) fun i _ => by rw [F_rot, h]
theorem per_of_rot {w : List Int} {p : Nat} (h : rot w p = w) : Per w p := fun i => by rw [← F_rot, h]
theorem per_add {w : List Int} {p q : Nat} (h : Per w p) (k : Per w q) : Per w (p + q) := fun i => by rw [← Nat.add_assoc, k, h]
theorem per_sub {w : List Int} {p q : Nat} (h : Per w p) (k : Per w q) (hle : p ≤ q) : Per w (q - p) := fun i => by
  rw [← h (i + (q - p)), Nat.add_assoc, show q - p + p = q by omega, k]
theorem per_gcd {w : List Int} : ∀ (n p q : Nat), p + q ≤ n → Per w p → Per w q → Per w (Nat.gcd p q)
  | 0, p, q, h, hp, hq => by
    obtain rfl : p = 0 := by omega
    obtain rfl : q = 0 := by omega
    exact per_zero w
  | n + 1, p, q, h, hp, hq => by
    rcases Nat.eq_zero_or_pos p with rfl | p0
    · rw [Nat.gcd_zero_left]; exact hq
    rcases Nat.eq_zero_or_pos q with rfl | q0
    · rw [Nat.gcd_zero_right]; exact hp
    rcases Nat.le_total p q with hle | hle
    · have := per_gcd n p (q - p) (by omega) hp (per_sub hp hq hle)
      rwa [Nat.gcd_sub_self_right hle] at this
    · have := per_gcd n (p - q) q (by omega) (per_sub hq hp hle) hq
      rwa [Nat.gcd_sub_self_left hle] at this
/-- the least divisor of the length by which a turn changes nothing -/
def IsPer (w : List Int) (p : Nat) : Prop := 1 ≤ p ∧ p ∣ w.length ∧ Per w p ∧ ∀ q, 1 ≤ q → q < p → ¬ (q ∣ w.length ∧ Per w q)
theorem isPer_unique {w : List Int} {p q : Nat} (h : IsPer w p) (k : IsPer w q) : p = q := by
  obtain ⟨h1, h2, h3, h4⟩ := h
  obtain ⟨k1, k2, k3, k4⟩ := k
  rcases Nat.lt_trichotomy p q with c | c | c
  · exact absurd ⟨h2, h3⟩ (k4 p h1 c)
  · exact c
  · exact absurd ⟨k2, k3⟩ (h4 q k1 c)
theorem isPer_least {w : List Int} {p q : Nat} (h : IsPer w p) (hq0 : 1 ≤ q) (hq : Per w q) : p ≤ q := by
  have hg : Per w (Nat.gcd w.length q) := per_gcd _ _ _ (Nat.le_refl _) (per_len w) hq
  have hg0 : 1 ≤ Nat.gcd w.length q := Nat.gcd_pos_of_pos_right _ hq0
  have hle : Nat.gcd w.length q ≤ q := Nat.le_of_dvd hq0 (Nat.gcd_dvd_right _ _)
  rcases Nat.lt_or_ge (Nat.gcd w.length q) p with c | c
  · exact absurd ⟨Nat.gcd_dvd_left _ _, hg⟩ (h.2.2.2 _ hg0 c)
  · omega
/-- the period of a turned word -/
theorem isPer_rot {w : List Int} {p : Nat} (h : IsPer w p) (t : Nat) : IsPer (rot w t) p := by
  have e : ∀ q, Per (rot w t) q ↔ Per w q := fun q => by
    constructor
    · intro k
      have hk : ∀ i, F w (i + t + q) = F w (i + t) := fun i => by
        have := k i
        rw [F_rot, F_rot] at this
        rw [← this]; congr 1; omega
      intro i
      rcases Nat.eq_zero_or_pos w.length with h0 | h0
      · have h1 := List.eq_nil_of_length_eq_zero h0
        subst h1; rfl
      · -- i = (i + t * (len - 1)) + t up to t * len
        have h1 := hk (i + t * (w.length - 1))
        have e1 : i + t * (w.length - 1) + t = i + t * w.length := by
          obtain ⟨m, hm⟩ : ∃ m, w.length = m + 1 := ⟨w.length - 1, by omega⟩
          rw [hm, Nat.add_sub_cancel, Nat.mul_succ]; omega
        rw [e1] at h1
        unfold F at h1 ⊢
        rw [show i + t * w.length + q = i + q + t * w.length by omega, Nat.add_mul_mod_self_right, Nat.add_mul_mod_self_right] at h1
        exact h1
    · intro k i
      rw [F_rot, F_rot, show i + q + t = i + t + q by omega, k]
  obtain ⟨h1, h2, h3, h4⟩ := h
  refine ⟨h1, by rw [rot_length]; exact h2, (e p).2 h3, fun q hq hlt => ?_⟩
  rw [rot_length, e]
  exact h4 q hq hlt
/-- where the piece behind p is the piece ahead of the last p, for a divisor p -/
theorem per_piece {w : List Int} {p : Nat} (hd : p ∣ w.length) (h : ∀ i, i + p < w.length → w[i + p]? = w[i]?) : Per w p := by
  rcases Nat.eq_zero_or_pos w.length with h0 | h0
  · have h1 := List.eq_nil_of_length_eq_zero h0
    subst h1; intro i; rfl
  have hp0 : 0 < p := by
    rcases Nat.eq_zero_or_pos p with rfl | k
    · have := Nat.eq_zero_of_zero_dvd hd; omega
    · exact k
  have hm : ∀ n i, i < n → i < w.length → F w i = F w (i % p) := by
    intro n
    induction n with
    | zero => intro i h; omega
    | succ n ih =>
      intro i hi hil
      rcases Nat.lt_or_ge i p with k | k
      · rw [Nat.mod_eq_of_lt k]
      · have h1 := h (i - p) (by omega)
        rw [show i - p + p = i by omega, F_get hil, F_get (by omega)] at h1
        rw [Option.some.inj h1, ih (i - p) (by omega) (by omega)]
        congr 1
        rw [Nat.mod_eq_sub_mod k]
  intro i
  rw [← F_mod w (i + p), ← F_mod w i, hm _ _ (Nat.lt_succ_self _) (Nat.mod_lt _ h0), hm _ _ (Nat.lt_succ_self _) (Nat.mod_lt _ h0), Nat.mod_mod_of_dvd _ hd, Nat.mod_mod_of_dvd _ hd, Nat.add_mod_right]
theorem piece_per {w : List Int} {p : Nat} (h : Per w p) (i : Nat) (hi : i + p < w.length) : w[i + p]? = w[i]? := by
  rw [F_get hi, F_get (by omega), h]
end Go.Proofs.YthhighljfjeooaaDoor.WordM
