/- 
Plain mathematics of words: the least turn.
Plain mathematics of words: words as numbers, the next word, repeats.
Plain mathematics of rules: their windows, their tables, images of words.
Plain mathematics of rings: their images, later rings, traces.
Plain mathematics of rows: their symbols, pieces, images; when two are one.
What every walk of ours stands on: worlds below, rows that the call owns, slices that read a list of values.
Posts of calls that only draw.
Lists of ints in memory: slices that read one, rows that the call owns, edenraw.Ints.

Plain mathematics of sums of lists of digits, step by step; no part of the program.
Plain mathematics of products, of a number times a limb, of division by a limb, and of the order; no part of the program.
Plain mathematics of decimal digits, and of turning a list round; no part of the program.
Lists of ints: slices.Clone, slices.Reverse.
cmp.Compare, slices.Compare, slices.Equal of ints.
Closed facts on this program's errors for the library's errors.Is and errors.As, and the error trees: each fact holds for every value and world it names.
errors.Is by its contract: of any error tree and any target that is a pointer of one of the two kinds, it finds just what the tree holds, and leaves old memory alone. -/
import Derived.Test.YtfgoflaeclfggaaDoorProg
import Derived.WalkKit
import Derived.WalkSmall
import Derived.Deep.QuietTactic
import Derived.BigQuiet
import Derived.Deep.LoopGhost
import Derived.Lib.Hide
import Derived.Lib.QuietBelow
import Derived.Outline
import Derived.Laws.AppendOwn
import Derived.WalkSpells
import Derived.Maps.AppendAt
import Derived.OwnWalk
import Derived.Laws.MakeOwn
import Derived.RegionTactic
import Derived.ChangeAlike
import Derived.LaidEql
import Derived.Stop.Asserts
import Derived.RowKitTokens
section
/- Plain mathematics of words: turns, their order, periods. -/
namespace Go.Proofs.YtfgoflaeclfggaaDoor.WordM

/-- the symbol at a place, counted around -/
def F (w : List Int) (i : Nat) : Int := w.getD (i % w.length) 0
/-- turned by t -/
def rot (w : List Int) (t : Nat) : List Int := (List.range w.length).map fun i => F w (i + t)
theorem rot_length (w : List Int) (t : Nat) : (rot w t).length = w.length := by simp [rot]
theorem F_add (w : List Int) (i : Nat) : F w (i + w.length) = F w i := by unfold F; rw [Nat.add_mod_right]
theorem F_mod (w : List Int) (i : Nat) : F w (i % w.length) = F w i := by unfold F; rw [Nat.mod_mod]
theorem F_get {w : List Int} {i : Nat} (h : i < w.length) : w[i]? = some (F w i) := by
  unfold F
  rw [Nat.mod_eq_of_lt h, List.getD_eq_getElem?_getD, List.getElem?_eq_getElem h]; rfl
theorem rot_get {w : List Int} {t i : Nat} (h : i < w.length) : (rot w t)[i]? = some (F w (i + t)) := by
  unfold rot
  rw [List.getElem?_map, List.getElem?_range h]; rfl
theorem F_rot (w : List Int) (t i : Nat) : F (rot w t) i = F w (i + t) := by
  rcases Nat.eq_zero_or_pos w.length with h | h
  · have h1 := List.eq_nil_of_length_eq_zero h
    subst h1; rfl
  · have h1 : i % w.length < w.length := Nat.mod_lt _ h
    have h2 := rot_get (t := t) h1
    unfold F
    rw [rot_length, List.getD_eq_getElem?_getD, h2]
    show F w (i % w.length + t) = w.getD ((i + t) % w.length) 0
    unfold F
    rw [Nat.mod_add_mod]
theorem ext_F {a b : List Int} (h : a.length = b.length) (hf : ∀ i, i < a.length → F a i = F b i) : a = b := by
  apply List.ext_getElem? ; intro i
  by_cases hi : i < a.length
  · rw [F_get hi, F_get (by omega), hf i hi]
  · rw [List.getElem?_eq_none (by omega), List.getElem?_eq_none (by omega)]
theorem rot_rot (w : List Int) (s t : Nat) : rot (rot w s) t = rot w (s + t) := by
  apply ext_F (by simp [rot_length])
  intro i _
  rw [F_rot, F_rot, F_rot]; congr 1; omega
theorem rot_zero (w : List Int) : rot w 0 = w := by
  apply ext_F (by simp [rot_length])
  intro i _
  rw [F_rot, Nat.add_zero]
theorem rot_mod (w : List Int) (t : Nat) : rot w (t % w.length) = rot w t := by
  apply ext_F (by simp [rot_length])
  intro i _
  rw [F_rot, F_rot]
  unfold F
  rw [Nat.add_mod_mod]
theorem rot_len (w : List Int) : rot w w.length = w := by
  rw [← rot_mod, Nat.mod_self, rot_zero]
theorem rot_drop {w : List Int} {t : Nat} (h : t ≤ w.length) : w.drop t ++ w.take t = rot w t := by
  apply ext_F
  · simp [rot_length]; omega
  intro i hi
  have hl : (w.drop t ++ w.take t).length = w.length := by simp; omega
  rw [hl] at hi
  rw [F_rot]
  have h1 := F_get (w := w.drop t ++ w.take t) (i := i) (by omega)
  apply Option.some.inj
  rw [← h1]
  by_cases hd : i < w.length - t
  · rw [List.getElem?_append_left (by simp; omega), List.getElem?_drop, F_get (by omega)]
    congr 2; omega
  · rw [List.getElem?_append_right (by simp; omega), List.getElem?_take, if_pos (by simp; omega), List.length_drop, F_get (by omega)]
    congr 1
    have := F_add w (i - (w.length - t))
    rw [← this]
    congr 1; omega

/-! ### the order of words of one length -/
def lexC : List Int → List Int → Int
  | x :: a, y :: b => if x < y then -1 else if y < x then 1 else lexC a b
  | _, _ => 0
theorem lexC_self (a : List Int) : lexC a a = 0 := by
  induction a with
  | nil => rfl
  | cons x a ih => unfold lexC; rw [if_neg (by omega), if_neg (by omega), ih]
theorem lexC_swap : ∀ (a b : List Int), lexC b a = -lexC a b
  | [], [] => rfl
  | [], _ :: _ => rfl
  | _ :: _, [] => rfl
  | x :: a, y :: b => by
    unfold lexC
    rcases (by omega : x < y ∨ y < x ∨ x = y) with h | h | h
    · rw [if_neg (by omega), if_pos h, if_pos h]; rfl
    · rw [if_pos h, if_neg (by omega), if_pos h]
    · rw [if_neg (by omega), if_neg (by omega), if_neg (by omega), if_neg (by omega), lexC_swap a b]
theorem lexC_cases : ∀ (a b : List Int), lexC a b = -1 ∨ lexC a b = 0 ∨ lexC a b = 1
  | [], _ => Or.inr (Or.inl (by unfold lexC; rfl))
  | _ :: _, [] => Or.inr (Or.inl rfl)
  | x :: a, y :: b => by
    unfold lexC
    split
    · exact Or.inl rfl
    · split
      · exact Or.inr (Or.inr rfl)
      · exact lexC_cases a b
theorem lexC_eq : ∀ {a b : List Int}, a.length = b.length → lexC a b = 0 → a = b
  | [], [], _, _ => rfl
  | [], _ :: _, h, _ => by simp at h
  | _ :: _, [], h, _ => by simp at h
  | x :: a, y :: b, h, h0 => by
    unfold lexC at h0
    split at h0
    · cases h0
    · split at h0
      · cases h0
      · rw [lexC_eq (by simpa using h) h0, show x = y by omega]
theorem lexC_trans : ∀ {a b c : List Int}, a.length = b.length → b.length = c.length → lexC a b ≤ 0 → lexC b c ≤ 0 → lexC a c ≤ 0
  | [], b, c, _, _, _, _ => by unfold lexC; exact Int.le_refl 0
  | x :: a, [], c, h, _, _, _ => by simp at h
  | x :: a, y :: b, [], _, h, _, _ => by simp at h
  | x :: a, y :: b, z :: c, h1, h2, ha, hb => by
    unfold lexC at ha hb ⊢
    rcases (by omega : x < y ∨ y < x ∨ x = y) with h | h | h
    · rcases (by omega : y < z ∨ z < y ∨ y = z) with k | k | k
      · rw [if_pos (by omega)]; omega
      · rw [if_neg (by omega), if_pos k] at hb; omega
      · rw [if_pos (by omega)]; omega
    · rw [if_neg (by omega), if_pos h] at ha; omega
    · rcases (by omega : y < z ∨ z < y ∨ y = z) with k | k | k
      · rw [if_pos (by omega)]; omega
      · rw [if_neg (by omega), if_pos k] at hb; omega
      · rw [if_neg (by omega), if_neg (by omega)] at ha hb
        rw [if_neg (by omega), if_neg (by omega)]
        exact lexC_trans (by simpa using h1) (by simpa using h2) ha hb
/-- less, by the first place where they differ -/
theorem lexC_lt : ∀ {a b : List Int} (k : Nat), a.length = b.length → (∀ i, i < k → a[i]? = b[i]?) → (∃ x y, a[k]? = some x ∧ b[k]? = some y ∧ x < y) → lexC a b = -1
  | [], _, k, _, _, ⟨x, y, h, _⟩ => by simp at h
  | _ :: _, [], k, h, _, _ => by simp at h
  | x :: a, y :: b, 0, h, _, ⟨x', y', h1, h2, hlt⟩ => by
    simp at h1 h2; subst h1 h2
    unfold lexC; rw [if_pos hlt]
  | x :: a, y :: b, k + 1, h, he, ⟨x', y', h1, h2, hlt⟩ => by
    have h0 := he 0 (by omega)
    simp at h0; subst h0
    unfold lexC; rw [if_neg (by omega), if_neg (by omega)]
    exact lexC_lt k (by simpa using h) (fun i hi => by simpa using he (i + 1) (by omega)) ⟨x', y', by simpa using h1, by simpa using h2, hlt⟩
theorem lexC_gt {a b : List Int} (k : Nat) (h : a.length = b.length) (he : ∀ i, i < k → a[i]? = b[i]?) (hx : ∃ x y, a[k]? = some x ∧ b[k]? = some y ∧ y < x) : lexC a b = 1 := by
  obtain ⟨x, y, h1, h2, hlt⟩ := hx
  have := lexC_lt (a := b) (b := a) k h.symm (fun i hi => (he i hi).symm) ⟨y, x, h2, h1, hlt⟩
  rw [lexC_swap a b] at this
  omega
/-- the order of words -/
def cmpW (a b : List Int) : Int := if a.length < b.length then -1 else if b.length < a.length then 1 else lexC a b
theorem cmpW_len {a b : List Int} (h : a.length = b.length) : cmpW a b = lexC a b := by unfold cmpW; rw [if_neg (by omega), if_neg (by omega)]
theorem cmpW_swap (a b : List Int) : cmpW b a = -cmpW a b := by
  unfold cmpW
  rcases Nat.lt_trichotomy a.length b.length with h | h | h
  · rw [if_neg (by omega), if_pos h, if_pos h]; rfl
  · rw [if_neg (by omega), if_neg (by omega), if_neg (by omega), if_neg (by omega), lexC_swap]
  · rw [if_pos h, if_neg (by omega), if_pos h]

/-! ### periods -/
/-- turned by p it is itself -/
def Per (w : List Int) (p : Nat) : Prop := ∀ i, F w (i + p) = F w i
theorem per_len (w : List Int) : Per w w.length := F_add w
theorem per_zero (w : List Int) : Per w 0 := fun _ => rfl
theorem per_rot {w : List Int} {p : Nat} (h : Per w p) : rot w p = w := ext_F (by simp [rot_length]) fun i _ => by rw [F_rot, h]
theorem per_of_rot {w : List Int} {p : Nat} (h : rot w p = w) : Per w p := fun i => by rw [← F_rot, h]
theorem per_add {w : List Int} {p q : Nat} (h : Per w p) (k : Per w q) : Per w (p + q) := fun i => by rw [← Nat.add_assoc, k, h]
theorem per_sub {w : List Int} {p q : Nat} (h : Per w p) (k : Per w q) (hle : p ≤ q) : Per w (q - p) := fun i => by
  rw [← h (i + (q - p)), Nat.add_assoc, show q - p + p = q by omega, k]
theorem per_gcd {w : List Int} : ∀ (n p q : Nat), p + q ≤ n → Per w p → Per w q → Per w (Nat.gcd p q)
  | 0, p, q, h, hp, hq => by
    obtain rfl : p = 0 := by omega
    obtain rfl : q = 0 := by omega
    exact per_zero w
  | n + 1, p, q, h, hp, hq => by
    rcases Nat.eq_zero_or_pos p with rfl | p0
    · rw [Nat.gcd_zero_left]; exact hq
    rcases Nat.eq_zero_or_pos q with rfl | q0
    · rw [Nat.gcd_zero_right]; exact hp
    rcases Nat.le_total p q with hle | hle
    · have := per_gcd n p (q - p) (by omega) hp (per_sub hp hq hle)
      rwa [Nat.gcd_sub_self_right hle] at this
    · have := per_gcd n (p - q) q (by omega) (per_sub hq hp hle) hq
      rwa [Nat.gcd_sub_self_left hle] at this
/-- the least divisor of the length by which a turn changes nothing -/
def IsPer (w : List Int) (p : Nat) : Prop := 1 ≤ p ∧ p ∣ w.length ∧ Per w p ∧ ∀ q, 1 ≤ q → q < p → ¬ (q ∣ w.length ∧ Per w q)
theorem isPer_unique {w : List Int} {p q : Nat} (h : IsPer w p) (k : IsPer w q) : p = q := by
  obtain ⟨h1, h2, h3, h4⟩ := h
  obtain ⟨k1, k2, k3, k4⟩ := k
  rcases Nat.lt_trichotomy p q with c | c | c
  · exact absurd ⟨h2, h3⟩ (k4 p h1 c)
  · exact c
  · exact absurd ⟨k2, k3⟩ (h4 q k1 c)
theorem isPer_least {w : List Int} {p q : Nat} (h : IsPer w p) (hq0 : 1 ≤ q) (hq : Per w q) : p ≤ q := by
  have hg : Per w (Nat.gcd w.length q) := per_gcd _ _ _ (Nat.le_refl _) (per_len w) hq
  have hg0 : 1 ≤ Nat.gcd w.length q := Nat.gcd_pos_of_pos_right _ hq0
  have hle : Nat.gcd w.length q ≤ q := Nat.le_of_dvd hq0 (Nat.gcd_dvd_right _ _)
  rcases Nat.lt_or_ge (Nat.gcd w.length q) p with c | c
  · exact absurd ⟨Nat.gcd_dvd_left _ _, hg⟩ (h.2.2.2 _ hg0 c)
  · omega
/-- the period of a turned word -/
theorem isPer_rot {w : List Int} {p : Nat} (h : IsPer w p) (t : Nat) : IsPer (rot w t) p := by
  have e : ∀ q, Per (rot w t) q ↔ Per w q := fun q => by
    constructor
    · intro k
      have hk : ∀ i, F w (i + t + q) = F w (i + t) := fun i => by
        have := k i
        rw [F_rot, F_rot] at this
        rw [← this]; congr 1; omega
      intro i
      rcases Nat.eq_zero_or_pos w.length with h0 | h0
      · have h1 := List.eq_nil_of_length_eq_zero h0
        subst h1; rfl
      · -- i = (i + t * (len - 1)) + t up to t * len
        have h1 := hk (i + t * (w.length - 1))
        have e1 : i + t * (w.length - 1) + t = i + t * w.length := by
          obtain ⟨m, hm⟩ : ∃ m, w.length = m + 1 := ⟨w.length - 1, by omega⟩
          rw [hm, Nat.add_sub_cancel, Nat.mul_succ]; omega
        rw [e1] at h1
        unfold F at h1 ⊢
        rw [show i + t * w.length + q = i + q + t * w.length by omega, Nat.add_mul_mod_self_right, Nat.add_mul_mod_self_right] at h1
        exact h1
    · intro k i
      rw [F_rot, F_rot, show i + q + t = i + t + q by omega, k]
  obtain ⟨h1, h2, h3, h4⟩ := h
  refine ⟨h1, by rw [rot_length]; exact h2, (e p).2 h3, fun q hq hlt => ?_⟩
  rw [rot_length, e]
  exact h4 q hq hlt
/-- where the piece behind p is the piece ahead of the last p, for a divisor p -/
theorem per_piece {w : List Int} {p : Nat} (hd : p ∣ w.length) (h : ∀ i, i + p < w.length → w[i + p]? = w[i]?) : Per w p := by
  rcases Nat.eq_zero_or_pos w.length with h0 | h0
  · have h1 := List.eq_nil_of_length_eq_zero h0
    subst h1; intro i; rfl
  have hp0 : 0 < p := by
    rcases Nat.eq_zero_or_pos p with rfl | k
    · have := Nat.eq_zero_of_zero_dvd hd; omega
    · exact k
  have hm : ∀ n i, i < n → i < w.length → F w i = F w (i % p) := by
    intro n
    induction n with
    | zero => intro i h; omega
    | succ n ih =>
      intro i hi hil
      rcases Nat.lt_or_ge i p with k | k
      · rw [Nat.mod_eq_of_lt k]
      · have h1 := h (i - p) (by omega)
        rw [show i - p + p = i by omega, F_get hil, F_get (by omega)] at h1
        rw [Option.some.inj h1, ih (i - p) (by omega) (by omega)]
        congr 1
        rw [Nat.mod_eq_sub_mod k]
  intro i
  rw [← F_mod w (i + p), ← F_mod w i, hm _ _ (Nat.lt_succ_self _) (Nat.mod_lt _ h0), hm _ _ (Nat.lt_succ_self _) (Nat.mod_lt _ h0), Nat.mod_mod_of_dvd _ hd, Nat.mod_mod_of_dvd _ hd, Nat.add_mod_right]
theorem piece_per {w : List Int} {p : Nat} (h : Per w p) (i : Nat) (hi : i + p < w.length) : w[i + p]? = w[i]? := by
  rw [F_get hi, F_get (by omega), h]
end Go.Proofs.YtfgoflaeclfggaaDoor.WordM
end
section
namespace Go.Proofs.YtfgoflaeclfggaaDoor.WordM
/-! ### the least turn -/
/-- turned by l it is behind no other turn, and ahead of those by less -/
def IsLeast (w : List Int) (l : Nat) : Prop := l < w.length ∧ ∀ s, s < w.length → lexC (rot w l) (rot w s) ≤ 0 ∧ (s < l → lexC (rot w l) (rot w s) = -1)
theorem rot_same (w : List Int) (s t : Nat) : (rot w s).length = (rot w t).length := by rw [rot_length, rot_length]
theorem isLeast_unique {w : List Int} {l m : Nat} (h : IsLeast w l) (k : IsLeast w m) : l = m := by
  have swap := lexC_swap (rot w l) (rot w m)
  rcases Nat.lt_trichotomy l m with c | c | c
  · have h1 := (h.2 m k.1).1
    have h2 := (k.2 l h.1).2 c
    rw [swap] at h2
    -- lexC l m = 1 but <= 0
    omega
  · exact c
  · have h1 := (k.2 l h.1).1
    have h2 := (h.2 m k.1).2 c
    omega
/-- the reference's way: the best so far -/
def BestTo (w : List Int) (n b : Nat) : Prop := b < n ∧ ∀ s, s < n → lexC (rot w b) (rot w s) ≤ 0 ∧ (s < b → lexC (rot w b) (rot w s) = -1)
theorem best_one (w : List Int) : BestTo w 1 0 := ⟨by omega, fun s hs => ⟨by rw [show s = 0 by omega, lexC_self]; omega, fun h => by omega⟩⟩
theorem best_keep {w : List Int} {n b : Nat} (h : BestTo w n b) (hc : 0 ≤ lexC (rot w n) (rot w b)) : BestTo w (n + 1) b := by
  refine ⟨by have := h.1; omega, fun s hs => ?_⟩
  rcases (by omega : s < n ∨ s = n) with k | rfl
  · exact h.2 s k
  · rw [lexC_swap (rot w s) (rot w b)]
    exact ⟨by omega, fun k => by have := h.1; omega⟩
theorem best_turn {w : List Int} {n b : Nat} (h : BestTo w n b) (hc : lexC (rot w n) (rot w b) < 0) : BestTo w (n + 1) n := by
  have hm : ∀ s, s < n → lexC (rot w n) (rot w s) = -1 := fun s hs => by
    have h1 := (h.2 s hs).1
    have h2 : lexC (rot w n) (rot w s) ≤ 0 := lexC_trans (rot_same w n b) (rot_same w b s) (by omega) h1
    rcases lexC_cases (rot w n) (rot w s) with k | k | k
    · exact k
    · have e := lexC_eq (rot_same w n s) k
      rw [← e, lexC_swap (rot w n) (rot w b)] at h1
      omega
    · omega
  refine ⟨by omega, fun s hs => ?_⟩
  rcases (by omega : s < n ∨ s = n) with k | rfl
  · exact ⟨by rw [hm s k]; omega, fun _ => hm s k⟩
  · exact ⟨by rw [lexC_self]; omega, fun k => by omega⟩
theorem best_all {w : List Int} {b : Nat} (h : BestTo w w.length b) : IsLeast w b := h
theorem least_exists {w : List Int} (h : 0 < w.length) : ∃ l, IsLeast w l := by
  have : ∀ n, 1 ≤ n → ∃ b, BestTo w n b := by
    intro n
    induction n with
    | zero => intro h; omega
    | succ n ih =>
      intro _
      rcases Nat.eq_zero_or_pos n with rfl | k
      · exact ⟨0, best_one w⟩
      · obtain ⟨b, hb⟩ := ih k
        rcases Int.lt_or_le (lexC (rot w n) (rot w b)) 0 with c | c
        · exact ⟨n, best_turn hb c⟩
        · exact ⟨b, best_keep hb c⟩
  exact this _ h
/-- ruled out: another turn is ahead of it -/
def Out (w : List Int) (s : Nat) : Prop := ∃ t, t < w.length ∧ lexC (rot w t) (rot w s) = -1
theorem out_not {w : List Int} {l : Nat} (h : IsLeast w l) (k : Out w l) : False := by
  obtain ⟨t, ht, e⟩ := k
  have h1 := (h.2 t ht).1
  rw [lexC_swap (rot w t) (rot w l), e] at h1
  omega
/-- the two turns by s + d and t + d, where those by s and t are alike up to k and then part -/
theorem less_shift {w : List Int} {s t k d : Nat} (h0 : 0 < w.length) (hk : k < w.length) (hd : d ≤ k) (he : ∀ i, i < k → F w (s + i) = F w (t + i)) (hlt : F w (s + k) < F w (t + k)) : Out w (t + d) := by
  refine ⟨(s + d) % w.length, Nat.mod_lt _ h0, ?_⟩
  rw [rot_mod]
  refine lexC_lt (k - d) (rot_same w _ _) (fun i hi => ?_) ⟨F w (s + k), F w (t + k), ?_, ?_, hlt⟩
  · rw [rot_get (by omega), rot_get (by omega)]
    have := he (i + d) (by omega)
    rw [show i + (s + d) = s + (i + d) by omega, show i + (t + d) = t + (i + d) by omega, this]
  · rw [rot_get (by omega)]; congr 2; omega
  · rw [rot_get (by omega)]; congr 2; omega
/-- the search's state: all below rival but best are ruled out; same symbols were alike -/
structure Duel (w : List Int) (best rival same : Nat) : Prop where
  lt : best < rival
  out : ∀ s, s < rival → s < w.length → s ≠ best → Out w s
  like : ∀ i, i < same → F w (best + i) = F w (rival + i)
theorem duel_start (w : List Int) : Duel w 0 1 0 := ⟨by omega, fun s h _ k => by omega, fun i h => by omega⟩
theorem duel_same {w : List Int} {best rival same : Nat} (h : Duel w best rival same) (he : F w (best + same) = F w (rival + same)) : Duel w best rival (same + 1) :=
  ⟨h.lt, h.out, fun i hi => by
    rcases (by omega : i < same ∨ i = same) with k | rfl
    · exact h.like i k
    · exact he⟩
theorem duel_less {w : List Int} {best rival same : Nat} (h : Duel w best rival same) (hs : same < w.length) (hlt : F w (best + same) < F w (rival + same)) : Duel w best (rival + same + 1) 0 :=
  ⟨by have := h.lt; omega, fun s hs1 hs2 hs3 => by
    rcases Nat.lt_or_ge s rival with k | k
    · exact h.out s k hs2 hs3
    · have := less_shift (d := s - rival) (by omega) hs (by omega) h.like hlt
      rwa [show rival + (s - rival) = s by omega] at this, fun i hi => by omega⟩
theorem duel_more {w : List Int} {best rival same : Nat} (h : Duel w best rival same) (hs : same < w.length) (hlt : F w (rival + same) < F w (best + same)) : Duel w rival (max (best + same) rival + 1) 0 :=
  ⟨by have := Nat.le_max_right (best + same) rival; omega, fun s hs1 hs2 hs3 => by
    have hmx : s ≤ best + same ∨ s ≤ rival := by
      rcases Nat.le_total (best + same) rival with c | c
      · rw [Nat.max_eq_right c] at hs1; omega
      · rw [Nat.max_eq_left c] at hs1; omega
    have hbr := h.lt
    rcases (by omega : (best ≤ s ∧ s ≤ best + same) ∨ (s < rival ∧ s ≠ best) ∨ s = rival) with k | k | k
    · have := less_shift (d := s - best) (by omega) hs (by omega) (fun i hi => (h.like i hi).symm) hlt
      rwa [show best + (s - best) = s by omega] at this
    · exact h.out s k.1 hs2 k.2
    · omega, fun i hi => by omega⟩
theorem duel_done {w : List Int} {best rival same l : Nat} (h : Duel w best rival same) (hr : w.length ≤ rival) (hl : IsLeast w l) : best = l := by
  apply Decidable.byContradiction
  intro e
  exact out_not hl (h.out l (by have := hl.1; omega) hl.1 (by omega))
theorem duel_alike {w : List Int} {best rival same l : Nat} (h : Duel w best rival same) (hs : w.length ≤ same) (hl : IsLeast w l) : best = l := by
  apply Decidable.byContradiction
  intro e
  rcases Nat.lt_or_ge l rival with k | k
  · exact out_not hl (h.out l k hl.1 (by omega))
  · -- the turn by l less (rival - best) is the same
    have hlt := h.lt
    have e1 : rot w best = rot w rival := by
      apply ext_F (rot_same _ _ _)
      intro i hi
      rw [rot_length] at hi
      rw [F_rot, F_rot]
      have := h.like i (by omega)
      rwa [Nat.add_comm best, Nat.add_comm rival] at this
    have e2 : rot w (l - (rival - best)) = rot w l := by
      have := congrArg (fun x => rot x (l - rival)) e1
      simp only [rot_rot] at this
      rw [show best + (l - rival) = l - (rival - best) by omega, show rival + (l - rival) = l by omega] at this
      exact this
    have h1 := (hl.2 (l - (rival - best)) (by have := hl.1; omega)).2 (by omega)
    rw [e2, lexC_self] at h1
    omega
/-- the least turn of a turned word is the least turn -/
theorem least_rot {w : List Int} {l m t : Nat} (h : IsLeast w l) (k : IsLeast (rot w t) m) : rot (rot w t) m = rot w l := by
  have hw : 0 < w.length := by have := h.1; omega
  have h1 : lexC (rot (rot w t) m) (rot w l) ≤ 0 := by
    -- l = t + s around
    have hs : ∃ s, s < w.length ∧ rot (rot w t) s = rot w l := by
      refine ⟨(l + t * (w.length - 1)) % w.length, Nat.mod_lt _ hw, ?_⟩
      have e := rot_mod (rot w t) (l + t * (w.length - 1))
      rw [rot_length] at e
      rw [e, rot_rot, ← rot_mod w (t + _)]
      have e1 : t + (l + t * (w.length - 1)) = l + t * w.length := by
        obtain ⟨j, hj⟩ : ∃ j, w.length = j + 1 := ⟨w.length - 1, by omega⟩
        rw [hj, Nat.add_sub_cancel, Nat.mul_succ]; omega
      rw [e1, Nat.add_mul_mod_self_right, rot_mod]
    obtain ⟨s, hs1, hs2⟩ := hs
    rw [← hs2]
    exact (k.2 s (by rw [rot_length]; exact hs1)).1
  have h2 : lexC (rot w l) (rot (rot w t) m) ≤ 0 := by
    rw [rot_rot, ← rot_mod w (t + m)]
    exact (h.2 _ (Nat.mod_lt _ hw)).1
  rw [lexC_swap (rot (rot w t) m) (rot w l)] at h2
  exact lexC_eq (by simp [rot_length]) (by omega)
end Go.Proofs.YtfgoflaeclfggaaDoor.WordM
end
section
namespace Go.Proofs.YtfgoflaeclfggaaDoor.WordM
/-! ### words over k symbols, and their numbers -/
def okW (k : Nat) (l : List Int) : Prop := ∀ x ∈ l, 0 ≤ x ∧ x < (k : Int)
def valW (k : Nat) : List Int → Nat
  | [] => 0
  | x :: l => x.toNat * k ^ l.length + valW k l
theorem okW_nil (k : Nat) : okW k [] := fun x h => by cases h
theorem okW_app {k : Nat} {a b : List Int} (ha : okW k a) (hb : okW k b) : okW k (a ++ b) := fun x h => by
  rcases List.mem_append.1 h with h | h
  · exact ha x h
  · exact hb x h
theorem okW_take {k : Nat} {a : List Int} (ha : okW k a) (n : Nat) : okW k (a.take n) := fun x h => ha x (List.mem_of_mem_take h)
theorem okW_drop {k : Nat} {a : List Int} (ha : okW k a) (n : Nat) : okW k (a.drop n) := fun x h => ha x (List.mem_of_mem_drop h)
theorem okW_rep {k : Nat} {x : Int} (hx : 0 ≤ x ∧ x < (k : Int)) (n : Nat) : okW k (List.replicate n x) := fun y h => by
  rw [List.eq_of_mem_replicate h]; exact hx
theorem valW_app (k : Nat) : ∀ (a b : List Int), valW k (a ++ b) = valW k a * k ^ b.length + valW k b
  | [], b => by simp [valW]
  | x :: a, b => by
    show x.toNat * k ^ (a ++ b).length + valW k (a ++ b) = (x.toNat * k ^ a.length + valW k a) * k ^ b.length + valW k b
    rw [valW_app k a b, List.length_append, Nat.pow_add, Nat.add_mul, Nat.mul_assoc, Nat.add_assoc]
theorem valW_snoc (k : Nat) (a : List Int) (x : Int) : valW k (a ++ [x]) = valW k a * k + x.toNat := by
  rw [valW_app]; simp [valW]
theorem valW_lt {k : Nat} : ∀ {a : List Int}, okW k a → valW k a < k ^ a.length
  | [], _ => by simp [valW]
  | x :: a, h => by
    have hx := h x (List.mem_cons_self ..)
    have ih := valW_lt (a := a) (fun y hy => h y (List.mem_cons_of_mem _ hy))
    show x.toNat * k ^ a.length + valW k a < k ^ (a.length + 1)
    rw [Nat.pow_succ]
    have h1 : (x.toNat + 1) * k ^ a.length ≤ k * k ^ a.length := Nat.mul_le_mul_right _ (by omega)
    rw [Nat.add_mul, Nat.one_mul] at h1
    rw [Nat.mul_comm (k ^ a.length) k]
    omega
theorem valW_zero (k n : Nat) : valW k (List.replicate n 0) = 0 := by
  induction n with
  | zero => rfl
  | succ n ih => rw [List.replicate_succ]; show (0 : Int).toNat * _ + valW k _ = 0; rw [ih]; simp
theorem valW_full {k : Nat} (hk : 1 ≤ k) (n : Nat) : valW k (List.replicate n ((k : Int) - 1)) + 1 = k ^ n := by
  induction n with
  | zero => rfl
  | succ n ih =>
    rw [List.replicate_succ]
    show ((k : Int) - 1).toNat * k ^ (List.replicate n ((k : Int) - 1)).length + valW k _ + 1 = k ^ (n + 1)
    rw [Nat.add_assoc, ih, List.length_replicate, Nat.pow_succ, show ((k : Int) - 1).toNat = k - 1 by omega]
    have : (k - 1) * k ^ n + k ^ n = (k - 1 + 1) * k ^ n := by rw [Nat.add_mul, Nat.one_mul]
    rw [this, show k - 1 + 1 = k by omega, Nat.mul_comm]
/-- the order of words of one length is that of their numbers -/
theorem lex_val {k : Nat} : ∀ {a b : List Int}, a.length = b.length → okW k a → okW k b → (lexC a b = -1 ∧ valW k a < valW k b) ∨ (lexC a b = 0 ∧ valW k a = valW k b) ∨ (lexC a b = 1 ∧ valW k b < valW k a)
  | [], [], _, _, _ => Or.inr (Or.inl ⟨rfl, rfl⟩)
  | [], _ :: _, h, _, _ => by simp at h
  | _ :: _, [], h, _, _ => by simp at h
  | x :: a, y :: b, h, ha, hb => by
    have hx := ha x (List.mem_cons_self ..)
    have hy := hb y (List.mem_cons_self ..)
    have ha' : okW k a := fun z hz => ha z (List.mem_cons_of_mem _ hz)
    have hb' : okW k b := fun z hz => hb z (List.mem_cons_of_mem _ hz)
    have hl : a.length = b.length := by simpa using h
    have la := valW_lt ha'
    have lb := valW_lt hb'
    have ih := lex_val hl ha' hb'
    show (lexC (x :: a) (y :: b) = -1 ∧ x.toNat * k ^ a.length + valW k a < y.toNat * k ^ b.length + valW k b) ∨ (_ ∧ x.toNat * k ^ a.length + valW k a = y.toNat * k ^ b.length + valW k b) ∨ (_ ∧ y.toNat * k ^ b.length + valW k b < x.toNat * k ^ a.length + valW k a)
    unfold lexC
    rw [← hl] at lb ⊢
    generalize k ^ a.length = P at *
    rcases (by omega : x < y ∨ y < x ∨ x = y) with c | c | c
    · left
      rw [if_pos c]
      refine ⟨rfl, ?_⟩
      have h1 : (x.toNat + 1) * P ≤ y.toNat * P := Nat.mul_le_mul_right _ (by omega)
      rw [Nat.add_mul, Nat.one_mul] at h1
      omega
    · right; right
      rw [if_neg (by omega), if_pos c]
      refine ⟨rfl, ?_⟩
      have h1 : (y.toNat + 1) * P ≤ x.toNat * P := Nat.mul_le_mul_right _ (by omega)
      rw [Nat.add_mul, Nat.one_mul] at h1
      omega
    · subst c
      rw [if_neg (by omega), if_neg (by omega)]
      rcases ih with ⟨h1, h2⟩ | ⟨h1, h2⟩ | ⟨h1, h2⟩
      · exact Or.inl ⟨h1, by omega⟩
      · exact Or.inr (Or.inl ⟨h1, by omega⟩)
      · exact Or.inr (Or.inr ⟨h1, by omega⟩)
theorem valW_inj {k : Nat} {a b : List Int} (h : a.length = b.length) (ha : okW k a) (hb : okW k b) (e : valW k a = valW k b) : a = b := by
  rcases lex_val h ha hb with ⟨_, h2⟩ | ⟨h1, _⟩ | ⟨_, h2⟩
  · omega
  · exact lexC_eq h h1
  · omega
/-- the word behind it: the last symbol below k - 1 is raised, those behind it are 0; or, where there is none, the first word of the next length -/
def IsNext (k : Nat) (w x : List Int) : Prop :=
  (∃ (i : Nat) (y : Int), w[i]? = some y ∧ y < (k : Int) - 1 ∧ w = w.take i ++ y :: List.replicate (w.length - 1 - i) ((k : Int) - 1) ∧ x = w.take i ++ (y + 1) :: List.replicate (w.length - 1 - i) 0) ∨
  (w = List.replicate w.length ((k : Int) - 1) ∧ x = List.replicate (w.length + 1) 0)
theorem isNext_ok {k : Nat} (hk : 1 ≤ k) {w x : List Int} (h : IsNext k w x) (hw : okW k w) : okW k x := by
  rcases h with ⟨i, y, hy, hlt, _, hx⟩ | ⟨_, hx⟩
  · rw [hx]
    have := hw y (List.mem_of_getElem? hy)
    refine okW_app (okW_take hw _) (fun z hz => ?_)
    rcases List.mem_cons.1 hz with rfl | hz
    · omega
    · exact okW_rep (k := k) (x := 0) (by omega) _ z hz
  · rw [hx]; exact okW_rep (by omega) _
theorem isNext_val {k : Nat} (hk : 1 ≤ k) {w x : List Int} (h : IsNext k w x) (hw : okW k w) :
    (x.length = w.length ∧ valW k x = valW k w + 1) ∨ (x.length = w.length + 1 ∧ valW k x = 0 ∧ valW k w + 1 = k ^ w.length) := by
  rcases h with ⟨i, y, hy, hlt, hw2, hx⟩ | ⟨hw2, hx⟩
  · left
    have hi : i < w.length := by
      obtain ⟨h, _⟩ := List.getElem?_eq_some_iff.1 hy
      exact h
    have hy0 := hw y (List.mem_of_getElem? hy)
    have hl : (w.take i).length = i := by rw [List.length_take]; omega
    refine ⟨by rw [hx]; simp; omega, ?_⟩
    rw [hx]
    have e : valW k w = valW k (w.take i ++ y :: List.replicate (w.length - 1 - i) ((k : Int) - 1)) := by rw [← hw2]
    rw [e, valW_app, valW_app]
    show _ + ((y + 1).toNat * k ^ (List.replicate (w.length - 1 - i) 0).length + valW k (List.replicate (w.length - 1 - i) 0)) = _ + (y.toNat * k ^ (List.replicate (w.length - 1 - i) ((k : Int) - 1)).length + valW k (List.replicate (w.length - 1 - i) ((k : Int) - 1))) + 1
    have hf := valW_full hk (w.length - 1 - i)
    rw [valW_zero, List.length_cons, List.length_cons, List.length_replicate, List.length_replicate, show (y + 1).toNat = y.toNat + 1 by omega, Nat.add_mul, Nat.one_mul]
    omega
  · right
    refine ⟨by rw [hx, List.length_replicate], by rw [hx, valW_zero], ?_⟩
    have e : valW k w = valW k (List.replicate w.length ((k : Int) - 1)) := by rw [← hw2]
    rw [e, valW_full hk]
theorem isNext_unique {k : Nat} (hk : 1 ≤ k) {w x y : List Int} (hw : okW k w) (h : IsNext k w x) (g : IsNext k w y) : x = y := by
  have h1 := isNext_val hk h hw
  have g1 := isNext_val hk g hw
  have h2 := isNext_ok hk h hw
  have g2 := isNext_ok hk g hw
  have hl := valW_lt hw
  have hlx := valW_lt h2
  have hly := valW_lt g2
  rcases h1 with ⟨a1, a2⟩ | ⟨a1, a2, a3⟩
  · rcases g1 with ⟨b1, b2⟩ | ⟨b1, b2, b3⟩
    · exact valW_inj (by omega) h2 g2 (by omega)
    · rw [a1] at hlx; omega
  · rcases g1 with ⟨b1, b2⟩ | ⟨b1, b2, b3⟩
    · rw [b1] at hly; omega
    · exact valW_inj (by omega) h2 g2 (by omega)
theorem isNext_cmp {k : Nat} (hk : 1 ≤ k) {w x : List Int} (h : IsNext k w x) (hw : okW k w) : cmpW w x = -1 := by
  rcases isNext_val hk h hw with ⟨a1, a2⟩ | ⟨a1, a2, a3⟩
  · rw [cmpW_len a1.symm]
    rcases lex_val a1.symm hw (isNext_ok hk h hw) with c | c | c
    · exact c.1
    · omega
    · omega
  · unfold cmpW; rw [if_pos (by omega)]
/-- none between -/
theorem isNext_between {k : Nat} (hk : 1 ≤ k) {w x v : List Int} (h : IsNext k w x) (hw : okW k w) (hv : okW k v) (hc : cmpW w v = -1) : cmpW x v ≤ 0 := by
  have hx := isNext_ok hk h hw
  have hvl := valW_lt hv
  have fin : x.length = v.length → valW k x ≤ valW k v → cmpW x v ≤ 0 := fun hl hle => by
    rw [cmpW_len hl]
    rcases lex_val hl hx hv with c | c | c <;> omega
  have hshort : x.length < v.length → cmpW x v ≤ 0 := fun hl => by unfold cmpW; rw [if_pos hl]; omega
  rcases isNext_val hk h hw with ⟨a1, a2⟩ | ⟨a1, a2, a3⟩
  · rcases Nat.lt_trichotomy w.length v.length with c | c | c
    · exact hshort (by omega)
    · refine fin (by omega) ?_
      rw [cmpW_len c] at hc
      rcases lex_val c hw hv with d | d | d <;> omega
    · unfold cmpW at hc; rw [if_neg (by omega), if_pos c] at hc; omega
  · rcases Nat.lt_trichotomy w.length v.length with c | c | c
    · rcases (by omega : x.length < v.length ∨ x.length = v.length) with d | d
      · exact hshort d
      · exact fin d (by omega)
    · rw [cmpW_len c] at hc
      rw [← c] at hvl
      rcases lex_val c hw hv with d | d | d <;> omega
    · unfold cmpW at hc; rw [if_neg (by omega), if_pos c] at hc; omega
/-! ### which lists are words -/
def badAt (k : Int) (x : Int) : Bool := decide (x < 0) || decide (k ≤ x)
/-- where a list is refused: the place, and the error's number -/
def chkW (k : Int) (w : List Int) : Option (Nat × Nat) :=
  if k < 1 ∨ 4 < k then some (0, 3) else if 4096 < w.length then some (0, 4) else (w.findIdx? (badAt k)).map fun i => (i, 2)
theorem chkW_none {k : Int} {w : List Int} (h : chkW k w = none) : ∃ n : Nat, k = n ∧ 1 ≤ n ∧ n ≤ 4 ∧ w.length ≤ 4096 ∧ okW n w := by
  unfold chkW at h
  split at h
  · cases h
  · split at h
    · cases h
    · rw [Option.map_eq_none_iff, List.findIdx?_eq_none_iff] at h
      refine ⟨k.toNat, by omega, by omega, by omega, by omega, fun x hx => ?_⟩
      have := h x hx
      unfold badAt at this
      simp at this
      omega
theorem chkW_ok {k : Nat} {w : List Int} (h1 : 1 ≤ k) (h4 : k ≤ 4) (hl : w.length ≤ 4096) (ho : okW k w) : chkW k w = none := by
  unfold chkW
  rw [if_neg (by omega), if_neg (by omega), Option.map_eq_none_iff, List.findIdx?_eq_none_iff]
  intro x hx
  have := ho x hx
  unfold badAt
  simp
  omega
/-- the place and the number of At -/
def atBad (k n : Int) (i : Nat) : Option (Nat × Nat) :=
  if k < 1 ∨ 4 < k ∨ n < 0 then some (0, 3) else if 256 < n then some (0, 4) else if k.toNat ^ n.toNat ≤ i then some (0, 3) else none
theorem at_step {k p i i0 : Nat} {l : List Int} (hl : l.length = p) (h : valW k l + k ^ p * i = i0) : valW k ((((i % k : Nat) : Int)) :: l) + k ^ (p + 1) * (i / k) = i0 := by
  show (((i % k : Nat) : Int)).toNat * k ^ l.length + valW k l + _ = _
  rw [Int.toNat_natCast, hl, Nat.pow_succ, Nat.mul_assoc]
  have e : k * (i / k) + i % k = i := Nat.div_add_mod i k
  have : i % k * k ^ p + k ^ p * (k * (i / k)) = k ^ p * i := by
    rw [Nat.mul_comm (i % k), ← Nat.mul_add, Nat.add_comm, e]
  omega
theorem at_done {k n i i0 : Nat} {l : List Int} (h : valW k l + k ^ n * i = i0) (hlt : i0 < k ^ n) : valW k l = i0 := by
  rcases Nat.eq_zero_or_pos i with rfl | c
  · simpa using h
  · have : k ^ n * 1 ≤ k ^ n * i := Nat.mul_le_mul_left _ c
    omega
/-! ### repeats -/
def timesW (w : List Int) : Nat → List Int
  | 0 => []
  | n + 1 => timesW w n ++ w
theorem timesW_length (w : List Int) (n : Nat) : (timesW w n).length = n * w.length := by
  induction n with
  | zero => simp [timesW]
  | succ n ih => rw [timesW, List.length_append, ih, Nat.succ_mul]
theorem timesW_get (w : List Int) (n : Nat) : ∀ i, i < n * w.length → (timesW w n)[i]? = some (F w i) := by
  induction n with
  | zero => intro i h; simp at h
  | succ n ih =>
    intro i hi
    rw [Nat.succ_mul] at hi
    unfold timesW
    rcases Nat.lt_or_ge i (n * w.length) with c | c
    · rw [List.getElem?_append_left (by rw [timesW_length]; exact c), ih i c]
    · rw [List.getElem?_append_right (by rw [timesW_length]; exact c), timesW_length, F_get (by omega)]
      congr 1
      unfold F
      rw [Nat.mul_comm, Nat.sub_mul_mod (by rw [Nat.mul_comm]; exact c)]
theorem times_unique {w x : List Int} {n : Nat} (hl : x.length = n * w.length) (h : ∀ i, i < x.length → x[i]? = some (F w i)) : x = timesW w n := by
  apply List.ext_getElem?
  intro i
  by_cases hi : i < x.length
  · rw [h i hi, timesW_get w n i (by omega)]
  · rw [List.getElem?_eq_none (by omega), List.getElem?_eq_none (by rw [timesW_length]; omega)]
theorem F_times {w : List Int} {n : Nat} (hn : 1 ≤ n) (i : Nat) : F (timesW w n) i = F w i := by
  rcases Nat.eq_zero_or_pos w.length with h | h
  · have h1 := List.eq_nil_of_length_eq_zero h
    subst h1
    have : timesW [] n = [] := List.eq_nil_of_length_eq_zero (by rw [timesW_length]; simp)
    rw [this]
  · have hp : 0 < n * w.length := Nat.mul_pos hn h
    have h2 : i % (n * w.length) < n * w.length := Nat.mod_lt _ hp
    have h1 := timesW_get w n _ h2
    unfold F
    rw [List.getD_eq_getElem?_getD, timesW_length, h1]
    show F w _ = _
    unfold F
    rw [Nat.mod_mod_of_dvd _ (Nat.dvd_mul_left _ _)]
/-- a repeated word's period is the word's -/
theorem isPer_times {w : List Int} {p n : Nat} (hn : 1 ≤ n) (h : IsPer w p) : IsPer (timesW w n) p := by
  have e : ∀ q, Per (timesW w n) q ↔ Per w q := fun q => by
    unfold Per
    constructor
    · intro k i; rw [← F_times hn, ← F_times (w := w) hn i, k]
    · intro k i; rw [F_times hn, F_times hn, k]
  refine ⟨h.1, by rw [timesW_length]; exact Nat.dvd_trans h.2.1 (Nat.dvd_mul_left _ _), (e p).2 h.2.2.1, fun q hq hlt => ?_⟩
  rintro ⟨_, hk⟩
  have := isPer_least h hq ((e q).1 hk)
  omega
end Go.Proofs.YtfgoflaeclfggaaDoor.WordM
end
section
namespace Go.Proofs.YtfgoflaeclfggaaDoor.RuleM
open WordM

/-- the fault of a rule: the place; its number is 1 -/
def chkR (k r : Int) (t : List Int) : Option Nat :=
  if k < 1 ∨ 4 < k then some 0 else if r < 0 ∨ 3 < r then some 1 else if t.length ≠ k.toNat ^ (2 * r.toNat + 1) then some 2 else (t.findIdx? (badAt k)).map fun i => 3 + i
structure OkR (k r : Nat) (t : List Int) : Prop where
  k1 : 1 ≤ k
  k4 : k ≤ 4
  r3 : r ≤ 3
  len : t.length = k ^ (2 * r + 1)
  ok : okW k t
theorem pow_le {k r : Nat} (h4 : k ≤ 4) (h3 : r ≤ 3) : k ^ (2 * r + 1) ≤ 16384 :=
  Nat.le_trans (Nat.pow_le_pow_left h4 _) (Nat.le_trans (Nat.pow_le_pow_right (by omega) (by omega : 2 * r + 1 ≤ 7)) (by decide))
theorem pow_pos {k r : Nat} (h1 : 1 ≤ k) : 1 ≤ k ^ (2 * r + 1) := Nat.pow_pos h1
theorem bad_none {k : Nat} {l : List Int} : l.findIdx? (badAt k) = none ↔ okW k l := by
  rw [List.findIdx?_eq_none_iff]
  constructor
  · intro h x hx
    have := h x hx
    unfold badAt at this
    simp at this
    omega
  · intro h x hx
    have := h x hx
    unfold badAt
    simp
    omega
theorem chkR_none {k r : Int} {t : List Int} (h : chkR k r t = none) : ∃ K R : Nat, k = K ∧ r = R ∧ OkR K R t := by
  unfold chkR at h
  split at h
  · cases h
  · split at h
    · cases h
    · split at h
      · cases h
      · rename_i h1 h2 h3
        obtain ⟨K, rfl⟩ : ∃ K : Nat, k = K := ⟨k.toNat, by omega⟩
        obtain ⟨R, rfl⟩ : ∃ R : Nat, r = R := ⟨r.toNat, by omega⟩
        rw [Option.map_eq_none_iff, bad_none] at h
        exact ⟨K, R, rfl, rfl, by omega, by omega, by omega, by simpa using h3, h⟩
theorem chkR_ok {K R : Nat} {t : List Int} (h : OkR K R t) : chkR K R t = none := by
  have h1 := h.k1
  have h2 := h.k4
  have h3 := h.r3
  unfold chkR
  rw [if_neg (by omega), if_neg (by omega), if_neg (by simp [h.len]), Option.map_eq_none_iff, bad_none]
  exact h.ok

/-! ### numbers of windows -/
theorem valW_mod {k : Nat} {a b : List Int} (hb : okW k b) : valW k (a ++ b) % k ^ b.length = valW k b := by
  rw [valW_app, Nat.mul_comm, Nat.mul_add_mod]
  exact Nat.mod_eq_of_lt (valW_lt hb)
/-- the window of n symbols from i on -/
def win (w : List Int) (i n : Nat) : List Int := (w.drop i).take n
theorem win_length {w : List Int} {i n : Nat} (h : i + n ≤ w.length) : (win w i n).length = n := by
  unfold win
  rw [List.length_take, List.length_drop]; omega
theorem win_ok {k : Nat} {w : List Int} (h : okW k w) (i n : Nat) : okW k (win w i n) := okW_take (okW_drop h i) n
theorem take_win (w : List Int) (i n : Nat) : w.take (i + n) = w.take i ++ win w i n := by
  unfold win
  rw [List.take_add]
theorem win_lt {k : Nat} {w : List Int} {i n : Nat} (h : okW k w) (hl : i + n ≤ w.length) : valW k (win w i n) < k ^ n := by
  have := valW_lt (win_ok h i n)
  rwa [win_length hl] at this
theorem win_mod {k : Nat} {w : List Int} {i n : Nat} (h : okW k w) (hl : i + n ≤ w.length) : valW k (w.take (i + n)) % k ^ n = valW k (win w i n) := by
  have := valW_mod (a := w.take i) (win_ok h i n)
  rwa [win_length hl, ← take_win] at this
theorem win_all (w : List Int) : win w 0 w.length = w := by unfold win; rw [List.drop_zero, List.take_length]
theorem step_mod {k S j : Nat} {w : List Int} {x : Int} (h : w[j]? = some x) : (valW k (w.take j) % S * k + x.toNat) % S = valW k (w.take (j + 1)) % S := by
  rw [List.take_add_one, h]
  show _ = valW k (w.take j ++ [x]) % S
  rw [valW_snoc, Nat.add_mod, Nat.mul_mod, Nat.mod_mod, ← Nat.mul_mod, ← Nat.add_mod]
/-- the entry of a table -/
def ent (t : List Int) (i : Nat) : Int := t.getD i 0
theorem ent_get {t : List Int} {i : Nat} (h : i < t.length) : t[i]? = some (ent t i) := by
  unfold ent
  rw [List.getD_eq_getElem?_getD, List.getElem?_eq_getElem h]; rfl
theorem ent_ok {k : Nat} {t : List Int} {i : Nat} (ho : okW k t) (h : i < t.length) : 0 ≤ ent t i ∧ ent t i < (k : Int) := ho _ (List.mem_of_getElem? (ent_get h))
/-- the image of a word -/
def imgW (k r : Nat) (t w : List Int) : List Int := (List.range (w.length - 2 * r)).map fun i => ent t (valW k (win w i (2 * r + 1)))
theorem imgW_length (k r : Nat) (t w : List Int) : (imgW k r t w).length = w.length - 2 * r := by unfold imgW; simp
theorem imgW_get {k r : Nat} {t w : List Int} {i : Nat} (h : i < w.length - 2 * r) : (imgW k r t w)[i]? = some (ent t (valW k (win w i (2 * r + 1)))) := by
  unfold imgW
  rw [List.getElem?_map, List.getElem?_range h]; rfl
theorem imgW_nil {k r : Nat} {t w : List Int} (h : w.length ≤ 2 * r) : imgW k r t w = [] := List.eq_nil_of_length_eq_zero (by rw [imgW_length]; omega)
theorem imgW_ok {k r : Nat} {t w : List Int} (h : OkR k r t) (hw : okW k w) : okW k (imgW k r t w) := by
  intro x hx
  obtain ⟨i, hi⟩ := List.mem_iff_getElem?.1 hx
  have hl : i < (imgW k r t w).length := (List.getElem?_eq_some_iff.1 hi).1
  rw [imgW_length] at hl
  rw [imgW_get hl] at hi
  obtain rfl := Option.some.inj hi
  exact ent_ok h.ok (by rw [h.len]; exact win_lt hw (by omega))
/-- of pieces -/
theorem win_piece (w : List Int) (a b i n : Nat) (h : i + n ≤ b) : win ((w.drop a).take b) i n = win w (a + i) n := by
  unfold win
  rw [List.drop_take, List.drop_drop, List.take_take]
  congr 1
  omega
theorem img_piece {k r : Nat} {t w : List Int} {a b : Nat} (h : a + b ≤ w.length) : imgW k r t ((w.drop a).take b) = ((imgW k r t w).drop a).take (b - 2 * r) := by
  apply List.ext_getElem?
  intro i
  have hl : ((w.drop a).take b).length = b := by rw [List.length_take, List.length_drop]; omega
  by_cases hi : i < b - 2 * r
  · rw [imgW_get (by rw [hl]; exact hi), List.getElem?_take, if_pos hi, List.getElem?_drop, imgW_get (by omega), win_piece _ _ _ _ _ (by omega)]
  · rw [List.getElem?_eq_none (by rw [imgW_length, hl]; omega), List.getElem?_take, if_neg hi]
/-! ### numbers of rules -/
theorem OkR.rev {k r : Nat} {t : List Int} (h : OkR k r t) : okW k t.reverse := fun x hx => h.ok x (List.mem_reverse.1 hx)
theorem okW_rev {k : Nat} {t : List Int} (h : okW k t) : okW k t.reverse := fun x hx => h x (List.mem_reverse.1 hx)
/-- the number of a rule -/
def codeR (k : Nat) (t : List Int) : Nat := valW k t.reverse
theorem code_lt {k r : Nat} {t : List Int} (h : OkR k r t) : codeR k t < k ^ (k ^ (2 * r + 1)) := by
  have := valW_lt h.rev
  rwa [List.length_reverse, h.len] at this
theorem code_inj {k r : Nat} {t u : List Int} (h : OkR k r t) (g : OkR k r u) (e : codeR k t = codeR k u) : t = u :=
  List.reverse_inj.1 (valW_inj (by rw [List.length_reverse, List.length_reverse, h.len, g.len]) h.rev g.rev e)

end Go.Proofs.YtfgoflaeclfggaaDoor.RuleM
end
section
namespace Go.Proofs.YtfgoflaeclfggaaDoor.RuleM
open WordM
/-! ### rings -/
/-- how far a ring is turned so that the first window lies at its head -/
def wrapS (w : List Int) (R : Nat) : Nat := ((-(R : Int)) % (w.length : Int)).toNat
/-- the ring with its neighbours about it -/
def extW (w : List Int) (R : Nat) : List Int := (List.range (w.length + 2 * R)).map fun i => F w (i + wrapS w R)
/-- the image of a ring -/
def ringW (k r : Nat) (t w : List Int) : List Int := imgW k r t (extW w r)
theorem extW_length (w : List Int) (R : Nat) : (extW w R).length = w.length + 2 * R := by unfold extW; simp
theorem extW_get {w : List Int} {R i : Nat} (h : i < w.length + 2 * R) : (extW w R)[i]? = some (F w (i + wrapS w R)) := by
  unfold extW
  rw [List.getElem?_map, List.getElem?_range h]; rfl
theorem F_congr {w : List Int} {i j : Nat} (h : i % w.length = j % w.length) : F w i = F w j := by rw [← F_mod, h, F_mod]
theorem wrapS_mod {w : List Int} (h : 0 < w.length) (R : Nat) : (R + wrapS w R) % w.length = 0 := by
  unfold wrapS
  have h1 := Int.emod_nonneg (-(R : Int)) (show (w.length : Int) ≠ 0 by omega)
  have h2 : ((R : Int) + (-(R : Int)) % (w.length : Int)) % (w.length : Int) = 0 := by
    rw [Int.add_emod, Int.emod_emod, ← Int.add_emod]
    rw [Int.add_right_neg, Int.zero_emod]
  obtain ⟨s, hs⟩ : ∃ s : Nat, (-(R : Int)) % (w.length : Int) = s := ⟨_, (Int.toNat_of_nonneg h1).symm⟩
  rw [hs] at h2 ⊢
  rw [Int.toNat_natCast]
  exact_mod_cast h2
theorem wrapS_lt {w : List Int} (h : 0 < w.length) (R : Nat) : wrapS w R < w.length := by
  unfold wrapS
  have h1 := Int.emod_lt_of_pos (-(R : Int)) (show (0 : Int) < (w.length : Int) by omega)
  have h2 := Int.emod_nonneg (-(R : Int)) (show (w.length : Int) ≠ 0 by omega)
  omega
theorem F_ok {k : Nat} {w : List Int} (h0 : 0 < w.length) (h : okW k w) (i : Nat) : 0 ≤ F w i ∧ F w i < (k : Int) := by
  rw [← F_mod]
  exact h _ (List.mem_of_getElem? (F_get (Nat.mod_lt _ h0)))
theorem extW_ok {k : Nat} {w : List Int} (h0 : 0 < w.length) (h : okW k w) (R : Nat) : okW k (extW w R) := fun x hx => by
  obtain ⟨i, hi⟩ := List.mem_iff_getElem?.1 hx
  have hl := (List.getElem?_eq_some_iff.1 hi).1
  rw [extW_length] at hl
  rw [extW_get hl] at hi
  obtain rfl := Option.some.inj hi
  exact F_ok h0 h _
theorem ringW_length (k r : Nat) (t w : List Int) : (ringW k r t w).length = w.length := by
  unfold ringW
  rw [imgW_length, extW_length]; omega
theorem ringW_ok {k r : Nat} {t w : List Int} (h : OkR k r t) (h0 : 0 < w.length) (hw : okW k w) : okW k (ringW k r t w) := imgW_ok h (extW_ok h0 hw r)
/-- a cell of the image -/
def rcell (k r : Nat) (t w : List Int) (i : Nat) : Int := ent t (valW k ((List.range (2 * r + 1)).map fun j => F w (i + j + wrapS w r)))
theorem win_ext {w : List Int} {R i : Nat} (h : i < w.length) : win (extW w R) i (2 * R + 1) = (List.range (2 * R + 1)).map fun j => F w (i + j + wrapS w R) := by
  apply List.ext_getElem?
  intro j
  unfold win
  rw [List.getElem?_take]
  by_cases hj : j < 2 * R + 1
  · rw [if_pos hj, List.getElem?_drop, extW_get (by omega), List.getElem?_map, List.getElem?_range hj]; rfl
  · rw [if_neg hj, List.getElem?_eq_none (by simp; omega)]
theorem rcell_mod (k r : Nat) (t w : List Int) (i : Nat) : rcell k r t w (i % w.length) = rcell k r t w i := by
  unfold rcell
  congr 2
  apply List.map_congr_left
  intro j _
  apply F_congr
  rw [Nat.add_assoc, Nat.mod_add_mod, Nat.add_assoc]
theorem F_ring (k r : Nat) (t w : List Int) (i : Nat) (h0 : 0 < w.length) : F (ringW k r t w) i = rcell k r t w i := by
  rw [← F_mod, ringW_length]
  have hl : i % w.length < w.length := Nat.mod_lt _ h0
  apply Option.some.inj
  rw [← F_get (by rw [ringW_length]; exact hl)]
  unfold ringW
  rw [imgW_get (by rw [extW_length]; omega), win_ext hl, ← rcell_mod k r t w i]
  rfl
theorem wrapS_rot (w : List Int) (m R : Nat) : wrapS (rot w m) R = wrapS w R := by unfold wrapS; rw [rot_length]
/-- the image of a turned ring is the turned image -/
theorem ring_rot (k r : Nat) (t w : List Int) (m : Nat) : ringW k r t (rot w m) = rot (ringW k r t w) m := by
  rcases Nat.eq_zero_or_pos w.length with h | h
  · apply List.ext_getElem?
    intro i
    rw [List.getElem?_eq_none (by rw [ringW_length, rot_length]; omega), List.getElem?_eq_none (by rw [rot_length, ringW_length]; omega)]
  · apply ext_F (by rw [ringW_length, rot_length, rot_length, ringW_length])
    intro i _
    rw [F_ring _ _ _ _ _ (by rw [rot_length]; exact h), F_rot, F_ring _ _ _ _ _ h]
    unfold rcell
    rw [wrapS_rot]
    congr 2
    apply List.map_congr_left
    intro j _
    rw [F_rot]
    congr 1; omega
theorem nat_mod_of {a b n : Nat} (h : (a : Int) % (n : Int) = (b : Int) % (n : Int)) : a % n = b % n := by
  exact_mod_cast h
theorem wrapS_times {w : List Int} (h0 : 0 < w.length) {n : Nat} (hn : 1 ≤ n) (R : Nat) : wrapS (timesW w n) R % w.length = wrapS w R % w.length := by
  have hp : 0 < n * w.length := Nat.mul_pos hn h0
  have h1 := Int.emod_nonneg (-(R : Int)) (show (w.length : Int) ≠ 0 by omega)
  have h2 := Int.emod_nonneg (-(R : Int)) (show ((n * w.length : Nat) : Int) ≠ 0 by omega)
  apply nat_mod_of
  unfold wrapS
  rw [timesW_length, Int.toNat_of_nonneg h1, Int.toNat_of_nonneg h2]
  rw [Int.emod_emod, Int.emod_emod_of_dvd]
  exact ⟨(n : Int), by push_cast; rw [Int.mul_comm]⟩
/-- of a repeated ring the image repeated -/
theorem ring_times {k r : Nat} {t w : List Int} {n : Nat} (hn : 1 ≤ n) : ringW k r t (timesW w n) = timesW (ringW k r t w) n := by
  rcases Nat.eq_zero_or_pos w.length with h | h
  · apply List.ext_getElem?
    intro i
    rw [List.getElem?_eq_none (by rw [ringW_length, timesW_length, h]; omega), List.getElem?_eq_none (by rw [timesW_length, ringW_length, h]; omega)]
  · have hp : 0 < (timesW w n).length := by rw [timesW_length]; exact Nat.mul_pos hn h
    apply ext_F (by rw [ringW_length, timesW_length, timesW_length, ringW_length])
    intro i _
    rw [F_ring _ _ _ _ _ hp, F_times hn, F_ring _ _ _ _ _ h]
    unfold rcell
    congr 2
    apply List.map_congr_left
    intro j _
    rw [F_times hn]
    apply F_congr
    rw [Nat.add_mod, wrapS_times h hn, ← Nat.add_mod]
/-! ### many steps -/
def stepsW (k r : Nat) (t : List Int) : Nat → List Int → List Int
  | 0, w => w
  | n + 1, w => stepsW k r t n (ringW k r t w)
theorem stepsW_length (k r : Nat) (t : List Int) : ∀ (n : Nat) (w : List Int), (stepsW k r t n w).length = w.length
  | 0, w => rfl
  | n + 1, w => by rw [stepsW, stepsW_length, ringW_length]
theorem stepsW_succ (k r : Nat) (t : List Int) : ∀ (n : Nat) (w : List Int), stepsW k r t (n + 1) w = ringW k r t (stepsW k r t n w)
  | 0, w => rfl
  | n + 1, w => by rw [stepsW, stepsW_succ k r t n, stepsW]
theorem stepsW_add (k r : Nat) (t : List Int) (m : Nat) : ∀ (n : Nat) (w : List Int), stepsW k r t (n + m) w = stepsW k r t m (stepsW k r t n w)
  | 0, w => by rw [Nat.zero_add]; rfl
  | n + 1, w => by rw [Nat.add_right_comm, stepsW, stepsW_add k r t m n, stepsW]
theorem stepsW_ok {k r : Nat} {t : List Int} (h : OkR k r t) : ∀ (n : Nat) (w : List Int), 0 < w.length → okW k w → okW k (stepsW k r t n w)
  | 0, _, _, hw => hw
  | n + 1, w, h0, hw => stepsW_ok h n _ (by rw [ringW_length]; exact h0) (ringW_ok h h0 hw)
/-- the first cell behind 0, 1, .. steps -/
def traceW (k r : Nat) (t : List Int) (n : Nat) (w : List Int) : List Int := (List.range n).map fun i => F (stepsW k r t i w) 0
theorem traceW_length (k r : Nat) (t : List Int) (n : Nat) (w : List Int) : (traceW k r t n w).length = n := by unfold traceW; simp
theorem traceW_get {k r : Nat} {t : List Int} {n i : Nat} {w : List Int} (h : i < n) : (traceW k r t n w)[i]? = some (F (stepsW k r t i w) 0) := by
  unfold traceW
  rw [List.getElem?_map, List.getElem?_range h]; rfl
theorem traceW_add (k r : Nat) (t : List Int) (n m : Nat) (w : List Int) : traceW k r t (n + m) w = traceW k r t n w ++ traceW k r t m (stepsW k r t n w) := by
  apply List.ext_getElem?
  intro i
  by_cases hi : i < n + m
  · rw [traceW_get hi]
    by_cases hn : i < n
    · rw [List.getElem?_append_left (by rw [traceW_length]; exact hn), traceW_get hn]
    · rw [List.getElem?_append_right (by rw [traceW_length]; omega), traceW_length, traceW_get (by omega), ← stepsW_add]
      congr 3; omega
  · rw [List.getElem?_eq_none (by rw [traceW_length]; omega), List.getElem?_eq_none (by rw [List.length_append, traceW_length, traceW_length]; omega)]
theorem traceW_succ (k r : Nat) (t : List Int) (n : Nat) (w : List Int) : traceW k r t (n + 1) w = traceW k r t n w ++ [F (stepsW k r t n w) 0] := by
  unfold traceW
  rw [List.range_succ, List.map_append]; rfl
/-! ### the fault of a ring -/
/-- the place and the number of the ring's own fault -/
def chkRg (k : Nat) (w : List Int) : Option (Nat × Nat) := if w.length = 0 then some (0, 3) else if 4096 < w.length then some (0, 4) else (w.findIdx? (badAt k)).map fun i => (i, 2)
theorem chkRg_none {k : Nat} {w : List Int} (h : chkRg k w = none) : 0 < w.length ∧ w.length ≤ 4096 ∧ okW k w := by
  unfold chkRg at h
  split at h
  · cases h
  · split at h
    · cases h
    · exact ⟨by omega, by omega, bad_none.1 (Option.map_eq_none_iff.1 h)⟩
theorem chkRg_ok {k : Nat} {w : List Int} (h0 : 0 < w.length) (hl : w.length ≤ 4096) (h : okW k w) : chkRg k w = none := by
  unfold chkRg
  rw [if_neg (by omega), if_neg (by omega), bad_none.2 h]; rfl
/-! ### the document's image, symbol by symbol -/
def pieceW (w : List Int) (R i q : Nat) : List Int := (List.range q).map fun j => F w (i + j + wrapS w R)
theorem pieceW_succ (w : List Int) (R i q : Nat) : pieceW w R i (q + 1) = pieceW w R i q ++ [F w (i + q + wrapS w R)] := by
  unfold pieceW
  rw [List.range_succ, List.map_append]; rfl
theorem pieceW_length (w : List Int) (R i q : Nat) : (pieceW w R i q).length = q := by unfold pieceW; simp
theorem pieceW_ok {k : Nat} {w : List Int} (h0 : 0 < w.length) (h : okW k w) (R i q : Nat) : okW k (pieceW w R i q) := fun x hx => by
  unfold pieceW at hx
  obtain ⟨j, _, rfl⟩ := List.mem_map.1 hx
  exact F_ok h0 h _
theorem val_piece {k : Nat} {w : List Int} (R i q : Nat) : valW k (pieceW w R i q) * k + (F w (i + q + wrapS w R)).toNat = valW k (pieceW w R i (q + 1)) := by
  rw [pieceW_succ, valW_snoc]
theorem piece_lt {k : Nat} {w : List Int} (h0 : 0 < w.length) (h : okW k w) (R i q : Nat) : valW k (pieceW w R i q) < k ^ q := by
  have := valW_lt (pieceW_ok h0 h R i q)
  rwa [pieceW_length] at this
theorem ring_get {k r : Nat} {t w : List Int} {i : Nat} (h : i < w.length) : (ringW k r t w)[i]? = some (ent t (valW k (pieceW w r i (2 * r + 1)))) := by
  unfold ringW
  rw [imgW_get (by rw [extW_length]; omega), win_ext h]
  rfl
theorem ref_place {w : List Int} {n : Nat} (hn : n = w.length) (h0 : 0 < n) (R i j : Nat) : (((i : Int) + ((j : Int) - (R : Int))).tmod (n : Int) + (n : Int)).tmod (n : Int) = (((i + j + wrapS w R) % n : Nat) : Int) := by
  subst hn
  obtain ⟨x, hx⟩ : ∃ x, (i : Int) + ((j : Int) - (R : Int)) = x := ⟨_, rfl⟩
  obtain ⟨n, hn⟩ : ∃ n, w.length = n := ⟨_, rfl⟩
  have h1 := wrapS_mod (w := w) h0 R
  obtain ⟨s, hs⟩ : ∃ s, wrapS w R = s := ⟨_, rfl⟩
  rw [hs] at h1 ⊢
  rw [hn] at h1 h0 ⊢
  rw [hx]
  have hlo : -(n : Int) < x.tmod (n : Int) := Int.lt_tmod_of_pos x (by omega)
  rw [Int.tmod_eq_emod_of_nonneg (a := x.tmod (n : Int) + (n : Int)) (by omega), Int.add_emod_right]
  have e : x.tmod (n : Int) % (n : Int) = x % (n : Int) := by
    have := @Int.tmod_eq_emod x (n : Int)
    split at this
    · rw [this]
      simp
    · rw [this, Int.sub_emod, Int.emod_emod]
      have hz : ((n : Int).natAbs : Int) % (n : Int) = 0 := by simp
      rw [hz, Int.sub_zero, Int.emod_emod]
  rw [e]
  have h2 : ((i + j + s : Nat) : Int) % (n : Int) = x % (n : Int) := by
    have h3 : ((R : Int) + (s : Int)) % (n : Int) = 0 := by exact_mod_cast h1
    have h4 : ((i + j + s : Nat) : Int) = x + ((R : Int) + (s : Int)) := by push_cast; omega
    rw [h4, Int.add_emod, h3, Int.add_zero, Int.emod_emod]
  rw [← h2]
  push_cast; rfl
end Go.Proofs.YtfgoflaeclfggaaDoor.RuleM
end
section
namespace Go.Proofs.YtfgoflaeclfggaaDoor.RuleM
open WordM

/-! ### rows -/
/-- the symbol of a row at a place -/
def rwAt (a : Int) (L C R : List Int) (i : Int) : Int :=
  if i < a then ent L (L.length - 1 - (a - 1 - i).toNat % L.length)
  else if i - a < (C.length : Int) then ent C (i - a).toNat
  else ent R (((i - a).toNat - C.length) % R.length)
/-- n symbols from a place on -/
def pieceR (a : Int) (L C R : List Int) (i : Int) (n : Nat) : List Int := (List.range n).map fun (j : Nat) => rwAt a L C R (i + (j : Int))
theorem pieceR_length (a : Int) (L C R : List Int) (i : Int) (n : Nat) : (pieceR a L C R i n).length = n := by unfold pieceR; simp
theorem pieceR_get {a : Int} {L C R : List Int} {i : Int} {n j : Nat} (h : j < n) : (pieceR a L C R i n)[j]? = some (rwAt a L C R (i + (j : Int))) := by
  unfold pieceR
  rw [List.getElem?_map, List.getElem?_range h]; rfl
/-- a row over k symbols without a fault -/
structure OkRw (k : Nat) (a : Int) (L C R : List Int) : Prop where
  k1 : 1 ≤ k
  k4 : k ≤ 4
  a1 : -4096 ≤ a
  a2 : a ≤ 4096
  l0 : 0 < L.length
  l1 : L.length ≤ 8192
  r0 : 0 < R.length
  r1 : R.length ≤ 8192
  c1 : C.length ≤ 16384
  okL : okW k L
  okC : okW k C
  okR : okW k R
theorem OkRw.all {k : Nat} {a : Int} {L C R : List Int} (h : OkRw k a L C R) : okW k (L ++ C ++ R) := fun x hx => by
  rcases List.mem_append.1 hx with h1 | h1
  · rcases List.mem_append.1 h1 with h2 | h2
    · exact h.okL x h2
    · exact h.okC x h2
  · exact h.okR x h1
theorem rwAt_ok {k : Nat} {a : Int} {L C R : List Int} (h : OkRw k a L C R) (i : Int) : 0 ≤ rwAt a L C R i ∧ rwAt a L C R i < (k : Int) := by
  have h1 := h.l0
  have h2 := h.r0
  unfold rwAt
  split
  · exact ent_ok h.okL (by omega)
  · split
    · exact ent_ok h.okC (by omega)
    · exact ent_ok h.okR (Nat.mod_lt _ h2)
theorem pieceR_ok {k : Nat} {a : Int} {L C R : List Int} (h : OkRw k a L C R) (i : Int) (n : Nat) : okW k (pieceR a L C R i n) := fun x hx => by
  unfold pieceR at hx
  obtain ⟨j, _, rfl⟩ := List.mem_map.1 hx
  exact rwAt_ok h _
theorem pieceR_congr {a a' : Int} {L C R L' C' R' : List Int} {i i' : Int} {n : Nat} (h : ∀ j : Nat, j < n → rwAt a L C R (i + (j : Int)) = rwAt a' L' C' R' (i' + (j : Int))) : pieceR a L C R i n = pieceR a' L' C' R' i' n := by
  unfold pieceR
  apply List.map_congr_left
  intro j hj
  exact h j (List.mem_range.1 hj)
theorem win_pieceR {a : Int} {L C R : List Int} {i : Int} {n u m : Nat} (h : u + m ≤ n) : win (pieceR a L C R i n) u m = pieceR a L C R (i + (u : Int)) m := by
  apply List.ext_getElem?
  intro j
  unfold win
  rw [List.getElem?_take]
  by_cases hj : j < m
  · rw [if_pos hj, List.getElem?_drop, pieceR_get (by omega), pieceR_get hj]
    congr 2
    omega
  · rw [if_neg hj, List.getElem?_eq_none (by rw [pieceR_length]; omega)]
/-- the fault of a row -/
def chkRw (k a : Int) (L C R : List Int) : Option (Nat × Nat) :=
  if k < 1 ∨ 4 < k then some (0, 3) else if a < -4096 ∨ 4096 < a then some (1, 3) else if L.length = 0 then some (2, 3) else if R.length = 0 then some (3, 3)
  else if 8192 < L.length then some (2, 4) else if 8192 < R.length then some (3, 4) else if 16384 < C.length then some (4, 4)
  else ((L ++ C ++ R).findIdx? (badAt k)).map fun i => (i, 2)
theorem okW_parts {k : Nat} {L C R : List Int} (h : okW k (L ++ C ++ R)) : okW k L ∧ okW k C ∧ okW k R :=
  ⟨fun x hx => h x (by simp [hx]), fun x hx => h x (by simp [hx]), fun x hx => h x (by simp [hx])⟩
theorem chkRw_none {k a : Int} {L C R : List Int} (h : chkRw k a L C R = none) : ∃ K : Nat, k = K ∧ OkRw K a L C R := by
  unfold chkRw at h
  split at h
  · cases h
  split at h
  · cases h
  split at h
  · cases h
  split at h
  · cases h
  split at h
  · cases h
  split at h
  · cases h
  split at h
  · cases h
  obtain ⟨K, rfl⟩ : ∃ K : Nat, k = K := ⟨k.toNat, by omega⟩
  rw [Option.map_eq_none_iff, bad_none] at h
  obtain ⟨h1, h2, h3⟩ := okW_parts h
  exact ⟨K, rfl, by omega, by omega, by omega, by omega, by omega, by omega, by omega, by omega, by omega, h1, h2, h3⟩
theorem chkRw_ok {K : Nat} {a : Int} {L C R : List Int} (h : OkRw K a L C R) : chkRw K a L C R = none := by
  have := h.k1; have := h.k4; have := h.a1; have := h.a2; have := h.l0; have := h.l1; have := h.r0; have := h.r1; have := h.c1
  unfold chkRw
  rw [if_neg (by omega), if_neg (by omega), if_neg (by omega), if_neg (by omega), if_neg (by omega), if_neg (by omega), if_neg (by omega), Option.map_eq_none_iff, bad_none]
  exact h.all
theorem chkRw_num {k a : Int} {L C R : List Int} : ∀ y, chkRw k a L C R = some y → 2 ≤ y.2 ∧ y.2 ≤ 4 := fun y h => by
  unfold chkRw at h
  split at h
  · obtain rfl := Option.some.inj h; simp
  split at h
  · obtain rfl := Option.some.inj h; simp
  split at h
  · obtain rfl := Option.some.inj h; simp
  split at h
  · obtain rfl := Option.some.inj h; simp
  split at h
  · obtain rfl := Option.some.inj h; simp
  split at h
  · obtain rfl := Option.some.inj h; simp
  split at h
  · obtain rfl := Option.some.inj h; simp
  obtain ⟨i, _, rfl⟩ := Option.map_eq_some_iff.1 h
  simp
/-! ### blocks again and again -/
theorem rwAt_left {a : Int} {L C R : List Int} {i : Int} (h : i < a) (q : Nat) : rwAt a L C R (i - ((L.length * q : Nat) : Int)) = rwAt a L C R i := by
  unfold rwAt
  have hq : (0 : Int) ≤ ((L.length * q : Nat) : Int) := by omega
  rw [if_pos (by omega), if_pos h]
  congr 2
  have : (a - 1 - (i - ((L.length * q : Nat) : Int))).toNat = (a - 1 - i).toNat + L.length * q := by omega
  rw [this, Nat.add_mul_mod_self_left]
theorem rwAt_right {a : Int} {L C R : List Int} {i : Int} (h : a + (C.length : Int) ≤ i) (q : Nat) : rwAt a L C R (i + ((R.length * q : Nat) : Int)) = rwAt a L C R i := by
  unfold rwAt
  have hq : (0 : Int) ≤ ((R.length * q : Nat) : Int) := by omega
  rw [if_neg (by omega), if_neg (by omega), if_neg (by omega), if_neg (by omega)]
  congr 1
  have : (i + ((R.length * q : Nat) : Int) - a).toNat - C.length = ((i - a).toNat - C.length) + R.length * q := by omega
  rw [this, Nat.add_mul_mod_self_left]
/-- two that repeat blocks are alike if they are so as far as both blocks together are long -/
theorem fine_wilf {f g : Nat → Int} {m n : Nat} (hm : 0 < m) (hn : 0 < n) (hf : ∀ j q, f (j + m * q) = f j) (hg : ∀ j q, g (j + n * q) = g j) (h : ∀ j, j < m + n → f j = g j) (j : Nat) : f j = g j := by
  have hgm : ∀ j, g (j + m) = g j := fun j => by
    have h1 := Nat.mod_lt j hn
    have h2 : g j = g (j % n) := (congrArg g (Nat.mod_add_div j n).symm).trans (hg _ _)
    have h3 : g (j + m) = g (j % n + m) := by
      have : j + m = (j % n + m) + n * (j / n) := by have := Nat.mod_add_div j n; omega
      rw [this, hg]
    rw [h2, h3, ← h (j % n) (by omega), ← h (j % n + m) (by omega)]
    have := hf (j % n) 1
    rwa [Nat.mul_one] at this
  have hgq : ∀ q j, g (j + m * q) = g j := fun q => by
    induction q with
    | zero => intro j; simp
    | succ q ih => intro j; rw [Nat.mul_succ, ← Nat.add_assoc, hgm, ih]
  have h1 := Nat.mod_lt j hm
  have e1 : f j = f (j % m) := (congrArg f (Nat.mod_add_div j m).symm).trans (hf _ _)
  have e2 : g j = g (j % m) := (congrArg g (Nat.mod_add_div j m).symm).trans (hgq _ _)
  rw [e1, e2]
  exact h _ (by omega)
/-- two rows are one -/
def OneR (a : Int) (L C R : List Int) (b : Int) (U V W : List Int) : Prop := ∀ i : Int, rwAt a L C R i = rwAt b U V W i
theorem one_left {a b : Int} {L C R U V W : List Int} (h1 : 0 < L.length) (h2 : 0 < U.length) {s : Int} (hs1 : s ≤ a) (hs2 : s ≤ b)
    (h : ∀ i : Int, s - (L.length : Int) - (U.length : Int) ≤ i → i < s → rwAt a L C R i = rwAt b U V W i) (i : Int) (hi : i < s) : rwAt a L C R i = rwAt b U V W i := by
  have key := fine_wilf (f := fun j => rwAt a L C R (s - 1 - (j : Int))) (g := fun j => rwAt b U V W (s - 1 - (j : Int))) h1 h2
    (fun j q => by
      have := rwAt_left (L := L) (C := C) (R := R) (a := a) (i := s - 1 - (j : Int)) (by omega) q
      show rwAt a L C R (s - 1 - ((j + L.length * q : Nat) : Int)) = _
      rw [← this]; congr 1; omega)
    (fun j q => by
      have := rwAt_left (L := U) (C := V) (R := W) (a := b) (i := s - 1 - (j : Int)) (by omega) q
      show rwAt b U V W (s - 1 - ((j + U.length * q : Nat) : Int)) = _
      rw [← this]; congr 1; omega)
    (fun j hj => h _ (by omega) (by omega)) (s - 1 - i).toNat
  have e : s - 1 - ((s - 1 - i).toNat : Int) = i := by omega
  simp only [e] at key
  exact key
theorem one_right {a b : Int} {L C R U V W : List Int} (h1 : 0 < R.length) (h2 : 0 < W.length) {s : Int} (hs1 : a + (C.length : Int) ≤ s) (hs2 : b + (V.length : Int) ≤ s)
    (h : ∀ i : Int, s ≤ i → i < s + (R.length : Int) + (W.length : Int) → rwAt a L C R i = rwAt b U V W i) (i : Int) (hi : s ≤ i) : rwAt a L C R i = rwAt b U V W i := by
  have key := fine_wilf (f := fun j => rwAt a L C R (s + (j : Int))) (g := fun j => rwAt b U V W (s + (j : Int))) h1 h2
    (fun j q => by
      have := rwAt_right (L := L) (R := R) (a := a) (C := C) (i := s + (j : Int)) (by omega) q
      show rwAt a L C R (s + ((j + R.length * q : Nat) : Int)) = _
      rw [← this]; congr 1; omega)
    (fun j q => by
      have := rwAt_right (L := U) (R := W) (a := b) (C := V) (i := s + (j : Int)) (by omega) q
      show rwAt b U V W (s + ((j + W.length * q : Nat) : Int)) = _
      rw [← this]; congr 1; omega)
    (fun j hj => h _ (by omega) (by omega)) (i - s).toNat
  have e : s + ((i - s).toNat : Int) = i := by omega
  simp only [e] at key
  exact key
/-- alike between two places that lie far enough out: one row -/
theorem one_of {a b : Int} {L C R U V W : List Int} {lo hi : Int} (h1 : 0 < L.length) (h2 : 0 < U.length) (h3 : 0 < R.length) (h4 : 0 < W.length)
    (hlo1 : lo ≤ a - (L.length : Int) - (U.length : Int)) (hlo2 : lo ≤ b - (L.length : Int) - (U.length : Int)) (hhi1 : a + (C.length : Int) + (R.length : Int) + (W.length : Int) ≤ hi) (hhi2 : b + (V.length : Int) + (R.length : Int) + (W.length : Int) ≤ hi)
    (h : ∀ i : Int, lo ≤ i → i < hi → rwAt a L C R i = rwAt b U V W i) : OneR a L C R b U V W := fun i => by
  by_cases hl : i < min a b
  · exact one_left h1 h2 (s := min a b) (by omega) (by omega) (fun j h5 h6 => h j (by omega) (by omega)) i hl
  · by_cases hr : max (a + (C.length : Int)) (b + (V.length : Int)) ≤ i
    · exact one_right h3 h4 (s := max (a + (C.length : Int)) (b + (V.length : Int))) (by omega) (by omega) (fun j h5 h6 => h j (by omega) (by omega)) i hr
    · exact h i (by omega) (by omega)
/-! ### images of rows -/
/-- a cell of the image -/
def cellR (k r : Nat) (t : List Int) (a : Int) (L C R : List Int) (i : Int) : Int := ent t (valW k (pieceR a L C R (i - (r : Int)) (2 * r + 1)))
theorem img_pieceR {k r : Nat} {t : List Int} {a : Int} {L C R : List Int} {i : Int} {n j : Nat} (h : j < n) : (imgW k r t (pieceR a L C R (i - (r : Int)) (n + 2 * r)))[j]? = some (cellR k r t a L C R (i + (j : Int))) := by
  rw [imgW_get (by rw [pieceR_length]; omega), win_pieceR (by omega)]
  unfold cellR
  congr 4
  omega
theorem img_ent {k r : Nat} {t : List Int} {a : Int} {L C R : List Int} {i : Int} {n j : Nat} (h : j < n) : ent (imgW k r t (pieceR a L C R (i - (r : Int)) (n + 2 * r))) j = cellR k r t a L C R (i + (j : Int)) := by
  apply Option.some.inj
  rw [← ent_get (by rw [imgW_length, pieceR_length]; omega), img_pieceR h]
/-- n cells of the image from a place on -/
def imgR (k r : Nat) (t : List Int) (a : Int) (L C R : List Int) (i : Int) (n : Nat) : List Int := imgW k r t (pieceR a L C R (i - (r : Int)) (n + 2 * r))
theorem imgR_length (k r : Nat) (t : List Int) (a : Int) (L C R : List Int) (i : Int) (n : Nat) : (imgR k r t a L C R i n).length = n := by unfold imgR; rw [imgW_length, pieceR_length]; omega
theorem imgR_ok {k r : Nat} {t : List Int} {a : Int} {L C R : List Int} (ho : OkR k r t) (h : OkRw k a L C R) (i : Int) (n : Nat) : okW k (imgR k r t a L C R i n) := imgW_ok ho (pieceR_ok h _ _)
/-- the image's parts -/
def imgL (k r : Nat) (t : List Int) (a : Int) (L C R : List Int) : List Int := imgR k r t a L C R (a - (r : Int) - (L.length : Int)) L.length
def imgC (k r : Nat) (t : List Int) (a : Int) (L C R : List Int) : List Int := imgR k r t a L C R (a - (r : Int)) (C.length + 2 * r)
def imgT (k r : Nat) (t : List Int) (a : Int) (L C R : List Int) : List Int := imgR k r t a L C R (a + (C.length : Int) + (r : Int)) R.length
theorem cellR_left {k r : Nat} {t : List Int} {a : Int} {L C R : List Int} {i : Int} (h : i + (r : Int) < a) (q : Nat) : cellR k r t a L C R (i - ((L.length * q : Nat) : Int)) = cellR k r t a L C R i := by
  unfold cellR
  congr 2
  apply pieceR_congr
  intro j hj
  have := rwAt_left (L := L) (C := C) (R := R) (a := a) (i := i - (r : Int) + (j : Int)) (by omega) q
  rw [← this]; congr 1; omega
theorem cellR_right {k r : Nat} {t : List Int} {a : Int} {L C R : List Int} {i : Int} (h : a + (C.length : Int) ≤ i - (r : Int)) (q : Nat) : cellR k r t a L C R (i + ((R.length * q : Nat) : Int)) = cellR k r t a L C R i := by
  unfold cellR
  congr 2
  apply pieceR_congr
  intro j hj
  have := rwAt_right (L := L) (R := R) (a := a) (C := C) (i := i - (r : Int) + (j : Int)) (by omega) q
  rw [← this]; congr 1; omega
/-- the symbol of the image at any place -/
theorem rwAt_img {k r : Nat} {t : List Int} {a : Int} {L C R : List Int} (h0 : 0 < L.length) (h1 : 0 < R.length) (i : Int) :
    rwAt (a - (r : Int)) (imgL k r t a L C R) (imgC k r t a L C R) (imgT k r t a L C R) i = cellR k r t a L C R i := by
  have e1 : (imgL k r t a L C R).length = L.length := imgR_length _ _ _ _ _ _ _ _ _
  have e2 : (imgC k r t a L C R).length = C.length + 2 * r := imgR_length _ _ _ _ _ _ _ _ _
  have e3 : (imgT k r t a L C R).length = R.length := imgR_length _ _ _ _ _ _ _ _ _
  unfold rwAt
  rw [e1, e2, e3]
  split
  · rename_i hi
    obtain ⟨d, hd⟩ : ∃ d, (a - (r : Int) - 1 - i).toNat = d := ⟨_, rfl⟩
    rw [hd]
    have hm := Nat.mod_lt d h0
    have hdm := Nat.mod_add_div d L.length
    unfold imgL imgR
    rw [img_ent (by omega)]
    have h2 := cellR_left (k := k) (r := r) (t := t) (L := L) (C := C) (R := R) (a := a) (i := a - (r : Int) - 1 - ((d % L.length : Nat) : Int)) (by omega) (d / L.length)
    have e4 : a - (r : Int) - 1 - ((d % L.length : Nat) : Int) - ((L.length * (d / L.length) : Nat) : Int) = i := by omega
    rw [e4] at h2
    rw [h2]
    congr 1
    omega
  · split
    · rename_i h2 h3
      unfold imgC imgR
      rw [img_ent (by omega)]
      congr 1
      omega
    · rename_i h2 h3
      obtain ⟨d, hd⟩ : ∃ d, (i - (a - (r : Int))).toNat - (C.length + 2 * r) = d := ⟨_, rfl⟩
      rw [hd]
      have hm := Nat.mod_lt d h1
      have hdm := Nat.mod_add_div d R.length
      unfold imgT imgR
      rw [img_ent hm]
      have h4 := cellR_right (k := k) (r := r) (t := t) (L := L) (R := R) (C := C) (a := a) (i := a + (C.length : Int) + (r : Int) + ((d % R.length : Nat) : Int)) (by omega) (d / R.length)
      rw [← h4]
      congr 1
      omega
/-- the fault of a rule and a row -/
theorem img_ok {k r : Nat} {t : List Int} {a : Int} {L C R : List Int} (ho : OkR k r t) (h : OkRw k a L C R) (ha : -4096 ≤ a - (r : Int)) (hc : C.length + 2 * r ≤ 16384) :
    OkRw k (a - (r : Int)) (imgL k r t a L C R) (imgC k r t a L C R) (imgT k r t a L C R) := by
  have e1 : (imgL k r t a L C R).length = L.length := imgR_length _ _ _ _ _ _ _ _ _
  have e2 : (imgC k r t a L C R).length = C.length + 2 * r := imgR_length _ _ _ _ _ _ _ _ _
  have e3 : (imgT k r t a L C R).length = R.length := imgR_length _ _ _ _ _ _ _ _ _
  have := h.a2; have := h.l0; have := h.l1; have := h.r0; have := h.r1
  exact ⟨h.k1, h.k4, ha, by omega, by omega, by omega, by omega, by omega, by omega, imgR_ok ho h _ _, imgR_ok ho h _ _, imgR_ok ho h _ _⟩
/-- images of one row are one -/
theorem one_img {k r : Nat} {t : List Int} {a b : Int} {L C R U V W : List Int} (h1 : 0 < L.length) (h2 : 0 < R.length) (h3 : 0 < U.length) (h4 : 0 < W.length) (h : OneR a L C R b U V W) :
    OneR (a - (r : Int)) (imgL k r t a L C R) (imgC k r t a L C R) (imgT k r t a L C R) (b - (r : Int)) (imgL k r t b U V W) (imgC k r t b U V W) (imgT k r t b U V W) := fun i => by
  rw [rwAt_img h1 h2, rwAt_img h3 h4]
  unfold cellR
  congr 2
  exact pieceR_congr fun j _ => h _
/-- a piece of the image is the image of the piece about it -/
theorem piece_img {k r : Nat} {t : List Int} {a : Int} {L C R : List Int} (h0 : 0 < L.length) (h1 : 0 < R.length) (i : Int) (n : Nat) :
    pieceR (a - (r : Int)) (imgL k r t a L C R) (imgC k r t a L C R) (imgT k r t a L C R) i n = imgW k r t (pieceR a L C R (i - (r : Int)) (n + 2 * r)) := by
  apply List.ext_getElem?
  intro j
  by_cases hj : j < n
  · rw [pieceR_get hj, img_pieceR hj, rwAt_img h0 h1]
  · rw [List.getElem?_eq_none (by rw [pieceR_length]; omega), List.getElem?_eq_none (by rw [imgW_length, pieceR_length]; omega)]
/-! ### a ring again and again -/
theorem rwAt_ring {a : Int} {w : List Int} (h0 : 0 < w.length) (i : Int) : rwAt a w [] w i = F w ((i - a) % (w.length : Int)).toNat := by
  have hb : ∀ n : Nat, n < w.length → ent w n = F w n := fun n hn => Option.some.inj ((ent_get hn).symm.trans (F_get hn))
  have hn0 : (w.length : Int) ≠ 0 := by omega
  unfold rwAt
  split
  · rename_i hi
    obtain ⟨d, hd⟩ : ∃ d, (a - 1 - i).toNat = d := ⟨_, rfl⟩
    rw [hd]
    have hm := Nat.mod_lt d h0
    have hdm := Nat.mod_add_div d w.length
    rw [hb _ (by omega)]
    congr 1
    have e : i - a = ((w.length - 1 - d % w.length : Nat) : Int) + (w.length : Int) * (-((d / w.length : Nat) : Int) - 1) := by
      have h1 : ((w.length * (d / w.length) : Nat) : Int) = (w.length : Int) * ((d / w.length : Nat) : Int) := by push_cast; rfl
      rw [Int.mul_sub, Int.mul_neg, ← h1, Int.mul_one]
      omega
    rw [e, Int.add_mul_emod_self_left, Int.emod_eq_of_lt (by omega) (by omega)]
    omega
  · split
    · rename_i h1 h2
      simp at h2; omega
    · rename_i h1 h2
      rw [hb _ (Nat.mod_lt _ h0)]
      congr 1
      obtain ⟨d, hd⟩ : ∃ d : Nat, i - a = d := ⟨(i - a).toNat, by omega⟩
      rw [hd, List.length_nil, Nat.sub_zero, Int.toNat_natCast, ← Int.natCast_emod, Int.toNat_natCast]
theorem cellR_ring {k r : Nat} {t : List Int} {a : Int} {w : List Int} (h0 : 0 < w.length) (i : Int) : cellR k r t a w [] w i = F (ringW k r t w) ((i - a) % (w.length : Int)).toNat := by
  rw [F_ring _ _ _ _ _ h0]
  unfold cellR rcell
  congr 2
  unfold pieceR
  apply List.map_congr_left
  intro j _
  rw [rwAt_ring h0]
  have hn0 : (w.length : Int) ≠ 0 := by omega
  obtain ⟨u, hu⟩ : ∃ u : Nat, (i - a) % (w.length : Int) = u := ⟨((i - a) % (w.length : Int)).toNat, by have := Int.emod_nonneg (i - a) hn0; omega⟩
  obtain ⟨v, hv⟩ : ∃ v : Nat, (i - (r : Int) + (j : Int) - a) % (w.length : Int) = v := ⟨((i - (r : Int) + (j : Int) - a) % (w.length : Int)).toNat, by have := Int.emod_nonneg (i - (r : Int) + (j : Int) - a) hn0; omega⟩
  have hs : ((wrapS w r : Nat) : Int) = (-(r : Int)) % (w.length : Int) := by unfold wrapS; have := Int.emod_nonneg (-(r : Int)) hn0; omega
  rw [hu, hv, Int.toNat_natCast, Int.toNat_natCast]
  apply F_congr
  have h1 : ((u + j + wrapS w r : Nat) : Int) % (w.length : Int) = (i - (r : Int) + (j : Int) - a) % (w.length : Int) := by
    push_cast
    rw [hs, ← hu, Int.add_emod_emod, Int.add_assoc, Int.emod_add_emod]
    congr 1
    omega
  have h2 : ((v : Nat) : Int) % (w.length : Int) = (i - (r : Int) + (j : Int) - a) % (w.length : Int) := by rw [← hv, Int.emod_emod]
  have h3 := h2.trans h1.symm
  exact_mod_cast h3
theorem one_ring {k r : Nat} {t : List Int} {a : Int} {w : List Int} (h0 : 0 < w.length) :
    OneR (a - (r : Int)) (imgL k r t a w [] w) (imgC k r t a w [] w) (imgT k r t a w [] w) a (ringW k r t w) [] (ringW k r t w) := fun i => by
  rw [rwAt_img h0 h0, cellR_ring h0, rwAt_ring (by rw [ringW_length]; exact h0), ringW_length]
/-! ### pushed out of the core by whole blocks -/
theorem ent_app_left {L M : List Int} {i : Nat} (h : i < L.length) : ent (L ++ M) i = ent L i := by
  apply Option.some.inj
  rw [← ent_get (by rw [List.length_append]; omega), ← ent_get h, List.getElem?_append_left h]
theorem ent_app_right {L M : List Int} {i : Nat} (h : L.length ≤ i) : ent (L ++ M) i = ent M (i - L.length) := by
  unfold ent
  rw [List.getD_eq_getElem?_getD, List.getD_eq_getElem?_getD, List.getElem?_append_right h]
theorem one_wide {a : Int} {L C R : List Int} (h0 : 0 < L.length) (h1 : 0 < R.length) : OneR a L C R (a - (L.length : Int)) L (L ++ C ++ R) R := fun i => by
  unfold rwAt
  rw [List.length_append, List.length_append]
  by_cases h2 : i < a - (L.length : Int)
  · rw [if_pos (by omega), if_pos h2]
    congr 2
    have : (a - 1 - i).toNat = (a - (L.length : Int) - 1 - i).toNat + L.length := by omega
    rw [this, Nat.add_mod_right]
  · rw [if_neg h2]
    by_cases h3 : i < a
    · rw [if_pos h3, if_pos (by omega), ent_app_left (by rw [List.length_append]; omega), ent_app_left (by omega)]
      congr 1
      rw [Nat.mod_eq_of_lt (by omega)]
      omega
    · rw [if_neg h3]
      by_cases h4 : i - a < (C.length : Int)
      · rw [if_pos h4, if_pos (by omega), ent_app_left (by rw [List.length_append]; omega), ent_app_right (by omega)]
        congr 1
        omega
      · rw [if_neg h4]
        by_cases h5 : i - (a - (L.length : Int)) < ((L.length + C.length + R.length : Nat) : Int)
        · rw [if_pos h5, ent_app_right (by rw [List.length_append]; omega), List.length_append, Nat.mod_eq_of_lt (by omega)]
          congr 1
          omega
        · rw [if_neg h5]
          congr 1
          have : (i - a).toNat - C.length = ((i - (a - (L.length : Int))).toNat - (L.length + C.length + R.length)) + R.length := by omega
          rw [this, Nat.add_mod_right]
theorem OneR.symm {a b : Int} {L C R U V W : List Int} (h : OneR a L C R b U V W) : OneR b U V W a L C R := fun i => (h i).symm
theorem OneR.refl (a : Int) (L C R : List Int) : OneR a L C R a L C R := fun _ => rfl
theorem OneR.piece {a b : Int} {L C R U V W : List Int} (h : OneR a L C R b U V W) (i : Int) (n : Nat) : pieceR a L C R i n = pieceR b U V W i n := pieceR_congr fun _ _ => h _
theorem piece_one {a b : Int} {L C R U V W : List Int} {lo : Int} {n : Nat} (h : pieceR a L C R lo n = pieceR b U V W lo n) (i : Int) (h1 : lo ≤ i) (h2 : i < lo + (n : Int)) : rwAt a L C R i = rwAt b U V W i := by
  have e : lo + (((i - lo).toNat : Nat) : Int) = i := by omega
  have h3 := pieceR_get (a := a) (L := L) (C := C) (R := R) (i := lo) (n := n) (j := (i - lo).toNat) (by omega)
  have h4 := pieceR_get (a := b) (L := U) (C := V) (R := W) (i := lo) (n := n) (j := (i - lo).toNat) (by omega)
  rw [h, h4, e] at h3
  exact (Option.some.inj h3).symm
end Go.Proofs.YtfgoflaeclfggaaDoor.RuleM
end
section
namespace Go.Proofs.YtfgoflaeclfggaaDoor
open Go.RowKit

theorem heap_ltN {w : World} {b : Nat} {o : Obj} (h : w.heap[b]? = some o) : b < w.heap.size := by
  rcases Nat.lt_or_ge b w.heap.size with k | k
  · exact k
  · simp [Array.getElem?_eq_none k] at h
theorem below_drewN {B : Nat} {a w : World} (h : Below B a w) (n : Nat) : Below B a (w.drewN n) :=
  ⟨h.os, h.tape, h.output, h.size, h.block⟩

/-- for a quiet region behind a quiet region, and for contracts that leave the world alone -/
theorem quiet_add_left {P : Program} {f : FuncId} {args : Array Value} {w : World} {a n : Nat} {v : Value}
    (h : Calls P f args (w.drewN (a + n)) fun e w' => e = .returned v ∧ w.drewN (a + n) = w') :
    Calls P f args (w.drewN (a + n)) fun e w'' => e = .returned v ∧ ∃ m, w'' = w.drewN (a + m) :=
  h.mono fun _ _ ⟨he, hm⟩ => ⟨he, n, hm.symm⟩
theorem quiet_left {P : Program} {f : FuncId} {args : Array Value} {w : World} {n : Nat} {v : Value}
    (h : Calls P f args (w.drewN n) fun e w' => e = .returned v ∧ w.drewN n = w') : Calls P f args (w.drewN n) fun e w'' => e = .returned v ∧ ∃ m, w'' = w.drewN m :=
  h.mono fun _ _ ⟨he, hm⟩ => ⟨he, n, hm.symm⟩
theorem own_shape {w : World} {base : Nat} {e : TypeId} {v : Value} {n : Nat} {xs : List Value} (h : w.ownsRow base e 1 v n xs) :
    (v = .slice none 0 0 ∧ n = 0 ∧ xs = []) ∨ ∃ g cap, v = .slice (some ⟨g, 0, none⟩) n cap ∧ base ≤ g ∧ g < w.heap.size ∧ n ≤ cap ∧ cap ≤ maxLen ∧ (∀ j, j < n → w.cell? ⟨g, j, none⟩ = xs[j]?) ∧ xs.length = n := by
  have h0 := h
  obtain ⟨hx, h | ⟨g, cap, cur, hv, hg, hh, hc, hm, r⟩⟩ := h
  · obtain ⟨h1, rfl⟩ := h
    exact Or.inl ⟨h1, rfl, List.eq_nil_of_length_eq_zero (by simpa using hx)⟩
  · subst hv
    exact Or.inr ⟨g, cap, rfl, hg, heap_ltN hh, hc, hm, fun j hj => h0.cellAt j (by omega), by omega⟩
theorem ownsRow_base {w : World} {base base' : Nat} {e : TypeId} {v : Value} {n : Nat} {xs : List Value} (hB : base' ≤ base) (h : w.ownsRow base e 1 v n xs) : w.ownsRow base' e 1 v n xs := by
  obtain ⟨hx, h | ⟨g, cap, cur, hv, hg, r⟩⟩ := h
  · exact ⟨hx, Or.inl h⟩
  · exact ⟨hx, Or.inr ⟨g, cap, cur, hv, Nat.le_trans hB hg, r⟩⟩
theorem ownsRow_below {w1 w2 : World} {base : Nat} {e : TypeId} {size : Nat} {v : Value} {n : Nat} {xs : List Value} (hb : Below w1.heap.size w1 w2) (h : w1.ownsRow base e size v n xs) : w2.ownsRow base e size v n xs :=
  h.kept (row := none) ⟨hb.os, hb.tape, hb.output, hb.size, fun k hk _ => hb.block k hk⟩ (by
    cases hv : v.ownBlock with
    | none => exact Or.inl rfl
    | some g => exact Or.inr (by simp))
/-- a post that tells the answer, and that old memory stays -/
def Tells (v : Value) (w : World) (e : Ending) (w' : World) : Prop := e = .returned v ∧ Below w.heap.size w w'
theorem Tells.of_same {P : Program} {f : FuncId} {args : Array Value} {w : World} {v : Value} (h : Calls P f args w fun e w' => e = .returned v ∧ w = w') : Calls P f args w (Tells v w) :=
  h.mono fun _ _ ⟨he, hw⟩ => ⟨he, by rw [← hw]; exact Below.refl _ _⟩
theorem add_off (b off j : Nat) : (⟨b, off, none⟩ : Addr).add j = ⟨b, off + j, none⟩ := by
  unfold Addr.add
  split
  · subst_vars; rfl
  · rfl

theorem only_drew {a w : World} {row : Option Nat} (h : a.grownBy w row) : a.grownBy w.drew row := ⟨h.os, h.tape, h.output, h.size, h.block⟩

theorem heap_newN (w : World) (o : Obj) : (w.alloc o).heap[w.heap.size]? = some o := by
  show (w.heap.push o)[w.heap.size]? = some o
  simp
theorem cell_alloc_row (w : World) (cs : Array Value) (t : TypeId) (j : Nat) : (w.alloc (.cells cs t)).cell? ⟨w.heap.size, j, none⟩ = cs[j]? :=
  cell_of_row _ _ _ cs t (0, 0) (heap_newN w _)
end Go.Proofs.YtfgoflaeclfggaaDoor
end
section
namespace Go.Proofs.YtfgoflaeclfggaaDoor
open Go.RowKit

/-- a post that tells the answer, and that only draws were made -/
def Quiet (v : Value) (w : World) (e : Ending) (w' : World) : Prop := e = .returned v ∧ ∃ m, w' = w.drewN m
theorem Quiet.tells {P : Program} {f : FuncId} {args : Array Value} {w : World} {v : Value} (h : Calls P f args w (Quiet v w)) : Calls P f args w (Tells v w) :=
  h.mono fun _ _ ⟨he, m, hw⟩ => ⟨he, by rw [hw]; exact below_drewN (Below.refl _ _) m⟩
theorem quiet_more {w wx : World} (h : ∃ a, wx = w.drewN a) (m : Nat) : ∃ a, wx.drewN m = w.drewN a := by
  obtain ⟨a, rfl⟩ := h
  exact ⟨a + m, by rw [World.drewN_drewN]⟩
/-- for a quiet region: contracts whose post is Quiet -/
theorem Quiet.add {P : Program} {f : FuncId} {args : Array Value} {w : World} {n : Nat} {v : Value} (h : Calls P f args (w.drewN n) (Quiet v (w.drewN n))) :
    Calls P f args (w.drewN n) fun e w'' => e = .returned v ∧ ∃ m, w'' = w.drewN m :=
  h.mono fun _ _ ⟨he, m, hw⟩ => ⟨he, n + m, by rw [hw, World.drewN_drewN]⟩
theorem Quiet.add2 {P : Program} {f : FuncId} {args : Array Value} {w : World} {a n : Nat} {v : Value} (h : Calls P f args (w.drewN (a + n)) (Quiet v (w.drewN (a + n)))) :
    Calls P f args (w.drewN (a + n)) fun e w'' => e = .returned v ∧ ∃ m, w'' = w.drewN (a + m) :=
  h.mono fun _ _ ⟨he, m, hw⟩ => ⟨he, n + m, by rw [hw, World.drewN_drewN, Nat.add_assoc]⟩
end Go.Proofs.YtfgoflaeclfggaaDoor
end
section
namespace Go.Proofs.YtfgoflaeclfggaaDoor
open Go.RowKit

def cI (l : List Int) : List Value := l.map fun x => Value.int .i64 x
theorem cI_length (l : List Int) : (cI l).length = l.length := by simp [cI]
theorem cI_get {l : List Int} {j : Nat} {x : Int} (h : l[j]? = some x) : (cI l)[j]? = some (.int .i64 x) := by simp [cI, h]
theorem cI_app (a b : List Int) : cI (a ++ b) = cI a ++ cI b := by simp [cI]
theorem cI_take (l : List Int) (k : Nat) : cI (l.take k) = (cI l).take k := by simp [cI]
theorem getI {l : List Int} {k : Nat} (h : k < l.length) : ∃ x, l[k]? = some x := ⟨_, List.getElem?_eq_getElem h⟩
theorem ltI {l : List Int} {k : Nat} {x : Int} (h : l[k]? = some x) : k < l.length := (List.getElem?_eq_some_iff.1 h).1

/-- A slice of ints below block B: it reads l. -/
structure IntV (B : Nat) (w : World) (p : Option Addr) (c : Nat) (l : List Int) : Prop where
  le : l.length ≤ c
  cap : c ≤ maxLen
  nil : p = none → c = 0
  cell : l ≠ [] → ∃ b off, p = some ⟨b, off, none⟩ ∧ b < B ∧ ∀ (j : Nat) (x : Int), l[j]? = some x → w.cell? ⟨b, off + j, none⟩ = some (.int .i64 x)
theorem IntV.below {B : Nat} {w w' : World} {p : Option Addr} {c : Nat} {l : List Int} (hb : Below B w w') (h : IntV B w p c l) : IntV B w' p c l :=
  ⟨h.le, h.cap, h.nil, fun hn => by
    obtain ⟨b, off, hp, hlt, hc⟩ := h.cell hn
    exact ⟨b, off, hp, hlt, fun j x hx => (hb.cell (p := ⟨b, off + j, none⟩) hlt).trans (hc j x hx)⟩⟩
theorem IntV.mono {B B' : Nat} {w : World} {p : Option Addr} {c : Nat} {l : List Int} (hB : B ≤ B') (h : IntV B w p c l) : IntV B' w p c l :=
  ⟨h.le, h.cap, h.nil, fun hn => by
    obtain ⟨b, off, hp, hlt, hc⟩ := h.cell hn
    exact ⟨b, off, hp, by omega, hc⟩⟩
theorem IntV.next {w w' : World} {p : Option Addr} {c : Nat} {l : List Int} (hb : Below w.heap.size w w') (h : IntV w.heap.size w p c l) : IntV w'.heap.size w' p c l :=
  (h.below hb).mono hb.size
theorem IntV.take {B : Nat} {w : World} {p : Option Addr} {c : Nat} {l : List Int} (h : IntV B w p c l) (k : Nat) : IntV B w p c (l.take k) :=
  ⟨Nat.le_trans (by rw [List.length_take]; exact Nat.min_le_right _ _) h.le, h.cap, h.nil, fun hn => by
    have hne : l ≠ [] := by rintro rfl; simp at hn
    obtain ⟨b, off, hp, hlt, hc⟩ := h.cell hne
    refine ⟨b, off, hp, hlt, fun j x hx => hc j x ?_⟩
    rw [List.getElem?_take] at hx
    split at hx
    · exact hx
    · cases hx⟩
theorem IntV.nothing (w : World) : IntV w.heap.size w none 0 [] := ⟨Nat.le_refl _, Nat.zero_le _, fun _ => rfl, fun h => absurd rfl h⟩
theorem IntV.empty {B : Nat} {w : World} {p : Option Addr} {c : Nat} (hc : c ≤ maxLen) (hp : p = none → c = 0) : IntV B w p c [] := ⟨Nat.zero_le _, hc, hp, fun h => absurd rfl h⟩
/-- the piece from t on -/
theorem IntV.drop {B : Nat} {w : World} {b off c : Nat} {l : List Int} (h : IntV B w (some ⟨b, off, none⟩) c l) (t : Nat) (ht : t ≤ l.length) : IntV B w (some ⟨b, off + t, none⟩) (c - t) (l.drop t) :=
  ⟨by have := h.le; rw [List.length_drop]; omega, by have := h.cap; omega, (fun e => by cases e), fun hn => by
    have hne : l ≠ [] := by rintro rfl; simp at hn
    obtain ⟨b', off', hp, hlt, hc⟩ := h.cell hne
    obtain ⟨rfl, rfl⟩ : b = b' ∧ off = off' := by simpa using hp
    refine ⟨b, off + t, rfl, hlt, fun j x hx => ?_⟩
    rw [List.getElem?_drop] at hx
    rw [Nat.add_assoc]
    exact hc _ _ hx⟩

/-- A slice of ints that the call owns, in a block from base on: it reads l. -/
def IntO (base : Nat) (w : World) (p : Option Addr) (c : Nat) (l : List Int) : Prop := w.ownsRow base 3 1 (.slice p l.length c) l.length (cI l)
theorem IntO.next {base : Nat} {w w' : World} {p : Option Addr} {c : Nat} {l : List Int} (hb : Below w.heap.size w w') (h : IntO base w p c l) : IntO base w' p c l := ownsRow_below hb h
theorem IntO.base {base base' : Nat} {w : World} {p : Option Addr} {c : Nat} {l : List Int} (hB : base' ≤ base) (h : IntO base w p c l) : IntO base' w p c l := ownsRow_base hB h
theorem IntO.toV {base : Nat} {w : World} {p : Option Addr} {c : Nat} {l : List Int} (h : IntO base w p c l) : IntV w.heap.size w p c l := by
  rcases own_shape h with ⟨hv, h0, _⟩ | ⟨g, cap, hv, hg, hlt, hc, hm, hcl, _⟩
  · obtain ⟨rfl, _, rfl⟩ := by simpa using hv
    exact ⟨by omega, Nat.zero_le _, fun _ => rfl, fun hn => absurd (List.eq_nil_of_length_eq_zero h0) hn⟩
  · obtain ⟨rfl, rfl⟩ : p = some ⟨g, 0, none⟩ ∧ c = cap := by simpa using hv
    refine ⟨hc, hm, (fun e => by cases e), fun _ => ⟨g, 0, rfl, hlt, fun j x hx => ?_⟩⟩
    rw [Nat.zero_add]
    exact (hcl j (ltI hx)).trans (cI_get hx)
theorem IntO.nothing (base : Nat) (w : World) : IntO base w none 0 [] := World.ownsRow_nil _ _ _ _
theorem IntO.slice_own {base : Nat} {w : World} {v : Value} {l : List Int} (h : w.ownsRow base 3 1 v l.length (cI l)) : ∃ p c, v = .slice p l.length c ∧ IntO base w p c l := by
  rcases own_shape h with ⟨rfl, h0, _⟩ | ⟨g, cap, rfl, _⟩
  · obtain rfl := List.eq_nil_of_length_eq_zero h0
    exact ⟨none, 0, rfl, h⟩
  · exact ⟨_, _, rfl, h⟩
/-- a whole block is one own list -/
theorem IntO.of_block {base : Nat} {w : World} {g : Nat} {l : List Int} (hB : base ≤ g) (hm : l.length ≤ maxLen) (h : w.heap[g]? = some (.cells (cI l).toArray 3 (0, 0))) : IntO base w (some ⟨g, 0, none⟩) l.length l :=
  ⟨by rw [cI_length, Nat.mul_one], Or.inr ⟨g, l.length, _, rfl, hB, h, Nat.le_refl _, hm, by simp [cI], by rw [List.toList_toArray, List.take_of_length_le (by rw [cI_length]; omega)]⟩⟩

/-- new ints made by a call, behind the world w -/
def IntPost (w : World) (l : List Int) (e : Ending) (w' : World) : Prop :=
  ∃ p c, e = .returned (.slice p l.length c) ∧ IntO w.heap.size w' p c l ∧ Below w.heap.size w w'
/-- the same beside no error -/
def IntOk (w : World) (l : List Int) (e : Ending) (w' : World) : Prop :=
  ∃ p c, e = .returned (.tuple #[.slice p l.length c, .nilIface]) ∧ IntO w.heap.size w' p c l ∧ Below w.heap.size w w'

/-- a slice literal of ints, just laid -/
theorem IntV.laid {w : World} (l : List Int) (cs : Array Value) (t : TypeId) (hc : cs.toList = cI l) (hl : l.length ≤ 1000) :
    IntV (w.alloc (.cells cs t)).heap.size (w.alloc (.cells cs t)) (some ⟨w.heap.size, 0, none⟩) l.length l := by
  refine ⟨Nat.le_refl _, by unfold maxLen; omega, (fun h => by cases h), fun _ => ⟨w.heap.size, 0, rfl, by simp, fun j x hx => ?_⟩⟩
  rw [Nat.zero_add, cell_alloc_row, ← Array.getElem?_toList, hc]
  exact cI_get hx

def sameI (l k : List Int) : Bool := decide (l = k)
theorem sameI_self (l : List Int) : sameI l l = true := by simp [sameI]
theorem sameI_eq {l k : List Int} (h : l = k) : sameI l k = true := by simp [sameI, h]
theorem sameI_ne {l k : List Int} (h : l ≠ k) : sameI l k = false := by simp [sameI, h]
theorem take_alike {l k : List Int} {j : Nat} {x : Int} (hl : l[j]? = some x) (hk : k[j]? = some x) (h : l.take j = k.take j) : l.take (j + 1) = k.take (j + 1) := by
  rw [List.take_add_one, List.take_add_one, hl, hk, h]

set_option maxHeartbeats 1000000 in
theorem ints_q (p q : Option Addr) (n m c d : Nat) (l k : List Int) (w : World) (hn : n = l.length) (hm : m = k.length) (h : IntV w.heap.size w p c l) (h' : IntV w.heap.size w q d k) :
    Calls Tryd.prog 18 #[.slice p n c, .slice q m d] w (Quiet (.bool (sameI l k)) w) := by
  subst hn hm
  have hcap := h.cap
  have hle := h.le
  have hdle := h'.le
  have hdcap := h'.cap
  unfold maxLen at hcap hdcap
  have H := Lib.hid (And.intro h h')
  clear h h'
  by_cases hlen : l.length = k.length
  · obtain ⟨n, hn⟩ : ∃ n, n = l.length := ⟨_, rfl⟩
    rw [← hlen, ← hn]
    rw [← hn] at hle
    rw [← hlen, ← hn] at hdle
    have HN := Lib.hid (And.intro hn hlen)
    clear hn hlen
    go_enter Tryd.func18, Tryd.ntmps18
    go_wp2_with fail
    go_loopw [5] (fun v wx => ∃ j : Nat, j ≤ n ∧ v = .int .i64 j ∧ Hid (∃ a, wx = w.drewN a) ∧ Hid (l.take j = k.take j)) (fun i _ => n - (intOf i).toNat)
    case atStart => exact ⟨0, Nat.zero_le _, rfl, ⟨0, rfl⟩, by show _ = _; simp⟩
    case round =>
      obtain ⟨j, hj, rfl, hbx, ht⟩ := hrel
      by_cases hlt : j < n
      · have hnl := HN.out.1
        have hkl := HN.out.2
        have hne : l ≠ [] := by rintro rfl; simp at hnl; omega
        have hne' : k ≠ [] := by rintro rfl; simp at hkl; simp [hkl] at hnl; omega
        have hbw : Below w.heap.size w wr := hbx.out.elim fun a e => e ▸ below_drewN (Below.refl _ _) a
        obtain ⟨b, off, rfl, hb, hc⟩ := (H.out.1.below hbw).cell hne
        obtain ⟨b', off', rfl, hb', hc'⟩ := (H.out.2.below hbw).cell hne'
        obtain ⟨x, hx⟩ := getI (l := l) (k := j) (by omega)
        obtain ⟨y, hy⟩ := getI (l := k) (k := j) (by omega)
        have h1 := hc j x hx
        have h2 := hc' j y hy
        have HX := Lib.hid (And.intro hx hy)
        clear hbw hc hc' hx hy hne hne' hnl hkl
        by_cases hxy : x = y
        · subst hxy
          go_wp2_with fail
          go_quiet (fail)
          go_wp2_with fail
          go_roundw
          case rel => exact ⟨j + 1, by omega, by go_num, quiet_more hbx.out _, take_alike HX.out.1 HX.out.2 ht.out⟩
          case measure => simp [intOf]; omega
        · have hne1 : ((x : Int) == (y : Int)) = false := by simpa using hxy
          have hs : sameI l k = false := sameI_ne (by rintro rfl; have := HX.out; rw [this.1] at this; exact hxy (Option.some.inj this.2))
          have HS := Lib.hid hs
          clear hs
          go_wp2_with fail
          go_quiet (fail)
          go_wp2_with fail
          go_ret
          exact ⟨by rw [HS.out]; rfl, quiet_more hbx.out _⟩
      · obtain rfl : j = n := by omega
        have hs : sameI l k = true := sameI_eq (by
          have e := ht.out
          have e1 := HN.out
          rwa [e1.1, List.take_length, e1.2, List.take_length] at e)
        have HS := Lib.hid hs
        clear hs
        go_wp2_with fail
        go_ret
        exact ⟨by rw [HS.out]; rfl, hbx.out⟩
  · have hs : sameI l k = false := sameI_ne (by rintro rfl; exact hlen rfl)
    have hne1 : ((l.length : Int) == (k.length : Int)) = false := by rw [beq_eq_false_iff_ne]; omega
    have HS := Lib.hid hs
    clear hs
    go_enter Tryd.func18, Tryd.ntmps18
    go_wp2_with fail
    go_ret
    exact ⟨by rw [HS.out]; rfl, 0, rfl⟩
theorem ints_any (p q : Option Addr) (n m c d : Nat) (l k : List Int) (w : World) (hn : n = l.length) (hm : m = k.length) (h : IntV w.heap.size w p c l) (h' : IntV w.heap.size w q d k) :
    Calls Tryd.prog 18 #[.slice p n c, .slice q m d] w (Tells (.bool (sameI l k)) w) := Quiet.tells (ints_q p q n m c d l k w hn hm h h')
end Go.Proofs.YtfgoflaeclfggaaDoor
end
section
/- Plain mathematics of numbers as lists of digits: values, digits, trimming; no part of the program. -/
namespace Go.Proofs.YtfgoflaeclfggaaDoor.NatM

/-- The value of a list of digits in base B, the lowest first. -/
def valB (B : Nat) : List Nat → Nat
  | [] => 0
  | x :: l => x + B * valB B l
def okB (B : Nat) (l : List Nat) : Prop := ∀ x ∈ l, x < B
/-- No 0 at the end. -/
def nrm (l : List Nat) : Prop := ∀ x, l.getLast? = some x → x ≠ 0

/-- The digits of n in base B, the lowest first, none 0 at the end. -/
def digs (B n : Nat) : List Nat := if _h : B ≤ 1 ∨ n = 0 then [] else n % B :: digs B (n / B)
termination_by n
decreasing_by
  have : n / B < n := Nat.div_lt_self (by omega) (by omega)
  exact this

theorem digs_zero (B : Nat) : digs B 0 = [] := by rw [digs]; simp
theorem digs_pos {B n : Nat} (hB : 2 ≤ B) (hn : 0 < n) : digs B n = n % B :: digs B (n / B) := by
  rw [digs]; rw [dif_neg (by omega)]
theorem valB_digs {B : Nat} (hB : 2 ≤ B) : ∀ n, valB B (digs B n) = n := by
  intro n
  induction n using Nat.strongRecOn with
  | ind n ih =>
    rcases Nat.eq_zero_or_pos n with rfl | h
    · rw [digs_zero]; rfl
    · rw [digs_pos hB h, valB, ih _ (Nat.div_lt_self h (by omega))]
      exact Nat.mod_add_div n B
theorem digs_ok {B : Nat} (hB : 2 ≤ B) : ∀ n, okB B (digs B n) := by
  intro n
  induction n using Nat.strongRecOn with
  | ind n ih =>
    rcases Nat.eq_zero_or_pos n with rfl | h
    · rw [digs_zero]; intro x hx; cases hx
    · rw [digs_pos hB h]
      intro x hx
      rcases List.mem_cons.1 hx with rfl | hx
      · exact Nat.mod_lt _ (by omega)
      · exact ih _ (Nat.div_lt_self h (by omega)) x hx
theorem digs_eq_nil {B n : Nat} (hB : 2 ≤ B) : digs B n = [] ↔ n = 0 := by
  rcases Nat.eq_zero_or_pos n with rfl | h
  · simp [digs_zero]
  · rw [digs_pos hB h]; simp; omega
theorem digs_nrm {B : Nat} (hB : 2 ≤ B) : ∀ n, nrm (digs B n) := by
  intro n
  induction n using Nat.strongRecOn with
  | ind n ih =>
    rcases Nat.eq_zero_or_pos n with rfl | h
    · rw [digs_zero]; intro x hx; cases hx
    · rw [digs_pos hB h]
      intro x hx
      have ihn := ih _ (Nat.div_lt_self h (by omega : 1 < B))
      cases hd : digs B (n / B) with
      | nil =>
        rw [hd] at hx
        have h0 := (digs_eq_nil hB).1 hd
        simp at hx
        subst hx
        have hm := Nat.mod_add_div n B
        rw [h0] at hm
        simp at hm
        omega
      | cons y t =>
        rw [hd] at hx ihn
        rw [List.getLast?_cons_cons] at hx
        exact ihn x hx
theorem okB_tail {B x : Nat} {l : List Nat} (h : okB B (x :: l)) : okB B l := fun y hy => h y (List.mem_cons_of_mem _ hy)
theorem okB_head {B x : Nat} {l : List Nat} (h : okB B (x :: l)) : x < B := h x List.mem_cons_self
theorem nrm_tail {x : Nat} {l : List Nat} (h : nrm (x :: l)) : nrm l := by
  intro y hy
  cases l with
  | nil => cases hy
  | cons z t => exact h y (by rw [List.getLast?_cons_cons]; exact hy)
theorem valB_pos {B : Nat} (hB : 2 ≤ B) : ∀ {l : List Nat}, nrm l → l ≠ [] → 0 < valB B l
  | [], _, h => absurd rfl h
  | [x], hn, _ => by
    have := hn x rfl
    simp [valB]; omega
  | x :: y :: t, hn, _ => by
    have := valB_pos hB (nrm_tail hn) (by simp)
    rw [valB]
    have := Nat.mul_pos (by omega : 0 < B) this
    omega
theorem digs_valB {B : Nat} (hB : 2 ≤ B) : ∀ {l : List Nat}, okB B l → nrm l → digs B (valB B l) = l
  | [], _, _ => digs_zero B
  | x :: l, ho, hn => by
    have hp : 0 < valB B (x :: l) := valB_pos hB hn (by simp)
    have hx := okB_head ho
    rw [digs_pos hB hp, valB, Nat.add_mul_mod_self_left, Nat.mod_eq_of_lt hx, Nat.add_mul_div_left _ _ (by omega), Nat.div_eq_of_lt hx, Nat.zero_add, digs_valB hB (okB_tail ho) (nrm_tail hn)]
theorem digs_unique {B : Nat} (hB : 2 ≤ B) {l : List Nat} {n : Nat} (ho : okB B l) (hn : nrm l) (hv : valB B l = n) : digs B n = l := by
  rw [← hv]; exact digs_valB hB ho hn
theorem valB_append (B : Nat) : ∀ (a b : List Nat), valB B (a ++ b) = valB B a + B ^ a.length * valB B b
  | [], b => by simp [valB]
  | x :: a, b => by
    rw [List.cons_append, valB, valB_append B a b, valB, List.length_cons, Nat.pow_succ, Nat.mul_add, Nat.mul_comm (B ^ a.length) B, Nat.mul_assoc]
    omega
theorem valB_lt {B : Nat} (hB : 1 ≤ B) : ∀ {l : List Nat}, okB B l → valB B l < B ^ l.length
  | [], _ => by simp [valB]
  | x :: l, h => by
    have h1 := valB_lt hB (okB_tail h)
    have h2 := okB_head h
    rw [valB, List.length_cons, Nat.pow_succ, Nat.mul_comm (B ^ l.length) B]
    have : B * (valB B l + 1) ≤ B * B ^ l.length := Nat.mul_le_mul_left _ h1
    rw [Nat.mul_add] at this
    omega
theorem valB_replicate (B k : Nat) : valB B (List.replicate k 0) = 0 := by
  induction k with
  | zero => rfl
  | succ k ih => rw [List.replicate_succ, valB, ih]; simp
theorem valB_snoc (B : Nat) (l : List Nat) (x : Nat) : valB B (l ++ [x]) = valB B l + B ^ l.length * x := by
  rw [valB_append]; simp [valB]
theorem take_snoc {l : List Nat} {k : Nat} (h : k < l.length) : l.take (k + 1) = l.take k ++ [l[k]] := by
  rw [List.take_succ_eq_append_getElem h]
theorem valB_take_succ (B : Nat) {l : List Nat} {k : Nat} (h : k < l.length) : valB B (l.take (k + 1)) = valB B (l.take k) + B ^ k * l[k] := by
  rw [take_snoc h, valB_snoc, List.length_take, Nat.min_eq_left (by omega)]
theorem drop_cons {l : List Nat} {k : Nat} (h : k < l.length) : l.drop k = l[k] :: l.drop (k + 1) := by
  rw [List.drop_eq_getElem_cons h]
theorem valB_drop (B : Nat) {l : List Nat} {k : Nat} (h : k < l.length) : valB B (l.drop k) = l[k] + B * valB B (l.drop (k + 1)) := by
  rw [drop_cons h, valB]
theorem valB_split (B : Nat) (l : List Nat) (k : Nat) (h : k ≤ l.length) : valB B l = valB B (l.take k) + B ^ k * valB B (l.drop k) := by
  have := valB_append B (l.take k) (l.drop k)
  rw [List.take_append_drop, List.length_take, Nat.min_eq_left h] at this
  exact this
theorem okB_take {B : Nat} {l : List Nat} (h : okB B l) (k : Nat) : okB B (l.take k) := fun x hx => h x (List.mem_of_mem_take hx)
theorem okB_drop {B : Nat} {l : List Nat} (h : okB B l) (k : Nat) : okB B (l.drop k) := fun x hx => h x (List.mem_of_mem_drop hx)
theorem okB_get {B : Nat} {l : List Nat} (h : okB B l) {k : Nat} (hk : k < l.length) : l[k] < B := h _ (List.getElem_mem hk)
theorem okB_append {B : Nat} {a b : List Nat} (ha : okB B a) (hb : okB B b) : okB B (a ++ b) := fun x hx => (List.mem_append.1 hx).elim (ha x) (hb x)
theorem okB_one {B x : Nat} (h : x < B) : okB B [x] := fun y hy => by simp at hy; omega
theorem okB_nil (B : Nat) : okB B [] := fun _ h => by cases h
theorem okB_snoc {B x : Nat} {l : List Nat} (h : okB B l) (hx : x < B) : okB B (l ++ [x]) := okB_append h (okB_one hx)
theorem okB_replicate {B : Nat} (hB : 1 ≤ B) (k : Nat) : okB B (List.replicate k 0) := fun x hx => by have := (List.mem_replicate.1 hx).2; omega
theorem valB_set (B : Nat) (x : Nat) : ∀ {l : List Nat} {k : Nat} (h : k < l.length), valB B (l.set k x) + B ^ k * l[k] = valB B l + B ^ k * x
  | y :: l, 0, _ => by simp [valB]; omega
  | y :: l, k + 1, h => by
    have ih := valB_set B x (l := l) (k := k) (by simpa using h)
    simp only [List.set_cons_succ, valB, List.getElem_cons_succ]
    rw [Nat.pow_succ, Nat.mul_comm (B ^ k) B, Nat.mul_assoc, Nat.mul_assoc]
    have : B * (valB B (l.set k x) + B ^ k * l[k]'(by simpa using h)) = B * (valB B l + B ^ k * x) := by rw [ih]
    rw [Nat.mul_add, Nat.mul_add] at this
    omega
theorem okB_set {B : Nat} {l : List Nat} (h : okB B l) {x : Nat} (hx : x < B) (k : Nat) : okB B (l.set k x) := fun y hy => by
  rcases List.mem_or_eq_of_mem_set hy with h1 | h1
  · exact h y h1
  · omega

/-! ### trimming -/
/-- the length of a list without its zeros at the end -/
def tlen (l : List Nat) : Nat := (digs 2 0).length + (l.reverse.dropWhile (· == 0)).length
theorem nrm_take {l : List Nat} {k : Nat} (hk : k ≤ l.length) (h : k = 0 ∨ ∃ h : k - 1 < l.length, l[k - 1] ≠ 0) : nrm (l.take k) := by
  intro x hx
  rcases h with rfl | ⟨h1, h2⟩
  · simp at hx
  · rcases Nat.eq_zero_or_pos k with rfl | hp
    · simp at hx
    · rw [List.getLast?_eq_getElem?, List.length_take, Nat.min_eq_left hk, List.getElem?_take, if_pos (by omega), List.getElem?_eq_getElem h1] at hx
      have := Option.some.inj hx
      omega
theorem trim_eq {B : Nat} (hB : 2 ≤ B) {l : List Nat} (ho : okB B l) {k : Nat} (hk : k ≤ l.length) (hv : valB B (l.take k) = valB B l) (h : k = 0 ∨ ∃ h : k - 1 < l.length, l[k - 1] ≠ 0) :
    l.take k = digs B (valB B l) := (digs_unique hB (okB_take ho k) (nrm_take hk h) hv).symm
theorem trim_step (B : Nat) {l : List Nat} {k : Nat} (h0 : 0 < k) (hk : k ≤ l.length) (hv : valB B (l.take k) = valB B l) (hz : l[k - 1]'(by omega) = 0) : valB B (l.take (k - 1)) = valB B l := by
  have := valB_take_succ B (l := l) (k := k - 1) (by omega)
  rw [show k - 1 + 1 = k by omega, hz] at this
  simp at this
  omega
theorem digs_length_le {B : Nat} (hB : 2 ≤ B) {n k : Nat} (h : n < B ^ k) : (digs B n).length ≤ k := by
  rcases Nat.lt_or_ge k (digs B n).length with hlt | hge
  · exfalso
    have hne : digs B n ≠ [] := by intro e; rw [e] at hlt; simp at hlt
    have hn := valB_digs hB n
    have hs := valB_split B (digs B n) ((digs B n).length - 1) (by omega)
    have hd := valB_drop B (l := digs B n) (k := (digs B n).length - 1) (by omega)
    have hx : (digs B n)[(digs B n).length - 1]'(by omega) ≠ 0 := digs_nrm hB n _ (by rw [List.getLast?_eq_getElem?, List.getElem?_eq_getElem (by omega)])
    have hm : B ^ ((digs B n).length - 1) * 1 ≤ B ^ ((digs B n).length - 1) * valB B ((digs B n).drop ((digs B n).length - 1)) := Nat.mul_le_mul_left _ (by omega)
    have hp : B ^ k ≤ B ^ ((digs B n).length - 1) := Nat.pow_le_pow_right (by omega) (by omega)
    omega
  · exact hge
theorem digs_length_lt {B : Nat} (hB : 2 ≤ B) {m n : Nat} (h : (digs B m).length < (digs B n).length) : m < n := by
  rcases Nat.lt_or_ge m n with h1 | h1
  · exact h1
  · exfalso
    have h2 : n < B ^ (digs B m).length := by
      have := valB_lt (B := B) (by omega) (digs_ok hB m)
      rw [valB_digs hB] at this
      omega
    have := digs_length_le hB h2
    omega
/-- Two lists that are one from i + 1 on, and differ at i. -/
theorem valB_lt_at {B : Nat} (hB : 1 ≤ B) {a b : List Nat} {i : Nat} (ha : okB B a) (hia : i < a.length) (hib : i < b.length) (hd : a.drop (i + 1) = b.drop (i + 1)) (hlt : a[i] < b[i]) : valB B a < valB B b := by
  rw [valB_split B a i (by omega), valB_split B b i (by omega), valB_drop B hia, valB_drop B hib, hd]
  have h1 := valB_lt hB (okB_take ha i)
  rw [List.length_take, Nat.min_eq_left (by omega)] at h1
  have h2 : B ^ i * (a[i] + 1) ≤ B ^ i * b[i] := Nat.mul_le_mul_left _ hlt
  rw [Nat.mul_add] at h2
  rw [Nat.mul_add, Nat.mul_add]
  omega
theorem digs_inj {B : Nat} (hB : 2 ≤ B) {m n : Nat} (h : digs B m = digs B n) : m = n := by
  rw [← valB_digs hB m, h, valB_digs hB]
theorem digs_one {B x : Nat} (hB : 2 ≤ B) (h0 : 0 < x) (hx : x < B) : digs B x = [x] := by
  rw [digs_pos hB h0, Nat.mod_eq_of_lt hx, Nat.div_eq_of_lt hx, digs_zero]

/-! ### half the width -/
def half : List Nat → List Nat
  | [] => []
  | x :: l => x % 65536 :: x / 65536 :: half l
theorem half_ok : ∀ {l : List Nat}, okB 4294967296 l → okB 65536 (half l)
  | [], _ => okB_nil _
  | x :: l, h => by
    intro y hy
    have hx := okB_head h
    rcases List.mem_cons.1 hy with rfl | hy
    · omega
    · rcases List.mem_cons.1 hy with rfl | hy
      · omega
      · exact half_ok (okB_tail h) y hy
theorem half_val : ∀ l : List Nat, valB 65536 (half l) = valB 4294967296 l
  | [] => rfl
  | x :: l => by
    rw [half, valB, valB, valB, half_val l]
    omega
theorem half_append : ∀ a b : List Nat, half (a ++ b) = half a ++ half b
  | [], _ => rfl
  | x :: a, b => by rw [List.cons_append, half, half, half_append a b]; rfl
theorem half_length : ∀ l : List Nat, (half l).length = 2 * l.length
  | [] => rfl
  | x :: l => by rw [half, List.length_cons, List.length_cons, half_length l, List.length_cons]; omega
/-- Two digits in base 65536 are one in base 2^32. -/
def join : List Nat → List Nat
  | [] => []
  | [x] => [x]
  | x :: y :: l => (x + 65536 * y) :: join l
theorem join_val : ∀ l : List Nat, valB 4294967296 (join l) = valB 65536 l
  | [] => rfl
  | [x] => by simp [join, valB]
  | x :: y :: l => by
    rw [join, valB, valB, valB, join_val l]
    omega
theorem join_ok : ∀ {l : List Nat}, okB 65536 l → okB 4294967296 (join l)
  | [], _ => okB_nil _
  | [x], h => okB_one (by have := okB_head h; omega)
  | x :: y :: l, h => by
    intro z hz
    have h1 := okB_head h
    have h2 := okB_head (okB_tail h)
    rcases List.mem_cons.1 hz with rfl | hz
    · omega
    · exact join_ok (okB_tail (okB_tail h)) z hz
theorem join_nrm : ∀ {l : List Nat}, okB 65536 l → nrm l → nrm (join l)
  | [], _, _ => fun _ h => by cases h
  | [x], _, hn => by
    intro z hz
    exact hn z (by simpa [join] using hz)
  | x :: y :: l, ho, hn => by
    cases l with
    | nil =>
      intro z hz
      have := hn y rfl
      simp [join] at hz
      omega
    | cons u t =>
      have ih := join_nrm (l := u :: t) (okB_tail (okB_tail ho)) (nrm_tail (nrm_tail hn))
      have hne : join (u :: t) ≠ [] := by cases t <;> simp [join]
      intro z hz
      rw [join] at hz
      cases hj : join (u :: t) with
      | nil => exact absurd hj hne
      | cons p q =>
        rw [hj] at hz ih
        rw [List.getLast?_cons_cons] at hz
        exact ih z hz
theorem join_digs (n : Nat) : join (digs 65536 n) = digs 4294967296 n := by
  have := digs_unique (B := 4294967296) (by omega) (join_ok (digs_ok (B := 65536) (by omega) n)) (join_nrm (digs_ok (by omega) n) (digs_nrm (by omega) n)) (join_val _)
  rw [valB_digs (by omega)] at this
  exact this.symm

/-! ### the same, with what stands at a place said by '?' -/
theorem some_get {l : List Nat} {k : Nat} (h : k < l.length) : ∃ x, l[k]? = some x := ⟨_, List.getElem?_eq_getElem h⟩
theorem get_lt {l : List Nat} {k x : Nat} (h : l[k]? = some x) : k < l.length := (List.getElem?_eq_some_iff.1 h).1
theorem get_eq {l : List Nat} {k x : Nat} (h : l[k]? = some x) : l[k]'(get_lt h) = x := (List.getElem?_eq_some_iff.1 h).2
theorem ok_get {B : Nat} {l : List Nat} (ho : okB B l) {k x : Nat} (h : l[k]? = some x) : x < B := ho x (List.mem_of_getElem? h)
theorem valB_takeq (B : Nat) {l : List Nat} {k x : Nat} (h : l[k]? = some x) : valB B (l.take (k + 1)) = valB B (l.take k) + B ^ k * x := by
  rw [valB_take_succ B (get_lt h), get_eq h]
theorem valB_dropq (B : Nat) {l : List Nat} {k x : Nat} (h : l[k]? = some x) : valB B (l.drop k) = x + B * valB B (l.drop (k + 1)) := by
  rw [valB_drop B (get_lt h), get_eq h]
theorem valB_setq (B : Nat) (y : Nat) {l : List Nat} {k x : Nat} (h : l[k]? = some x) : valB B (l.set k y) + B ^ k * x = valB B l + B ^ k * y := by
  have := valB_set B y (get_lt h)
  rw [get_eq h] at this
  exact this
theorem trimq {B : Nat} (hB : 2 ≤ B) {l : List Nat} (ho : okB B l) {k x : Nat} (hk : k ≤ l.length) (hv : valB B (l.take k) = valB B l) (hx : l[k - 1]? = some x) (hn : x ≠ 0) :
    l.take k = digs B (valB B l) := trim_eq hB ho hk hv (Or.inr ⟨get_lt hx, by rw [get_eq hx]; exact hn⟩)
theorem trim0 {B : Nat} (hB : 2 ≤ B) {l : List Nat} (ho : okB B l) (hv : valB B (l.take 0) = valB B l) : digs B (valB B l) = [] := by
  have := trim_eq hB ho (Nat.zero_le _) hv (Or.inl rfl)
  rw [List.take_zero] at this
  exact this.symm
theorem trim_stepq (B : Nat) {l : List Nat} {k : Nat} (h0 : 0 < k) (hk : k ≤ l.length) (hv : valB B (l.take k) = valB B l) (hx : l[k - 1]? = some 0) : valB B (l.take (k - 1)) = valB B l :=
  trim_step B h0 hk hv (get_eq hx)
theorem lt_atq {B : Nat} (hB : 1 ≤ B) {a b : List Nat} {i x y : Nat} (ha : okB B a) (hx : a[i]? = some x) (hy : b[i]? = some y) (hd : a.drop (i + 1) = b.drop (i + 1)) (hlt : x < y) : valB B a < valB B b :=
  valB_lt_at hB ha (get_lt hx) (get_lt hy) hd (by rw [get_eq hx, get_eq hy]; exact hlt)
theorem drop_eqq {a b : List Nat} {i x : Nat} (hx : a[i]? = some x) (hy : b[i]? = some x) (hd : a.drop (i + 1) = b.drop (i + 1)) : a.drop i = b.drop i := by
  rw [drop_cons (get_lt hx), drop_cons (get_lt hy), get_eq hx, get_eq hy, hd]
theorem set_takeq {l : List Nat} {k x y : Nat} (h : l[k]? = some x) : (l.set k y).take (k + 1) = l.take k ++ [y] := by
  have hk := get_lt h
  rw [take_snoc (by simpa using hk), List.take_set_of_le (Nat.le_refl _)]
  simp
end Go.Proofs.YtfgoflaeclfggaaDoor.NatM
end
section
namespace Go.Proofs.YtfgoflaeclfggaaDoor.NatM
theorem pow_pos' {B : Nat} (hB : 1 ≤ B) (k : Nat) : 0 < B ^ k := Nat.pow_pos (by omega)
theorem nrm_of_ge {B : Nat} (hB : 2 ≤ B) {t : List Nat} (ho : okB B t) (h : t = [] ∨ B ^ (t.length - 1) ≤ valB B t) : nrm t := by
  rcases h with rfl | h
  · intro x hx; cases hx
  · intro x hx hx0
    subst hx0
    rw [List.getLast?_eq_getElem?] at hx
    have h1 := valB_takeq B hx
    have hl := get_lt hx
    rw [show t.length - 1 + 1 = t.length by omega, List.take_length] at h1
    have h2 := valB_lt (B := B) (by omega) (okB_take ho (t.length - 1))
    rw [List.length_take, Nat.min_eq_left (by omega)] at h2
    simp at h1
    omega
theorem ge_of_nrm {B : Nat} (_ : 2 ≤ B) {t : List Nat} (hn : nrm t) (hne : t ≠ []) : B ^ (t.length - 1) ≤ valB B t := by
  have hl : 0 < t.length := List.length_pos_iff.2 hne
  obtain ⟨x, hx⟩ := some_get (l := t) (k := t.length - 1) (by omega)
  have h0 := hn x (by rw [List.getLast?_eq_getElem?]; exact hx)
  have h1 := valB_takeq B hx
  rw [show t.length - 1 + 1 = t.length by omega, List.take_length] at h1
  have : B ^ (t.length - 1) * 1 ≤ B ^ (t.length - 1) * x := Nat.mul_le_mul_left _ (by omega)
  omega

/-- Where a sum stands when k limbs of m have been added to s. -/
structure RInv (B : Nat) (s m : List Nat) (k c : Nat) (t : List Nat) : Prop where
  ok : okB B t
  len : t.length = max s.length k
  car : c ≤ 1
  val : valB B t + B ^ k * c = valB B s + valB B (m.take k)
  bnd : k ≤ max s.length m.length + 1
  top : k = max s.length m.length + 1 → B ^ max s.length m.length ≤ valB B s + valB B m
theorem RInv.start {B : Nat} {s m : List Nat} (hs : okB B s) : RInv B s m 0 0 s :=
  ⟨hs, by simp, by omega, by simp [valB], by omega, by omega⟩
theorem valB_take_all (B : Nat) {m : List Nat} {k : Nat} (h : m.length ≤ k) : valB B (m.take k) = valB B m := by rw [List.take_of_length_le h]
theorem valB_take_le (B : Nat) (m : List Nat) (k : Nat) : valB B (m.take k) ≤ valB B m := by
  rcases Nat.le_total k m.length with h | h
  · have := valB_split B m k h; omega
  · rw [valB_take_all B h]; exact Nat.le_refl _
theorem RInv.stop {B : Nat} (hB : 2 ≤ B) {s m : List Nat} (hs : okB B s) (hm : okB B m) {k c : Nat} {t : List Nat} (h : RInv B s m k c t) (hk : max s.length m.length < k) : c = 0 := by
  have hv := h.val
  have h1 := valB_take_le B m k
  have h2 := valB_lt (B := B) (by omega) hs
  have h3 := valB_lt (B := B) (by omega) hm
  have h4 : B ^ s.length ≤ B ^ max s.length m.length := Nat.pow_le_pow_right (by omega) (by omega)
  have h5 : B ^ m.length ≤ B ^ max s.length m.length := Nat.pow_le_pow_right (by omega) (by omega)
  have h6 : B ^ (max s.length m.length + 1) ≤ B ^ k := Nat.pow_le_pow_right (by omega) (by omega)
  rw [Nat.pow_succ] at h6
  have h7 : B ^ max s.length m.length * 2 ≤ B ^ max s.length m.length * B := Nat.mul_le_mul_left _ hB
  rcases Nat.eq_zero_or_pos c with h | h
  · exact h
  · have : B ^ k * 1 ≤ B ^ k * c := Nat.mul_le_mul_left _ h
    omega
/-- The next limb of m, 0 behind its end. -/
def limbAt (m : List Nat) (k : Nat) : Nat := m.getD k 0
theorem limb_some {m : List Nat} {k y : Nat} (h : m[k]? = some y) : limbAt m k = y := by unfold limbAt; rw [List.getD_eq_getElem?_getD, h]; rfl
theorem limb_none {m : List Nat} {k : Nat} (h : m.length ≤ k) : limbAt m k = 0 := by unfold limbAt; rw [List.getD_eq_getElem?_getD, List.getElem?_eq_none h]; rfl
theorem limb_lt {B : Nat} (hB : 1 ≤ B) {m : List Nat} (hm : okB B m) (k : Nat) : limbAt m k < B := by
  rcases Nat.lt_or_ge k m.length with h | h
  · obtain ⟨y, hy⟩ := some_get h
    rw [limb_some hy]; exact ok_get hm hy
  · rw [limb_none h]; omega
theorem valB_take_limb (B : Nat) (m : List Nat) (k : Nat) : valB B (m.take (k + 1)) = valB B (m.take k) + B ^ k * limbAt m k := by
  rcases Nat.lt_or_ge k m.length with h | h
  · obtain ⟨y, hy⟩ := some_get h
    rw [limb_some hy, valB_takeq B hy]
  · rw [limb_none h, valB_take_all B h, valB_take_all B (by omega)]; simp
/-- The sum's list, one longer where it ends at k. -/
def grown (t : List Nat) (k : Nat) : List Nat := if k = t.length then t ++ [0] else t
theorem grown_val (B : Nat) (t : List Nat) (k : Nat) : valB B (grown t k) = valB B t := by
  unfold grown
  split
  · rw [valB_snoc]; simp
  · rfl
theorem step_eq {B : Nat} {x y c : Nat} : (x + y + c) % B + B * ((x + y + c) / B) = x + y + c := Nat.mod_add_div _ _
theorem carry_step {B T T' P x y c V M r q : Nat} (h1 : T' + P * x = T + P * r) (h2 : T + P * c = V + M) (h3 : r + B * q = x + y + c) : T' + P * B * q = V + (M + P * y) := by
  have e : P * (r + B * q) = P * (x + y + c) := by rw [h3]
  rw [Nat.mul_add, Nat.mul_add, Nat.mul_add, ← Nat.mul_assoc] at e
  omega
theorem RInv.step {B : Nat} (hB : 2 ≤ B) {s m : List Nat} (hs : okB B s) (hm : okB B m) {k c x : Nat} {t : List Nat} (h : RInv B s m k c t) (hgo : k < m.length ∨ c ≠ 0) (hx : (grown t k)[k]? = some x) :
    RInv B s m (k + 1) ((x + limbAt m k + c) / B) ((grown t k).set k ((x + limbAt m k + c) % B)) := by
  have hle : k ≤ max s.length m.length := by
    rcases Nat.lt_or_ge (max s.length m.length) k with h1 | h1
    · have := h.stop hB hs hm h1
      omega
    · exact h1
  have hgo' : okB B (grown t k) := by
    unfold grown; split
    · exact okB_snoc h.ok (by omega)
    · exact h.ok
  have hxl := ok_get hgo' hx
  have hyl := limb_lt (by omega : 1 ≤ B) hm k
  have hc := h.car
  refine ⟨okB_set hgo' (Nat.mod_lt _ (by omega)) _, ?_, ?_, ?_, by omega, ?_⟩
  · rw [List.length_set]; unfold grown; have := h.len; split
    · rw [List.length_append, List.length_singleton]; omega
    · omega
  · have : (x + limbAt m k + c) / B < 2 := by
      rw [Nat.div_lt_iff_lt_mul (by omega)]; omega
    omega
  · rw [valB_take_limb, Nat.pow_succ]
    exact carry_step (by rw [valB_setq B _ hx, grown_val]) h.val step_eq
  · intro hk
    have hkm : m.length ≤ k := by omega
    have hc0 : c ≠ 0 := by omega
    have hv := h.val
    rw [valB_take_all B hkm, show k = max s.length m.length by omega] at hv
    have : B ^ max s.length m.length * 1 ≤ B ^ max s.length m.length * c := Nat.mul_le_mul_left _ (by omega)
    omega
theorem RInv.done {B : Nat} (hB : 2 ≤ B) {s m : List Nat} (hs : nrm s) (hm : nrm m) {k : Nat} {t : List Nat} (h : RInv B s m k 0 t) (hk : m.length ≤ k) : digs B (valB B s + valB B m) = t := by
  have hv := h.val
  rw [valB_take_all B hk] at hv
  refine digs_unique hB h.ok (nrm_of_ge hB h.ok ?_) (by omega)
  have hl := h.len
  rcases Nat.eq_zero_or_pos t.length with h0 | h0
  · exact Or.inl (List.eq_nil_of_length_eq_zero h0)
  · right
    rcases Nat.lt_or_ge (max s.length m.length) t.length with h1 | h1
    · have := h.bnd
      have hk1 : k = max s.length m.length + 1 := by omega
      have := h.top hk1
      rw [show t.length - 1 = max s.length m.length by omega]
      omega
    · rcases Nat.le_total s.length m.length with h2 | h2
      · have := ge_of_nrm hB hm (List.length_pos_iff.1 (by omega))
        rw [show t.length - 1 = m.length - 1 by omega]
        omega
      · have := ge_of_nrm hB hs (List.length_pos_iff.1 (by omega))
        rw [show t.length - 1 = s.length - 1 by omega]
        omega
theorem grown_get {B : Nat} {s m : List Nat} {k c : Nat} {t : List Nat} (h : RInv B s m k c t) : ∃ x, (grown t k)[k]? = some x := by
  apply some_get
  have := h.len
  unfold grown
  split
  · rw [List.length_append, List.length_singleton]; omega
  · omega
end Go.Proofs.YtfgoflaeclfggaaDoor.NatM
end
section
namespace Go.Proofs.YtfgoflaeclfggaaDoor.NatM
/-! ### products -/
structure MInv (B : Nat) (a b : List Nat) (i j x c : Nat) (P : List Nat) : Prop where
  ok : okB B P
  len : P.length = a.length + b.length
  car : c < B
  zero : ∀ t, i + b.length ≤ t → t < P.length → P[t]? = some 0
  val : valB B P + B ^ (i + j) * c = valB B (a.take i) * valB B b + B ^ i * x * valB B (b.take j)
theorem mul_car {B c x y p : Nat} (hc : c < B) (hx : x < B) (hy : y < B) (hp : p < B) : c + (x * y + p) < B * B := by
  have h1 : x * y ≤ (B - 1) * (B - 1) := Nat.mul_le_mul (by omega) (by omega)
  obtain ⟨k, rfl⟩ : ∃ k, B = k + 1 := ⟨B - 1, by omega⟩
  simp only [Nat.add_sub_cancel] at h1
  have : (k + 1) * (k + 1) = k * k + 2 * k + 1 := by rw [Nat.add_mul, Nat.mul_add]; omega
  omega
theorem MInv.start {B : Nat} (hB : 1 ≤ B) (a b : List Nat) (x : Nat) : MInv B a b 0 0 x 0 (List.replicate (a.length + b.length) 0) :=
  ⟨okB_replicate hB _, List.length_replicate, by omega, fun t _ h => by
    rw [List.length_replicate] at h
    rw [List.getElem?_replicate, if_pos h], by rw [valB_replicate]; simp [valB]⟩
theorem MInv.step {B : Nat} {a b : List Nat} {i j x c p y : Nat} {P : List Nat} (h : MInv B a b i j x c P) (hx : x < B) (hb : okB B b) (hj : j < b.length) (hy : b[j]? = some y) (hp : P[i + j]? = some p) :
    MInv B a b i (j + 1) x ((c + (x * y + p)) / B) (P.set (i + j) ((c + (x * y + p)) % B)) := by
  have hc := h.car
  have hB : 0 < B := by omega
  have hyl := ok_get hb hy
  have hpl := ok_get h.ok hp
  refine ⟨okB_set h.ok (Nat.mod_lt _ hB) _, by rw [List.length_set]; exact h.len, ?_, ?_, ?_⟩
  · rw [Nat.div_lt_iff_lt_mul hB]; exact mul_car hc hx hyl hpl
  · intro t h1 h2
    rw [List.length_set] at h2
    rw [List.getElem?_set_ne (by omega)]
    exact h.zero t h1 h2
  · have h1 := valB_setq B ((c + (x * y + p)) % B) hp
    have h2 := valB_takeq B hy
    have h3 := h.val
    have h4 : (c + (x * y + p)) % B + B * ((c + (x * y + p)) / B) = c + (x * y + p) := Nat.mod_add_div _ _
    rw [h2, show i + (j + 1) = i + j + 1 by omega, Nat.pow_succ]
    generalize (c + (x * y + p)) % B = r at *
    generalize (c + (x * y + p)) / B = q at *
    have h5 : B ^ (i + j) = B ^ i * B ^ j := Nat.pow_add _ _ _
    rw [h5] at *
    grind
theorem MInv.row {B : Nat} {a b : List Nat} {i x c : Nat} {P : List Nat} (h : MInv B a b i b.length x c P) (hi : i < a.length) (hx : a[i]? = some x) (x' : Nat) :
    MInv B a b (i + 1) 0 x' 0 (P.set (i + b.length) c) := by
  have hc := h.car
  have hl := h.len
  refine ⟨okB_set h.ok hc _, by rw [List.length_set]; exact hl, by omega, ?_, ?_⟩
  · intro t h1 h2
    rw [List.length_set] at h2
    rw [List.getElem?_set_ne (by omega)]
    exact h.zero t (by omega) h2
  · have h1 := valB_setq B c (h.zero (i + b.length) (Nat.le_refl _) (by omega))
    have h2 := valB_takeq B hx
    have h3 := h.val
    rw [List.take_length] at h3
    rw [h2]
    simp [valB] at *
    rw [Nat.add_mul]
    omega
theorem MInv.again {B : Nat} {a b : List Nat} {i c x : Nat} {P : List Nat} (h : MInv B a b i 0 x c P) (hc : c = 0) (x' : Nat) : MInv B a b i 0 x' 0 P :=
  ⟨h.ok, h.len, by have := h.car; omega, h.zero, by have := h.val; subst hc; simp [valB] at *; exact this⟩
theorem MInv.done {B : Nat} {a b : List Nat} {x c : Nat} {P : List Nat} (h : MInv B a b a.length 0 x c P) (hc : c = 0) : valB B P = valB B a * valB B b := by
  have := h.val
  subst hc
  rw [List.take_length] at this
  simpa [valB] using this

/-! ### a number times a limb plus a limb, in place -/
structure EInv (B : Nat) (a : List Nat) (m c0 i c : Nat) (t : List Nat) : Prop where
  ok : okB B t
  len : t.length = a.length
  car : c < B
  rest : t.drop i = a.drop i
  val : valB B (t.take i) + B ^ i * c = valB B (a.take i) * m + c0
theorem EInv.start {B : Nat} {a : List Nat} (ha : okB B a) (m c0 : Nat) (hc : c0 < B) : EInv B a m c0 0 c0 a := ⟨ha, rfl, hc, rfl, by simp [valB]⟩
theorem drop_set_succ {l : List Nat} {k y : Nat} : (l.set k y).drop (k + 1) = l.drop (k + 1) := by
  rw [List.drop_set]; simp
theorem get_of_drop {s t : List Nat} {k : Nat} (h : s.drop k = t.drop k) : s[k]? = t[k]? := by
  have := congrArg (fun l : List Nat => l[0]?) h
  simpa using this
theorem drop_succ_of {s t : List Nat} {k : Nat} (h : s.drop k = t.drop k) : s.drop (k + 1) = t.drop (k + 1) := by
  have := congrArg (fun l : List Nat => l.drop 1) h
  simpa [List.drop_drop] using this
theorem EInv.step {B : Nat} {a : List Nat} {m c0 i c x : Nat} {t : List Nat} (ha : okB B a) (hm : m < B) (h : EInv B a m c0 i c t) (hx : a[i]? = some x) :
    EInv B a m c0 (i + 1) ((c + x * m) / B) (t.set i ((c + x * m) % B)) := by
  have hc := h.car
  have hB : 0 < B := by omega
  have hxl := ok_get ha hx
  have hxt : t[i]? = some x := (get_of_drop h.rest).trans hx
  refine ⟨okB_set h.ok (Nat.mod_lt _ hB) _, by rw [List.length_set]; exact h.len, ?_, ?_, ?_⟩
  · rw [Nat.div_lt_iff_lt_mul hB]
    have := mul_car (p := 0) hc hxl hm hB
    omega
  · rw [drop_set_succ]; exact drop_succ_of h.rest
  · rw [set_takeq hxt, valB_snoc, List.length_take, Nat.min_eq_left (by have := get_lt hxt; omega), valB_takeq B hx]
    have h3 := h.val
    have h4 : (c + x * m) % B + B * ((c + x * m) / B) = c + x * m := Nat.mod_add_div _ _
    generalize (c + x * m) % B = r at *
    generalize (c + x * m) / B = q at *
    rw [Nat.pow_succ]
    grind
theorem EInv.done {B : Nat} {a : List Nat} {m c0 c : Nat} {t : List Nat} (h : EInv B a m c0 a.length c t) : valB B (t ++ [c]) = valB B a * m + c0 := by
  have h1 := h.val
  rw [List.take_length] at h1
  rw [valB_snoc, h.len]
  rw [show t.take a.length = t by rw [← h.len, List.take_length]] at h1
  exact h1
theorem EInv.done0 {B : Nat} {a : List Nat} {m c0 : Nat} {t : List Nat} (h : EInv B a m c0 a.length 0 t) : valB B t = valB B a * m + c0 := by
  have := h.done
  rw [valB_snoc] at this
  simpa using this
theorem nrm_snoc {t : List Nat} {c : Nat} (h : c ≠ 0) : nrm (t ++ [c]) := by
  intro x hx
  simp at hx
  omega
theorem EInv.nrm0 {B : Nat} (hB : 2 ≤ B) {a : List Nat} {m c0 : Nat} {t : List Nat} (h : EInv B a m c0 a.length 0 t) (ha : nrm a) (hm : 1 ≤ m) : nrm t := by
  refine nrm_of_ge hB h.ok ?_
  rcases Nat.eq_zero_or_pos a.length with h0 | h0
  · exact Or.inl (List.eq_nil_of_length_eq_zero (by rw [h.len]; exact h0))
  · right
    have h1 := ge_of_nrm hB ha (List.length_pos_iff.1 h0)
    have h2 := h.done0
    have h3 : valB B a * 1 ≤ valB B a * m := Nat.mul_le_mul_left _ hm
    rw [h.len]
    omega

/-! ### division by a limb, from the top -/
structure VInv (B : Nat) (a : List Nat) (d k r : Nat) (t : List Nat) : Prop where
  ok : okB B t
  len : t.length = a.length
  rem : r < d
  rest : t.take k = a.take k
  val : valB B (t.drop k) * d + r = valB B (a.drop k)
theorem VInv.start {B : Nat} {a : List Nat} (ha : okB B a) {d : Nat} (hd : 0 < d) : VInv B a d a.length 0 a := ⟨ha, rfl, hd, rfl, by simp [valB]⟩
theorem get_of_take {s t : List Nat} {k j : Nat} (h : s.take k = t.take k) (hj : j < k) : s[j]? = t[j]? := by
  have := congrArg (fun l : List Nat => l[j]?) h
  simp only [List.getElem?_take] at this
  rwa [if_pos hj, if_pos hj] at this
theorem div_lt_base {B r x d : Nat} (hr : r < d) (hx : x < B) : (r * B + x) / d < B := by
  rw [Nat.div_lt_iff_lt_mul (by omega)]
  have : (r + 1) * B ≤ d * B := Nat.mul_le_mul_right _ hr
  rw [Nat.add_mul] at this
  rw [Nat.mul_comm B d]
  omega
theorem VInv.step {B : Nat} {a : List Nat} {d j r x : Nat} {t : List Nat} (ha : okB B a) (h : VInv B a d (j + 1) r t) (hx : a[j]? = some x) :
    VInv B a d j ((r * B + x) % d) (t.set j ((r * B + x) / d)) := by
  have hr := h.rem
  have hxl := ok_get ha hx
  have hxt : t[j]? = some x := (get_of_take h.rest (by omega)).trans hx
  have hq := div_lt_base hr hxl
  refine ⟨okB_set h.ok hq _, by rw [List.length_set]; exact h.len, Nat.mod_lt _ (by omega), ?_, ?_⟩
  · rw [List.take_set_of_le (Nat.le_refl _)]
    have := congrArg (fun l : List Nat => l.take j) h.rest
    simpa [List.take_take] using this
  · have h1 : (t.set j ((r * B + x) / d))[j]? = some ((r * B + x) / d) := by rw [List.getElem?_set_self (get_lt hxt)]
    rw [valB_dropq B h1, drop_set_succ, valB_dropq B hx]
    have h3 := h.val
    have h4 : (r * B + x) % d + d * ((r * B + x) / d) = r * B + x := Nat.mod_add_div _ _
    generalize (r * B + x) % d = r' at *
    generalize (r * B + x) / d = q at *
    grind
theorem VInv.done {B : Nat} {a : List Nat} {d r : Nat} {t : List Nat} (h : VInv B a d 0 r t) : valB B t = valB B a / d ∧ r = valB B a % d := by
  have h1 := h.val
  have h2 := h.rem
  simp at h1
  have e : r + d * valB B t = valB B a := by rw [Nat.mul_comm]; omega
  constructor
  · rw [← e, Nat.add_mul_div_left _ _ (by omega), Nat.div_eq_of_lt h2]; omega
  · rw [← e, Nat.add_mul_mod_self_left, Nat.mod_eq_of_lt h2]

/-! ### order -/
def cmpN (a b : Nat) : Int := if a < b then -1 else if b < a then 1 else 0
theorem cmp_lt {a b : Nat} (h : a < b) : cmpN a b = -1 := by unfold cmpN; rw [if_pos h]
theorem cmp_gt {a b : Nat} (h : b < a) : cmpN a b = 1 := by unfold cmpN; rw [if_neg (by omega), if_pos h]
theorem cmp_eq (a : Nat) : cmpN a a = 0 := by unfold cmpN; rw [if_neg (by omega), if_neg (by omega)]
theorem trim_ex {B : Nat} (hB : 2 ≤ B) {l : List Nat} (ho : okB B l) : ∃ k, k ≤ l.length ∧ l.take k = digs B (valB B l) := by
  have key : ∀ n, n ≤ l.length → valB B (l.take n) = valB B l → ∃ k, k ≤ l.length ∧ l.take k = digs B (valB B l) := by
    intro n
    induction n with
    | zero => intro _ hv; exact ⟨0, Nat.zero_le _, (trim0 hB ho hv).symm⟩
    | succ n ih =>
      intro hn hv
      obtain ⟨x, hx⟩ := some_get (l := l) (k := n) (by omega)
      by_cases h0 : x = 0
      · subst h0
        exact ih (by omega) (trim_stepq B (k := n + 1) (by omega) hn hv hx)
      · exact ⟨n + 1, hn, trimq hB ho (k := n + 1) hn hv hx h0⟩
  exact key l.length (Nat.le_refl _) (by rw [List.take_length])
end Go.Proofs.YtfgoflaeclfggaaDoor.NatM
end
section
namespace Go.Proofs.YtfgoflaeclfggaaDoor.NatM
/-! ### decimal digits -/
structure TInv (n : Nat) (ds : List Nat) (q : Nat) : Prop where
  ok : okB 10 ds
  val : valB 10 ds + 10 ^ ds.length * q = n
  fin : q = 0 → nrm ds
theorem TInv.start (n : Nat) : TInv n [] n := ⟨okB_nil _, by simp [valB], fun _ _ h => by cases h⟩
theorem TInv.step {n q : Nat} {ds : List Nat} (h : TInv n ds q) (hq : 0 < q) : TInv n (ds ++ [q % 10]) (q / 10) := by
  refine ⟨okB_snoc h.ok (Nat.mod_lt _ (by omega)), ?_, fun h0 => nrm_snoc (by omega)⟩
  rw [valB_snoc, List.length_append, List.length_singleton, Nat.pow_succ, Nat.mul_assoc, Nat.add_assoc, ← Nat.mul_add]
  have : q % 10 + 10 * (q / 10) = q := by omega
  rw [this]; exact h.val
theorem TInv.done {n : Nat} {ds : List Nat} (h : TInv n ds 0) : digs 10 n = ds := digs_unique (by omega) h.ok (h.fin rfl) (by have := h.val; omega)
theorem TInv.len {n q : Nat} {ds : List Nat} (h : TInv n ds q) (hq : 0 < q) : 10 ^ ds.length ≤ n := by
  have h1 := h.val
  have : 10 ^ ds.length * 1 ≤ 10 ^ ds.length * q := Nat.mul_le_mul_left _ hq
  omega
theorem dec_len {n m k : Nat} (h : n < 4294967296 ^ m) (hk : 10 ^ k ≤ n) : k < 10 * m := by
  rcases Nat.lt_or_ge k (10 * m) with h1 | h1
  · exact h1
  · exfalso
    have h2 : 10 ^ (10 * m) ≤ 10 ^ k := Nat.pow_le_pow_right (by omega) h1
    rw [Nat.pow_mul] at h2
    have h3 : 4294967296 ^ m ≤ (10 ^ 10) ^ m := Nat.pow_le_pow_left (by decide) m
    omega
theorem pow9 {i : Nat} (h : i < 9) : 10 ^ (9 - i) = 10 * 10 ^ (9 - (i + 1)) := by
  rw [show 9 - i = (9 - (i + 1)) + 1 by omega, Nat.pow_succ, Nat.mul_comm]
theorem inner_step {n R i chunk : Nat} {ds : List Nat} (hi : i < 9) (h : TInv n ds (chunk + 10 ^ (9 - i) * R)) (hgo : 0 < R ∨ 0 < chunk) : TInv n (ds ++ [chunk % 10]) (chunk / 10 + 10 ^ (9 - (i + 1)) * R) := by
  have hp : 0 < chunk + 10 ^ (9 - i) * R := by
    rcases hgo with h1 | h1
    · have := Nat.mul_pos (Nat.pow_pos (by omega) : 0 < 10 ^ (9 - i)) h1; omega
    · omega
  have hs := h.step hp
  rw [pow9 hi, Nat.mul_assoc] at hs
  have e1 : (chunk + 10 * (10 ^ (9 - (i + 1)) * R)) % 10 = chunk % 10 := by omega
  have e2 : (chunk + 10 * (10 ^ (9 - (i + 1)) * R)) / 10 = chunk / 10 + 10 ^ (9 - (i + 1)) * R := by omega
  rw [e1, e2] at hs
  exact hs
theorem inner_lt {i chunk : Nat} (hi : i < 9) (h : chunk < 10 ^ (9 - i)) : chunk / 10 < 10 ^ (9 - (i + 1)) := by
  rw [pow9 hi] at h
  omega
theorem inner_le {i chunk : Nat} (h : chunk < 10 ^ (9 - i)) : chunk < 1000000000 := by
  have : 10 ^ (9 - i) ≤ 10 ^ 9 := Nat.pow_le_pow_right (by omega) (by omega)
  have e : 10 ^ 9 = 1000000000 := by decide
  omega
theorem inner_pos {n R i chunk : Nat} {ds : List Nat} (h : TInv n ds (chunk + 10 ^ (9 - i) * R)) (hgo : 0 < R ∨ 0 < chunk) : 10 ^ ds.length ≤ n := by
  refine h.len ?_
  rcases hgo with h1 | h1
  · have := Nat.mul_pos (Nat.pow_pos (by omega) : 0 < 10 ^ (9 - i)) h1; omega
  · omega
theorem outer_enter {n R : Nat} {ds : List Nat} (h : TInv n ds R) : TInv n ds (R % 1000000000 + 10 ^ (9 - 0) * (R / 1000000000)) := by
  have e : 10 ^ (9 - 0) = 1000000000 := by decide
  rw [e, Nat.mod_add_div]; exact h
/-- The decimal digits of a number, the highest first. -/
def decL (n : Nat) : List Nat := if n = 0 then [0] else (digs 10 n).reverse

/-! ### turning a list round, two by two -/
def RevAt {α : Type} (xs zs : List α) (k : Nat) : Prop := zs.length = xs.length ∧ ∀ t, t < xs.length → zs[t]? = if t < k ∨ xs.length ≤ t + k then xs[xs.length - 1 - t]? else xs[t]?
theorem RevAt.start {α : Type} (xs : List α) : RevAt xs xs 0 := ⟨rfl, fun t ht => by rw [if_neg (by omega)]⟩
theorem RevAt.step {α : Type} {xs zs : List α} {k : Nat} {x y : α} (h : RevAt xs zs k) (hk : 2 * k + 1 < xs.length) (hx : zs[k]? = some x) (hy : zs[xs.length - 1 - k]? = some y) :
    RevAt xs ((zs.set k y).set (xs.length - 1 - k) x) (k + 1) := by
  obtain ⟨hl, ha⟩ := h
  have hx' := ha k (by omega)
  rw [hx, if_neg (by omega)] at hx'
  have hy' := ha (xs.length - 1 - k) (by omega)
  rw [hy, if_neg (by omega)] at hy'
  refine ⟨by simp [hl], fun t ht => ?_⟩
  by_cases h1 : t = xs.length - 1 - k
  · subst h1
    rw [List.getElem?_set_self (by simp; omega), if_pos (by omega), show xs.length - 1 - (xs.length - 1 - k) = k by omega]
    exact hx'
  · rw [List.getElem?_set_ne (by omega)]
    by_cases h2 : t = k
    · subst h2
      rw [List.getElem?_set_self (by omega), if_pos (by omega)]
      exact hy'
    · rw [List.getElem?_set_ne (by omega), ha t ht]
      by_cases h3 : t < k ∨ xs.length ≤ t + k
      · rw [if_pos h3, if_pos (by omega)]
      · rw [if_neg h3, if_neg (by omega)]
theorem RevAt.done {α : Type} {xs zs : List α} {k : Nat} (h : RevAt xs zs k) (hk : xs.length ≤ 2 * k + 1) : zs = xs.reverse := by
  obtain ⟨hl, ha⟩ := h
  apply List.ext_getElem?
  intro t
  rcases Nat.lt_or_ge t xs.length with ht | ht
  · rw [ha t ht, List.getElem?_reverse ht]
    split
    · rfl
    · congr 1; omega
  · rw [List.getElem?_eq_none (by omega), List.getElem?_eq_none (by simp; omega)]
end Go.Proofs.YtfgoflaeclfggaaDoor.NatM
end
section
namespace Go.Proofs.YtfgoflaeclfggaaDoor
open Go.RowKit NatM

theorem infoI : (Tryd.prog.info? 3).map (fun i => (i.zero, i.size, i.bytes)) = some (some (.int .i64 0), 1, 8) := by kernel_rfl
theorem cI_set (l : List Int) (k : Nat) (x : Int) : cI (l.set k x) = (cI l).set k (.int .i64 x) := by simp [cI, List.map_set]
def RevRelI (w : World) (base g cap : Nat) (xs : List Int) (v2 v3 : Value) (wr : World) : Prop :=
  ∃ (k : Nat) (zs : List Int), 2 * k ≤ xs.length ∧ v2 = .int .i64 (k : Int) ∧ v3 = .int .i64 ((xs.length : Int) - 1 - (k : Int)) ∧ RevAt xs zs k ∧ wr.ownsRow base 3 1 (.slice (some ⟨g, 0, none⟩) xs.length cap) xs.length (cI zs) ∧ w.grownBy wr (some g)
def RevPostI (w : World) (base g cap : Nat) (xs : List Int) (e : Ending) (w' : World) : Prop :=
  e = .returned (.tuple #[]) ∧ w'.ownsRow base 3 1 (.slice (some ⟨g, 0, none⟩) xs.length cap) xs.length (cI xs.reverse) ∧ w.grownBy w' (some g)

end Go.Proofs.YtfgoflaeclfggaaDoor
end
section
namespace Go.Proofs.YtfgoflaeclfggaaDoor
open Go.RowKit WordM

/-- of two numbers -/
def cmpInt (x y : Int) : Int := if x < y then -1 else if y < x then 1 else 0
theorem cmpInt_lt {x y : Int} (h : x < y) : cmpInt x y = -1 := by unfold cmpInt; rw [if_pos h]
theorem cmpInt_gt {x y : Int} (h : y < x) : cmpInt x y = 1 := by unfold cmpInt; rw [if_neg (by omega), if_pos h]
theorem cmpInt_self (x : Int) : cmpInt x x = 0 := by unfold cmpInt; rw [if_neg (by omega), if_neg (by omega)]

theorem get_take_alike {a b : List Int} {j : Nat} (h : a.take j = b.take j) : ∀ i, i < j → a[i]? = b[i]? := fun i hi => by
  have e := congrArg (fun l : List Int => l[i]?) h
  simpa [List.getElem?_take, hi] using e
/-- slices.Equal: the same text as edenraw.Ints -/
theorem equal_q (p q : Option Addr) (n m c d : Nat) (l k : List Int) (w : World) (hn : n = l.length) (hm : m = k.length) (hlen : l.length = k.length) (h : IntV w.heap.size w p c l) (h' : IntV w.heap.size w q d k) :
    Calls Tryd.prog 48 #[.slice p n c, .slice q m d] w (Quiet (.bool (sameI l k)) w) := by
  subst hn hm
  have hcap := h.cap
  have hle := h.le
  have hdle := h'.le
  have hdcap := h'.cap
  unfold maxLen at hcap hdcap
  have H := Lib.hid (And.intro h h')
  clear h h'
  obtain ⟨n, hn⟩ : ∃ n, n = l.length := ⟨_, rfl⟩
  rw [← hlen, ← hn]
  rw [← hn] at hle
  rw [← hlen, ← hn] at hdle
  have HN := Lib.hid (And.intro hn hlen)
  clear hn hlen
  go_enter Tryd.func48, Tryd.ntmps48
  go_wp2_with fail
  go_loopw [13] (fun v wx => ∃ j : Nat, j ≤ n ∧ v = .int .i64 j ∧ Hid (∃ a, wx = w.drewN a) ∧ Hid (l.take j = k.take j)) (fun i _ => n - (intOf i).toNat)
  case atStart => exact ⟨0, Nat.zero_le _, rfl, ⟨0, rfl⟩, by show _ = _; simp⟩
  case round =>
    obtain ⟨j, hj, rfl, hbx, ht⟩ := hrel
    by_cases hlt : j < n
    · have hnl := HN.out.1
      have hkl := HN.out.2
      have hne : l ≠ [] := by rintro rfl; simp at hnl; omega
      have hne' : k ≠ [] := by rintro rfl; simp at hkl; simp [hkl] at hnl; omega
      have hbw : Below w.heap.size w wr := hbx.out.elim fun a e => e ▸ below_drewN (Below.refl _ _) a
      obtain ⟨b, off, rfl, hb, hc⟩ := (H.out.1.below hbw).cell hne
      obtain ⟨b', off', rfl, hb', hc'⟩ := (H.out.2.below hbw).cell hne'
      obtain ⟨x, hx⟩ := getI (l := l) (k := j) (by omega)
      obtain ⟨y, hy⟩ := getI (l := k) (k := j) (by omega)
      have h1 := hc j x hx
      have h2 := hc' j y hy
      have HX := Lib.hid (And.intro hx hy)
      clear hbw hc hc' hx hy hne hne' hnl hkl
      by_cases hxy : x = y
      · subst hxy
        go_wp2_with fail
        go_quiet (fail)
        go_wp2_with fail
        go_roundw
        case rel => exact ⟨j + 1, by omega, by go_num, quiet_more hbx.out _, take_alike HX.out.1 HX.out.2 ht.out⟩
        case measure => simp [intOf]; omega
      · have hne1 : ((x : Int) == (y : Int)) = false := by simpa using hxy
        have hs : sameI l k = false := sameI_ne (by rintro rfl; have := HX.out; rw [this.1] at this; exact hxy (Option.some.inj this.2))
        have HS := Lib.hid hs
        clear hs
        go_wp2_with fail
        go_quiet (fail)
        go_wp2_with fail
        go_ret
        exact ⟨by rw [HS.out]; rfl, quiet_more hbx.out _⟩
    · obtain rfl : j = n := by omega
      have hs : sameI l k = true := sameI_eq (by
        have e := ht.out
        have e1 := HN.out
        rwa [e1.1, List.take_length, e1.2, List.take_length] at e)
      have HS := Lib.hid hs
      clear hs
      go_wp2_with fail
      go_ret
      exact ⟨by rw [HS.out]; rfl, hbx.out⟩
end Go.Proofs.YtfgoflaeclfggaaDoor
end
section
namespace Go.Proofs.YtfgoflaeclfggaaDoor
open Go.RowKit Go.Extern.Stop Go.Stop Go.Extern

/-- An error as this program makes it: no error, a pointer to an errorString, a Fault (with its address), and the law's foreign errors. -/
inductive Tree where
  | nil : Tree
  | leaf (a : Addr) : Tree
  | fault (b : Nat) (op : ByteArray) (pl : Int) (t : Tree) : Tree

namespace Tree
def val : Tree → Value
  | nil => .nilIface
  | leaf a => .iface 132 (.pointer (some a))
  | fault b _ _ _ => .iface 73 (.pointer (some ⟨b, 0, none⟩))

/-- The tree lies in the world: each errorString's and each Fault's block is there. -/
def lies (w : World) : Tree → Prop
  | nil => True
  | leaf a => ∃ c t, w.heap[a.block]? = some (.cells c t (0, 0))
  | fault b op pl t => w.heap[b]? = some (.cells #[.string op, .int .i64 pl, t.val] 77 (0, 0)) ∧ t.lies w ∧ t ≠ nil

def isNil : Tree → Bool
  | nil => true
  | _ => false

/-- Does errors.Is find the pointer p of the dynamic type T? -/
def hits (T : Nat) (p : Addr) : Tree → Bool
  | nil => false
  | leaf a => decide (T = 132 ∧ a = p)
  | fault b _ _ t => decide (T = 73 ∧ (⟨b, 0, none⟩ : Addr) = p) || t.hits T p

/-- The first Fault that errors.As finds: its block. -/
def first : Tree → Option Nat
  | nil => none
  | leaf _ => none
  | fault b _ _ _ => some b

def size : Tree → Nat
  | nil => 1
  | leaf _ => 1
  | fault _ _ _ t => t.size + 1
end Tree

/-- What is below stays: the tree lies in the later world, too. -/
theorem heap_lt {w : World} {b : Nat} {o : Obj} (h : w.heap[b]? = some o) : b < w.heap.size := by
  rcases Nat.lt_or_ge b w.heap.size with k | k
  · exact k
  · simp [Array.getElem?_eq_none k] at h
theorem Tree.lies_below {w w' : World} (hb : Below w.heap.size w w') : ∀ {t : Tree}, t.lies w → t.lies w'
  | .nil, _ => True.intro
  | .leaf _, ⟨c, t, h⟩ => ⟨c, t, (hb.block _ (heap_lt h)).trans h⟩
  | .fault _ _ _ t, ⟨h, ht, hn⟩ => ⟨(hb.block _ (heap_lt h)).trans h, Tree.lies_below hb (t := t) ht, hn⟩
theorem Tree.val_isNil (t : Tree) : t.isNil = true → t = .nil := by cases t <;> simp [Tree.isNil]

theorem Tree.val_shape (t : Tree) : t.val = .nilIface ∨ ∃ T x, t.val = .iface T x := by
  cases t
  · exact Or.inl rfl
  all_goals exact Or.inr ⟨_, _, rfl⟩
theorem Tree.val_held {t : Tree} (h : t ≠ .nil) : ∃ T x, t.val = .iface T x := by
  rcases t.val_shape with k | k
  · cases t <;> first | exact absurd rfl h | cases k
  · exact k

/-! ### closed facts -/
theorem isComp94 : (Tryd.prog.info? 132).map (·.comparable) = some true := by kernel_rfl
theorem isComp44 : (Tryd.prog.info? 73).map (·.comparable) = some true := by kernel_rfl
theorem isSize96 : (Tryd.prog.info? 154).map (·.size) = some 1 := by kernel_rfl
theorem isSize48 : (Tryd.prog.info? 77).map (·.size) = some 3 := by kernel_rfl
theorem typeOf94 (v : Value) (w : World) : (ReflectliteType.typeOf #[.iface 132 v]).run Tryd.prog w = .ok (.iface 113 (.agg #[.pointer (some ⟨13, 132, none⟩)])) w := by kernel_rfl
theorem typeOf44 (v : Value) (w : World) : (ReflectliteType.typeOf #[.iface 73 v]).run Tryd.prog w = .ok (.iface 113 (.agg #[.pointer (some ⟨13, 73, none⟩)])) w := by kernel_rfl
theorem comparable94 (w : World) : (callFunc 109 #[.agg #[.pointer (some ⟨13, 132, none⟩)]]).run Tryd.prog w = .ok (Next.value (.bool true)) w := by kernel_rfl
theorem comparable44 (w : World) : (callFunc 109 #[.agg #[.pointer (some ⟨13, 73, none⟩)]]).run Tryd.prog w = .ok (Next.value (.bool true)) w := by kernel_rfl
theorem methodComparable (v : Value) (w : World) : (Go.method 266 113 v "Comparable").run Tryd.prog w = .ok (109, v) w := by kernel_rfl
theorem noIs94 (v : Value) (x : TypeId) (w : World) : (Instr.typeAssert (.iface 132 v) x 115 true).run Tryd.prog w = .ok (.tuple #[.nilIface, .bool false]) w := run_typeAssert_lacksB Tryd.underlying115 (by kernel_rfl) (by kernel_rfl) v x w
theorem noIs44 (v : Value) (x : TypeId) (w : World) : (Instr.typeAssert (.iface 73 v) x 115 true).run Tryd.prog w = .ok (.tuple #[.nilIface, .bool false]) w := run_typeAssert_lacksB Tryd.underlying115 (by kernel_rfl) (by kernel_rfl) v x w
theorem noU94 (v : Value) (x : TypeId) (w : World) : (Instr.typeAssert (.iface 132 v) x 118 true).run Tryd.prog w = .ok (.tuple #[.nilIface, .bool false]) w := run_typeAssert_lacksB Tryd.underlying118 (by kernel_rfl) (by kernel_rfl) v x w
theorem hasU44 (v : Value) (x : TypeId) (w : World) : (Instr.typeAssert (.iface 73 v) x 118 true).run Tryd.prog w = .ok (.tuple #[.iface 73 v, .bool true]) w := run_typeAssert_hasB Tryd.underlying118 (by kernel_rfl) v x w
theorem noV94 (v : Value) (x : TypeId) (w : World) : (Instr.typeAssert (.iface 132 v) x 120 true).run Tryd.prog w = .ok (.tuple #[.nilIface, .bool false]) w := run_typeAssert_lacksB Tryd.underlying120 (by kernel_rfl) (by kernel_rfl) v x w
theorem methodU44 (v : Value) (w : World) : (Go.method 266 73 v "Unwrap").run Tryd.prog w = .ok (103, v) w := by kernel_rfl
theorem noIsN (x : TypeId) (w : World) : (Instr.typeAssert .nilIface x 115 true).run Tryd.prog w = .ok (.tuple #[.nilIface, .bool false]) w := by kernel_rfl
theorem noUN (x : TypeId) (w : World) : (Instr.typeAssert .nilIface x 118 true).run Tryd.prog w = .ok (.tuple #[.nilIface, .bool false]) w := by kernel_rfl
theorem noVN (x : TypeId) (w : World) : (Instr.typeAssert .nilIface x 120 true).run Tryd.prog w = .ok (.tuple #[.nilIface, .bool false]) w := by kernel_rfl
end Go.Proofs.YtfgoflaeclfggaaDoor
end
section
namespace Go.Proofs.YtfgoflaeclfggaaDoor
open Go.RowKit Go.Extern.Stop Go.Stop Go.Extern

/-- What holds of a target: its block is there. -/
def Target (w : World) (p : Addr) : Prop := ∃ c t, w.heap[p.block]? = some (.cells c t (0, 0))
theorem Target.below {w w' : World} {p : Addr} (hb : Below w.heap.size w w') : Target w p → Target w' p := fun ⟨c, t, h⟩ => ⟨c, t, (hb.block _ (heap_lt h)).trans h⟩

theorem unwrap44 (b : Nat) (op : ByteArray) (pl : Int) (v : Value) (w : World) (h : w.heap[b]? = some (.cells #[.string op, .int .i64 pl, v] 77 (0, 0))) :
    Calls Tryd.prog 103 #[.pointer (some ⟨b, 0, none⟩)] w fun e w' => e = .returned v ∧ w = w' := by
  have hc : w.cell? ⟨b, 2, none⟩ = some v := by simp [World.cell?, h]
  go_enter Tryd.func103, Tryd.ntmps103
  go_wp2
  go_ret
  exact ⟨rfl, rfl⟩
/-- What the round of errors.is needs of the comparison with the target. -/
theorem eql_hit (w : World) (T : Nat) (a : Addr) (hT : T = 132 ∨ T = 73) :
    (binOp .eql 28 (.iface T (.pointer (some a))) (.iface T (.pointer (some a)))).run Tryd.prog w = .ok (.bool true) w := by
  rcases hT with rfl | rfl
  · obtain ⟨i, hi, hcmp⟩ := Option.map_eq_some_iff.1 isComp94
    obtain ⟨j, hj, hjs⟩ := Option.map_eq_some_iff.1 isSize96
    exact run_eql_iface_ptr_same (P := Tryd.prog) w a Tryd.underlying28 Tryd.underlying132 hi hcmp hj
  · obtain ⟨i, hi, hcmp⟩ := Option.map_eq_some_iff.1 isComp44
    obtain ⟨j, hj, hjs⟩ := Option.map_eq_some_iff.1 isSize48
    exact run_eql_iface_ptr_same (P := Tryd.prog) w a Tryd.underlying28 Tryd.underlying73 hi hcmp hj
theorem eql_miss (w : World) (T : Nat) (a p : Addr) (hT : T = 132 ∨ T = 73) (hne : a ≠ p) (ha : Target w a) (hp : Target w p) :
    (binOp .eql 28 (.iface T (.pointer (some a))) (.iface T (.pointer (some p)))).run Tryd.prog w = .ok (.bool false) w := by
  obtain ⟨c, t, ha⟩ := ha
  obtain ⟨c', t', hp⟩ := hp
  rcases hT with rfl | rfl
  · obtain ⟨i, hi, hcmp⟩ := Option.map_eq_some_iff.1 isComp94
    obtain ⟨j, hj, hjs⟩ := Option.map_eq_some_iff.1 isSize96
    exact run_eql_iface_ptr_other (P := Tryd.prog) w Tryd.underlying28 Tryd.underlying132 hi hcmp hj (by rw [hjs]; decide) hne ha hp
  · obtain ⟨i, hi, hcmp⟩ := Option.map_eq_some_iff.1 isComp44
    obtain ⟨j, hj, hjs⟩ := Option.map_eq_some_iff.1 isSize48
    exact run_eql_iface_ptr_other (P := Tryd.prog) w Tryd.underlying28 Tryd.underlying73 hi hcmp hj (by rw [hjs]; decide) hne ha hp
theorem eql_types (w : World) (T U : Nat) (x y : Value) (hne : T ≠ U) :
    (binOp .eql 28 (.iface T x) (.iface U y)).run Tryd.prog w = .ok (.bool false) w :=
  run_eql_iface_types (P := Tryd.prog) T U x y Tryd.underlying28 hne w
theorem eql_nil (w : World) (T : Nat) (x : Value) :
    (binOp .eql 28 .nilIface (.iface T x)).run Tryd.prog w = .ok (.bool false) w :=
  run_eql_iface_nil_left (P := Tryd.prog) w T x Tryd.underlying28

/-- Whether the error at the tree's head is the target itself. -/
def Tree.atHead (T : Nat) (p : Addr) : Tree → Bool
  | .leaf a => decide (T = 132 ∧ a = p)
  | .fault b _ _ _ => decide (T = 73 ∧ (⟨b, 0, none⟩ : Addr) = p)
  | _ => false
theorem eql_head (w : World) (T : Nat) (p : Addr) (t : Tree) (hT : T = 132 ∨ T = 73) (hl : t.lies w) (hp : Target w p) :
    (binOp .eql 28 t.val (.iface T (.pointer (some p)))).run Tryd.prog w = .ok (.bool (t.atHead T p)) w := by
  cases t with
  | nil => exact eql_nil w T _
  | leaf a =>
    by_cases h : T = 132
    · subst h
      by_cases k : a = p
      · subst k
        rw [show (Tree.leaf a).atHead 132 a = true from decide_eq_true ⟨rfl, rfl⟩]
        exact eql_hit w _ a hT
      · rw [show (Tree.leaf a).atHead 132 p = false from decide_eq_false fun e => k e.2]
        exact eql_miss w _ a p hT k hl hp
    · rw [show (Tree.leaf a).atHead T p = false from decide_eq_false fun e => h e.1]
      exact eql_types w _ T _ _ (Ne.symm h)
  | fault b op pl t =>
    by_cases h : T = 73
    · subst h
      by_cases k : (⟨b, 0, none⟩ : Addr) = p
      · subst k
        rw [show (Tree.fault b op pl t).atHead 73 ⟨b, 0, none⟩ = true from decide_eq_true ⟨rfl, rfl⟩]
        exact eql_hit w _ ⟨b, 0, none⟩ hT
      · rw [show (Tree.fault b op pl t).atHead 73 p = false from decide_eq_false fun e => k e.2]
        exact eql_miss w _ ⟨b, 0, none⟩ p hT k ⟨_, _, hl.1⟩ hp
    · rw [show (Tree.fault b op pl t).atHead T p = false from decide_eq_false fun e => h e.1]
      exact eql_types w _ T _ _ (Ne.symm h)
end Go.Proofs.YtfgoflaeclfggaaDoor
end
