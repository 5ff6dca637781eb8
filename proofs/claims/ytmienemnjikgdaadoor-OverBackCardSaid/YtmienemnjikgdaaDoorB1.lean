/- 
Plain mathematics of words: the least turn.
Plain mathematics of words: words as numbers, the next word, repeats.
Plain mathematics of rules: their windows, their tables, images of words.
What every walk of ours stands on: worlds below, rows that the call owns, slices that read a list of values.
Posts of calls that only draw.
Lists of ints in memory: slices that read one, rows that the call owns, edenraw.Ints.

Plain mathematics of sums of lists of digits, step by step; no part of the program.
Plain mathematics of products, of a number times a limb, of division by a limb, and of the order; no part of the program.
Plain mathematics of decimal digits, and of turning a list round; no part of the program.
Lists of ints: slices.Clone, slices.Reverse.
cmp.Compare, slices.Compare, slices.Equal of ints.
Closed facts on this program's errors for the library's errors.Is and errors.As, and the error trees: each fact holds for every value and world it names.
errors.Is by its contract: of any error tree and any target that is a pointer of one of the two kinds, it finds just what the tree holds, and leaves old memory alone.
Closed facts and small laws on the entries that errors.As meets, at a target that is a pointer to a *api.Fault.
errors.is and errors.Is by their contracts: of any error tree that lies in memory and any target that is a pointer of one of the two kinds.
errors.as and errors.As by their contracts, at a target that is a pointer to a *api.Fault: the first Fault of the tree is stored, or none is found and old memory stays.
Package fault by its contracts, first part: New, Under, numbered, and the two functions that ask errors.Is and errors.As behind a deferred recover.
What the program's own errors look like: one Fault of a package, with its place, over one of api's errors. -/
import Derived.Test.YtmienemnjikgdaaDoorProg
import Derived.WalkKit
import Derived.WalkSmall
import Derived.Deep.QuietTactic
import Derived.BigQuiet
import Derived.Deep.LoopGhost
import Derived.Lib.Hide
import Derived.Lib.QuietBelow
import Derived.Outline
import Derived.Laws.AppendOwn
import Derived.WalkSpells
import Derived.Maps.AppendAt
import Derived.OwnWalk
import Derived.Laws.MakeOwn
import Derived.RegionTactic
import Derived.ChangeAlike
import Derived.LaidEql
import Derived.Stop.Asserts
import Derived.RowKitTokens
import Derived.Recover
import Derived.Defers
section
/- Plain mathematics of words: turns, their order, periods. -/
namespace Go.Proofs.YtmienemnjikgdaaDoor.WordM

/-- the symbol at a place, counted around -/
def F (w : List Int) (i : Nat) : Int := w.getD (i % w.length) 0
/-- turned by t -/
def rot (w : List Int) (t : Nat) : List Int := (List.range w.length).map fun i => F w (i + t)
theorem rot_length (w : List Int) (t : Nat) : (rot w t).length = w.length := by simp [rot]
theorem F_add (w : List Int) (i : Nat) : F w (i + w.length) = F w i := by unfold F; rw [Nat.add_mod_right]
theorem F_mod (w : List Int) (i : Nat) : F w (i % w.length) = F w i := by unfold F; rw [Nat.mod_mod]
theorem F_get {w : List Int} {i : Nat} (h : i < w.length) : w[i]? = some (F w i) := by
  unfold F
  rw [Nat.mod_eq_of_lt h, List.getD_eq_getElem?_getD, List.getElem?_eq_getElem h]; rfl
theorem rot_get {w : List Int} {t i : Nat} (h : i < w.length) : (rot w t)[i]? = some (F w (i + t)) := by
  unfold rot
  rw [List.getElem?_map, List.getElem?_range h]; rfl
theorem F_rot (w : List Int) (t i : Nat) : F (rot w t) i = F w (i + t) := by
  rcases Nat.eq_zero_or_pos w.length with h | h
  · have h1 := List.eq_nil_of_length_eq_zero h
    subst h1; rfl
  · have h1 : i % w.length < w.length := Nat.mod_lt _ h
    have h2 := rot_get (t := t) h1
    unfold F
    rw [rot_length, List.getD_eq_getElem?_getD, h2]
    show F w (i % w.length + t) = w.getD ((i + t) % w.length) 0
    unfold F
    rw [Nat.mod_add_mod]
theorem ext_F {a b : List Int} (h : a.length = b.length) (hf : ∀ i, i < a.length → F a i = F b i) : a = b := by
  apply List.ext_getElem? ; intro i
  by_cases hi : i < a.length
  · rw [F_get hi, F_get (by omega), hf i hi]
  · rw [List.getElem?_eq_none (by omega), List.getElem?_eq_none (by omega)]
theorem rot_rot (w : List Int) (s t : Nat) : rot (rot w s) t = rot w (s + t) := by
  apply ext_F (by simp [rot_length])
  intro i _
  rw [F_rot, F_rot, F_rot]; congr 1; omega
theorem rot_zero (w : List Int) : rot w 0 = w := by
  apply ext_F (by simp [rot_length])
  intro i _
  rw [F_rot, Nat.add_zero]
theorem rot_mod (w : List Int) (t : Nat) : rot w (t % w.length) = rot w t := by
  apply ext_F (by simp [rot_length])
  intro i _
  rw [F_rot, F_rot]
  unfold F
  rw [Nat.add_mod_mod]
theorem rot_len (w : List Int) : rot w w.length = w := by
  rw [← rot_mod, Nat.mod_self, rot_zero]
theorem rot_drop {w : List Int} {t : Nat} (h : t ≤ w.length) : w.drop t ++ w.take t = rot w t := by
  apply ext_F
  · simp [rot_length]; omega
  intro i hi
  have hl : (w.drop t ++ w.take t).length = w.length := by simp; omega
  rw [hl] at hi
  rw [F_rot]
  have h1 := F_get (w := w.drop t ++ w.take t) (i := i) (by omega)
  apply Option.some.inj
  rw [← h1]
  by_cases hd : i < w.length - t
  · rw [List.getElem?_append_left (by simp; omega), List.getElem?_drop, F_get (by omega)]
    congr 2; omega
  · rw [List.getElem?_append_right (by simp; omega), List.getElem?_take, if_pos (by simp; omega), List.length_drop, F_get (by omega)]
    congr 1
    have := F_add w (i - (w.length - t))
    rw [← this]
    congr 1; omega

/-! ### the order of words of one length -/
def lexC : List Int → List Int → Int
  | x :: a, y :: b => if x < y then -1 else if y < x then 1 else lexC a b
  | _, _ => 0
theorem lexC_self (a : List Int) : lexC a a = 0 := by
  induction a with
  | nil => rfl
  | cons x a ih => unfold lexC; rw [if_neg (by omega), if_neg (by omega), ih]
theorem lexC_swap : ∀ (a b : List Int), lexC b a = -lexC a b
  | [], [] => rfl
  | [], _ :: _ => rfl
  | _ :: _, [] => rfl
  | x :: a, y :: b => by
    unfold lexC
    rcases (by omega : x < y ∨ y < x ∨ x = y) with h | h | h
    · rw [if_neg (by omega), if_pos h, if_pos h]; rfl
    · rw [if_pos h, if_neg (by omega), if_pos h]
    · rw [if_neg (by omega), if_neg (by omega), if_neg (by omega), if_neg (by omega), lexC_swap a b]
theorem lexC_cases : ∀ (a b : List Int), lexC a b = -1 ∨ lexC a b = 0 ∨ lexC a b = 1
  | [], _ => Or.inr (Or.inl (by unfold lexC; rfl))
  | _ :: _, [] => Or.inr (Or.inl rfl)
  | x :: a, y :: b => by
    unfold lexC
    split
    · exact Or.inl rfl
    · split
      · exact Or.inr (Or.inr rfl)
      · exact lexC_cases a b
theorem lexC_eq : ∀ {a b : List Int}, a.length = b.length → lexC a b = 0 → a = b
  | [], [], _, _ => rfl
  | [], _ :: _, h, _ => by simp at h
  | _ :: _, [], h, _ => by simp at h
  | x :: a, y :: b, h, h0 => by
    unfold lexC at h0
    split at h0
    · cases h0
    · split at h0
      · cases h0
      · rw [lexC_eq (by simpa using h) h0, show x = y by omega]
theorem lexC_trans : ∀ {a b c : List Int}, a.length = b.length → b.length = c.length → lexC a b ≤ 0 → lexC b c ≤ 0 → lexC a c ≤ 0
  | [], b, c, _, _, _, _ => by unfold lexC; exact Int.le_refl 0
  | x :: a, [], c, h, _, _, _ => by simp at h
  | x :: a, y :: b, [], _, h, _, _ => by simp at h
  | x :: a, y :: b, z :: c, h1, h2, ha, hb => by
    unfold lexC at ha hb ⊢
    rcases (by omega : x < y ∨ y < x ∨ x = y) with h | h | h
    · rcases (by omega : y < z ∨ z < y ∨ y = z) with k | k | k
      · rw [if_pos (by omega)]; omega
      · rw [if_neg (by omega), if_pos k] at hb; omega
      · rw [if_pos (by omega)]; omega
    · rw [if_neg (by omega), if_pos h] at ha; omega
    · rcases (by omega : y < z ∨ z < y ∨ y = z) with k | k | k
      · rw [if_pos (by omega)]; omega
      · rw [if_neg (by omega), if_pos k] at hb; omega
      · rw [if_neg (by omega), if_neg (by omega)] at ha hb
        rw [if_neg (by omega), if_neg (by omega)]
        exact lexC_trans (by simpa using h1) (by simpa using h2) ha hb
/-- less, by the first place where they differ -/
theorem lexC_lt : ∀ {a b : List Int} (k : Nat), a.length = b.length → (∀ i, i < k → a[i]? = b[i]?) → (∃ x y, a[k]? = some x ∧ b[k]? = some y ∧ x < y) → lexC a b = -1
  | [], _, k, _, _, ⟨x, y, h, _⟩ => by simp at h
  | _ :: _, [], k, h, _, _ => by simp at h
  | x :: a, y :: b, 0, h, _, ⟨x', y', h1, h2, hlt⟩ => by
    simp at h1 h2; subst h1 h2
    unfold lexC; rw [if_pos hlt]
  | x :: a, y :: b, k + 1, h, he, ⟨x', y', h1, h2, hlt⟩ => by
    have h0 := he 0 (by omega)
    simp at h0; subst h0
    unfold lexC; rw [if_neg (by omega), if_neg (by omega)]
    exact lexC_lt k (by simpa using h) (fun i hi => by simpa using he (i + 1) (by omega)) ⟨x', y', by simpa using h1, by simpa using h2, hlt⟩
theorem lexC_gt {a b : List Int} (k : Nat) (h : a.length = b.length) (he : ∀ i, i < k → a[i]? = b[i]?) (hx : ∃ x y, a[k]? = some x ∧ b[k]? = some y ∧ y < x) : lexC a b = 1 := by
  obtain ⟨x, y, h1, h2, hlt⟩ := hx
  have := lexC_lt (a := b) (b := a) k h.symm (fun i hi => (he i hi).symm) ⟨y, x, h2, h1, hlt⟩
  rw [lexC_swap a b] at this
  omega
/-- the order of words -/
def cmpW (a b : List Int) : Int := if a.length < b.length then -1 else if b.length < a.length then 1 else lexC a b
theorem cmpW_len {a b : List Int} (h : a.length = b.length) : cmpW a b = lexC a b := by unfold cmpW; rw [if_neg (by omega), if_neg (by omega)]
theorem cmpW_swap (a b : List Int) : cmpW b a = -cmpW a b := by
  unfold cmpW
  rcases Nat.lt_trichotomy a.length b.length with h | h | h
  · rw [if_neg (by omega), if_pos h, if_pos h]; rfl
  · rw [if_neg (by omega), if_neg (by omega), if_neg (by omega), if_neg (by omega), lexC_swap]
  · rw [if_pos h, if_neg (by omega), if_pos h]

/-! ### periods -/
/-- turned by p it is itself -/
def Per (w : List Int) (p : Nat) : Prop := ∀ i, F w (i + p) = F w i
theorem per_len (w : List Int) : Per w w.length := F_add w
theorem per_zero (w : List Int) : Per w 0 := fun _ => rfl
theorem per_rot {w : List Int} {p : Nat} (h : Per w p) : rot w p = w := ext_F (by simp [rot_length]) fun i _ => by rw [F_rot, h]
theorem per_of_rot {w : List Int} {p : Nat} (h : rot w p = w) : Per w p := fun i => by rw [← F_rot, h]
theorem per_add {w : List Int} {p q : Nat} (h : Per w p) (k : Per w q) : Per w (p + q) := fun i => by rw [← Nat.add_assoc, k, h]
theorem per_sub {w : List Int} {p q : Nat} (h : Per w p) (k : Per w q) (hle : p ≤ q) : Per w (q - p) := fun i => by
  rw [← h (i + (q - p)), Nat.add_assoc, show q - p + p = q by omega, k]
theorem per_gcd {w : List Int} : ∀ (n p q : Nat), p + q ≤ n → Per w p → Per w q → Per w (Nat.gcd p q)
  | 0, p, q, h, hp, hq => by
    obtain rfl : p = 0 := by omega
    obtain rfl : q = 0 := by omega
    exact per_zero w
  | n + 1, p, q, h, hp, hq => by
    rcases Nat.eq_zero_or_pos p with rfl | p0
    · rw [Nat.gcd_zero_left]; exact hq
    rcases Nat.eq_zero_or_pos q with rfl | q0
    · rw [Nat.gcd_zero_right]; exact hp
    rcases Nat.le_total p q with hle | hle
    · have := per_gcd n p (q - p) (by omega) hp (per_sub hp hq hle)
      rwa [Nat.gcd_sub_self_right hle] at this
    · have := per_gcd n (p - q) q (by omega) (per_sub hq hp hle) hq
      rwa [Nat.gcd_sub_self_left hle] at this
/-- the least divisor of the length by which a turn changes nothing -/
def IsPer (w : List Int) (p : Nat) : Prop := 1 ≤ p ∧ p ∣ w.length ∧ Per w p ∧ ∀ q, 1 ≤ q → q < p → ¬ (q ∣ w.length ∧ Per w q)
theorem isPer_unique {w : List Int} {p q : Nat} (h : IsPer w p) (k : IsPer w q) : p = q := by
  obtain ⟨h1, h2, h3, h4⟩ := h
  obtain ⟨k1, k2, k3, k4⟩ := k
  rcases Nat.lt_trichotomy p q with c | c | c
  · exact absurd ⟨h2, h3⟩ (k4 p h1 c)
  · exact c
  · exact absurd ⟨k2, k3⟩ (h4 q k1 c)
theorem isPer_least {w : List Int} {p q : Nat} (h : IsPer w p) (hq0 : 1 ≤ q) (hq : Per w q) : p ≤ q := by
  have hg : Per w (Nat.gcd w.length q) := per_gcd _ _ _ (Nat.le_refl _) (per_len w) hq
  have hg0 : 1 ≤ Nat.gcd w.length q := Nat.gcd_pos_of_pos_right _ hq0
  have hle : Nat.gcd w.length q ≤ q := Nat.le_of_dvd hq0 (Nat.gcd_dvd_right _ _)
  rcases Nat.lt_or_ge (Nat.gcd w.length q) p with c | c
  · exact absurd ⟨Nat.gcd_dvd_left _ _, hg⟩ (h.2.2.2 _ hg0 c)
  · omega
/-- the period of a turned word -/
theorem isPer_rot {w : List Int} {p : Nat} (h : IsPer w p) (t : Nat) : IsPer (rot w t) p := by
  have e : ∀ q, Per (rot w t) q ↔ Per w q := fun q => by
    constructor
    · intro k
      have hk : ∀ i, F w (i + t + q) = F w (i + t) := fun i => by
        have := k i
        rw [F_rot, F_rot] at this
        rw [← this]; congr 1; omega
      intro i
      rcases Nat.eq_zero_or_pos w.length with h0 | h0
      · have h1 := List.eq_nil_of_length_eq_zero h0
        subst h1; rfl
      · -- i = (i + t * (len - 1)) + t up to t * len
        have h1 := hk (i + t * (w.length - 1))
        have e1 : i + t * (w.length - 1) + t = i + t * w.length := by
          obtain ⟨m, hm⟩ : ∃ m, w.length = m + 1 := ⟨w.length - 1, by omega⟩
          rw [hm, Nat.add_sub_cancel, Nat.mul_succ]; omega
        rw [e1] at h1
        unfold F at h1 ⊢
        rw [show i + t * w.length + q = i + q + t * w.length by omega, Nat.add_mul_mod_self_right, Nat.add_mul_mod_self_right] at h1
        exact h1
    · intro k i
      rw [F_rot, F_rot, show i + q + t = i + t + q by omega, k]
  obtain ⟨h1, h2, h3, h4⟩ := h
  refine ⟨h1, by rw [rot_length]; exact h2, (e p).2 h3, fun q hq hlt => ?_⟩
  rw [rot_length, e]
  exact h4 q hq hlt
/-- where the piece behind p is the piece ahead of the last p, for a divisor p -/
theorem per_piece {w : List Int} {p : Nat} (hd : p ∣ w.length) (h : ∀ i, i + p < w.length → w[i + p]? = w[i]?) : Per w p := by
  rcases Nat.eq_zero_or_pos w.length with h0 | h0
  · have h1 := List.eq_nil_of_length_eq_zero h0
    subst h1; intro i; rfl
  have hp0 : 0 < p := by
    rcases Nat.eq_zero_or_pos p with rfl | k
    · have := Nat.eq_zero_of_zero_dvd hd; omega
    · exact k
  have hm : ∀ n i, i < n → i < w.length → F w i = F w (i % p) := by
    intro n
    induction n with
    | zero => intro i h; omega
    | succ n ih =>
      intro i hi hil
      rcases Nat.lt_or_ge i p with k | k
      · rw [Nat.mod_eq_of_lt k]
      · have h1 := h (i - p) (by omega)
        rw [show i - p + p = i by omega, F_get hil, F_get (by omega)] at h1
        rw [Option.some.inj h1, ih (i - p) (by omega) (by omega)]
        congr 1
        rw [Nat.mod_eq_sub_mod k]
  intro i
  rw [← F_mod w (i + p), ← F_mod w i, hm _ _ (Nat.lt_succ_self _) (Nat.mod_lt _ h0), hm _ _ (Nat.lt_succ_self _) (Nat.mod_lt _ h0), Nat.mod_mod_of_dvd _ hd, Nat.mod_mod_of_dvd _ hd, Nat.add_mod_right]
theorem piece_per {w : List Int} {p : Nat} (h : Per w p) (i : Nat) (hi : i + p < w.length) : w[i + p]? = w[i]? := by
  rw [F_get hi, F_get (by omega), h]
end Go.Proofs.YtmienemnjikgdaaDoor.WordM
end
section
namespace Go.Proofs.YtmienemnjikgdaaDoor.WordM
/-! ### the least turn -/
/-- turned by l it is behind no other turn, and ahead of those by less -/
def IsLeast (w : List Int) (l : Nat) : Prop := l < w.length ∧ ∀ s, s < w.length → lexC (rot w l) (rot w s) ≤ 0 ∧ (s < l → lexC (rot w l) (rot w s) = -1)
theorem rot_same (w : List Int) (s t : Nat) : (rot w s).length = (rot w t).length := by rw [rot_length, rot_length]
theorem isLeast_unique {w : List Int} {l m : Nat} (h : IsLeast w l) (k : IsLeast w m) : l = m := by
  have swap := lexC_swap (rot w l) (rot w m)
  rcases Nat.lt_trichotomy l m with c | c | c
  · have h1 := (h.2 m k.1).1
    have h2 := (k.2 l h.1).2 c
    rw [swap] at h2
    -- lexC l m = 1 but <= 0
    omega
  · exact c
  · have h1 := (k.2 l h.1).1
    have h2 := (h.2 m k.1).2 c
    omega
/-- the reference's way: the best so far -/
def BestTo (w : List Int) (n b : Nat) : Prop := b < n ∧ ∀ s, s < n → lexC (rot w b) (rot w s) ≤ 0 ∧ (s < b → lexC (rot w b) (rot w s) = -1)
theorem best_one (w : List Int) : BestTo w 1 0 := ⟨by omega, fun s hs => ⟨by rw [show s = 0 by omega, lexC_self]; omega, fun h => by omega⟩⟩
theorem best_keep {w : List Int} {n b : Nat} (h : BestTo w n b) (hc : 0 ≤ lexC (rot w n) (rot w b)) : BestTo w (n + 1) b := by
  refine ⟨by have := h.1; omega, fun s hs => ?_⟩
  rcases (by omega : s < n ∨ s = n) with k | rfl
  · exact h.2 s k
  · rw [lexC_swap (rot w s) (rot w b)]
    exact ⟨by omega, fun k => by have := h.1; omega⟩
theorem best_turn {w : List Int} {n b : Nat} (h : BestTo w n b) (hc : lexC (rot w n) (rot w b) < 0) : BestTo w (n + 1) n := by
  have hm : ∀ s, s < n → lexC (rot w n) (rot w s) = -1 := fun s hs => by
    have h1 := (h.2 s hs).1
    have h2 : lexC (rot w n) (rot w s) ≤ 0 := lexC_trans (rot_same w n b) (rot_same w b s) (by omega) h1
    rcases lexC_cases (rot w n) (rot w s) with k | k | k
    · exact k
    · have e := lexC_eq (rot_same w n s) k
      rw [← e, lexC_swap (rot w n) (rot w b)] at h1
      omega
    · omega
  refine ⟨by omega, fun s hs => ?_⟩
  rcases (by omega : s < n ∨ s = n) with k | rfl
  · exact ⟨by rw [hm s k]; omega, fun _ => hm s k⟩
  · exact ⟨by rw [lexC_self]; omega, fun k => by omega⟩
theorem best_all {w : List Int} {b : Nat} (h : BestTo w w.length b) : IsLeast w b := h
theorem least_exists {w : List Int} (h : 0 < w.length) : ∃ l, IsLeast w l := by
  have : ∀ n, 1 ≤ n → ∃ b, BestTo w n b := by
    intro n
    induction n with
    | zero => intro h; omega
    | succ n ih =>
      intro _
      rcases Nat.eq_zero_or_pos n with rfl | k
      · exact ⟨0, best_one w⟩
      · obtain ⟨b, hb⟩ := ih k
        rcases Int.lt_or_le (lexC (rot w n) (rot w b)) 0 with c | c
        · exact ⟨n, best_turn hb c⟩
        · exact ⟨b, best_keep hb c⟩
  exact this _ h
/-- ruled out: another turn is ahead of it -/
def Out (w : List Int) (s : Nat) : Prop := ∃ t, t < w.length ∧ lexC (rot w t) (rot w s) = -1
theorem out_not {w : List Int} {l : Nat} (h : IsLeast w l) (k : Out w l) : False := by
  obtain ⟨t, ht, e⟩ := k
  have h1 := (h.2 t ht).1
  rw [lexC_swap (rot w t) (rot w l), e] at h1
  omega
/-- the two turns by s + d and t + d, where those by s and t are alike up to k and then part -/
theorem less_shift {w : List Int} {s t k d : Nat} (h0 : 0 < w.length) (hk : k < w.length) (hd : d ≤ k) (he : ∀ i, i < k → F w (s + i) = F w (t + i)) (hlt : F w (s + k) < F w (t + k)) : Out w (t + d) := by
  refine ⟨(s + d) % w.length, Nat.mod_lt _ h0, ?_⟩
  rw [rot_mod]
  refine lexC_lt (k - d) (rot_same w _ _) (fun i hi => ?_) ⟨F w (s + k), F w (t + k), ?_, ?_, hlt⟩
  · rw [rot_get (by omega), rot_get (by omega)]
    have := he (i + d) (by omega)
    rw [show i + (s + d) = s + (i + d) by omega, show i + (t + d) = t + (i + d) by omega, this]
  · rw [rot_get (by omega)]; congr 2; omega
  · rw [rot_get (by omega)]; congr 2; omega
/-- the search's state: all below rival but best are ruled out; same symbols were alike -/
structure Duel (w : List Int) (best rival same : Nat) : Prop where
  lt : best < rival
  out : ∀ s, s < rival → s < w.length → s ≠ best → Out w s
  like : ∀ i, i < same → F w (best + i) = F w (rival + i)
theorem duel_start (w : List Int) : Duel w 0 1 0 := ⟨by omega, fun s h _ k => by omega, fun i h => by omega⟩
theorem duel_same {w : List Int} {best rival same : Nat} (h : Duel w best rival same) (he : F w (best + same) = F w (rival + same)) : Duel w best rival (same + 1) :=
  ⟨h.lt, h.out, fun i hi => by
    rcases (by omega : i < same ∨ i = same) with k | rfl
    · exact h.like i k
    · exact he⟩
theorem duel_less {w : List Int} {best rival same : Nat} (h : Duel w best rival same) (hs : same < w.length) (hlt : F w (best + same) < F w (rival + same)) : Duel w best (rival + same + 1) 0 :=
  ⟨by have := h.lt; omega, fun s hs1 hs2 hs3 => by
    rcases Nat.lt_or_ge s rival with k | k
    · exact h.out s k hs2 hs3
    · have := less_shift (d := s - rival) (by omega) hs (by omega) h.like hlt
      rwa [show rival + (s - rival) = s by omega] at this, fun i hi => by omega⟩
theorem duel_more {w : List Int} {best rival same : Nat} (h : Duel w best rival same) (hs : same < w.length) (hlt : F w (rival + same) < F w (best + same)) : Duel w rival (max (best + same) rival + 1) 0 :=
  ⟨by have := Nat.le_max_right (best + same) rival; omega, fun s hs1 hs2 hs3 => by
    have hmx : s ≤ best + same ∨ s ≤ rival := by
      rcases Nat.le_total (best + same) rival with c | c
      · rw [Nat.max_eq_right c] at hs1; omega
      · rw [Nat.max_eq_left c] at hs1; omega
    have hbr := h.lt
    rcases (by omega : (best ≤ s ∧ s ≤ best + same) ∨ (s < rival ∧ s ≠ best) ∨ s = rival) with k | k | k
    · have := less_shift (d := s - best) (by omega) hs (by omega) (fun i hi => (h.like i hi).symm) hlt
      rwa [show best + (s - best) = s by omega] at this
    · exact h.out s k.1 hs2 k.2
    · omega, fun i hi => by omega⟩
theorem duel_done {w : List Int} {best rival same l : Nat} (h : Duel w best rival same) (hr : w.length ≤ rival) (hl : IsLeast w l) : best = l := by
  apply Decidable.byContradiction
  intro e
  exact out_not hl (h.out l (by have := hl.1; omega) hl.1 (by omega))
theorem duel_alike {w : List Int} {best rival same l : Nat} (h : Duel w best rival same) (hs : w.length ≤ same) (hl : IsLeast w l) : best = l := by
  apply Decidable.byContradiction
  intro e
  rcases Nat.lt_or_ge l rival with k | k
  · exact out_not hl (h.out l k hl.1 (by omega))
  · -- the turn by l less (rival - best) is the same
    have hlt := h.lt
    have e1 : rot w best = rot w rival := by
      apply ext_F (rot_same _ _ _)
      intro i hi
      rw [rot_length] at hi
      rw [F_rot, F_rot]
      have := h.like i (by omega)
      rwa [Nat.add_comm best, Nat.add_comm rival] at this
    have e2 : rot w (l - (rival - best)) = rot w l := by
      have := congrArg (fun x => rot x (l - rival)) e1
      simp only [rot_rot] at this
      rw [show best + (l - rival) = l - (rival - best) by omega, show rival + (l - rival) = l by omega] at this
      exact this
    have h1 := (hl.2 (l - (rival - best)) (by have := hl.1; omega)).2 (by omega)
    rw [e2, lexC_self] at h1
    omega
/-- the least turn of a turned word is the least turn -/
theorem least_rot {w : List Int} {l m t : Nat} (h : IsLeast w l) (k : IsLeast (rot w t) m) : rot (rot w t) m = rot w l := by
  have hw : 0 < w.length := by have := h.1; omega
  have h1 : lexC (rot (rot w t) m) (rot w l) ≤ 0 := by
    -- l = t + s around
    have hs : ∃ s, s < w.length ∧ rot (rot w t) s = rot w l := by
      refine ⟨(l + t * (w.length - 1)) % w.length, Nat.mod_lt _ hw, ?_⟩
      have e := rot_mod (rot w t) (l + t * (w.length - 1))
      rw [rot_length] at e
      rw [e, rot_rot, ← rot_mod w (t + _)]
      have e1 : t + (l + t * (w.length - 1)) = l + t * w.length := by
        obtain ⟨j, hj⟩ : ∃ j, w.length = j + 1 := ⟨w.length - 1, by omega⟩
        rw [hj, Nat.add_sub_cancel, Nat.mul_succ]; omega
      rw [e1, Nat.add_mul_mod_self_right, rot_mod]
    obtain ⟨s, hs1, hs2⟩ := hs
    rw [← hs2]
    exact (k.2 s (by rw [rot_length]; exact hs1)).1
  have h2 : lexC (rot w l) (rot (rot w t) m) ≤ 0 := by
    rw [rot_rot, ← rot_mod w (t + m)]
    exact (h.2 _ (Nat.mod_lt _ hw)).1
  rw [lexC_swap (rot (rot w t) m) (rot w l)] at h2
  exact lexC_eq (by simp [rot_length]) (by omega)
end Go.Proofs.YtmienemnjikgdaaDoor.WordM
end
section
namespace Go.Proofs.YtmienemnjikgdaaDoor.WordM
/-! ### words over k symbols, and their numbers -/
def okW (k : Nat) (l : List Int) : Prop := ∀ x ∈ l, 0 ≤ x ∧ x < (k : Int)
def valW (k : Nat) : List Int → Nat
  | [] => 0
  | x :: l => x.toNat * k ^ l.length + valW k l
theorem okW_nil (k : Nat) : okW k [] := fun x h => by cases h
theorem okW_app {k : Nat} {a b : List Int} (ha : okW k a) (hb : okW k b) : okW k (a ++ b) := fun x h => by
  rcases List.mem_append.1 h with h | h
  · exact ha x h
  · exact hb x h
theorem okW_take {k : Nat} {a : List Int} (ha : okW k a) (n : Nat) : okW k (a.take n) := fun x h => ha x (List.mem_of_mem_take h)
theorem okW_drop {k : Nat} {a : List Int} (ha : okW k a) (n : Nat) : okW k (a.drop n) := fun x h => ha x (List.mem_of_mem_drop h)
theorem okW_rep {k : Nat} {x : Int} (hx : 0 ≤ x ∧ x < (k : Int)) (n : Nat) : okW k (List.replicate n x) := fun y h => by
  rw [List.eq_of_mem_replicate h]; exact hx
theorem valW_app (k : Nat) : ∀ (a b : List Int), valW k (a ++ b) = valW k a * k ^ b.length + valW k b
  | [], b => by simp [valW]
  | x :: a, b => by
    show x.toNat * k ^ (a ++ b).length + valW k (a ++ b) = (x.toNat * k ^ a.length + valW k a) * k ^ b.length + valW k b
    rw [valW_app k a b, List.length_append, Nat.pow_add, Nat.add_mul, Nat.mul_assoc, Nat.add_assoc]
theorem valW_snoc (k : Nat) (a : List Int) (x : Int) : valW k (a ++ [x]) = valW k a * k + x.toNat := by
  rw [valW_app]; simp [valW]
theorem valW_lt {k : Nat} : ∀ {a : List Int}, okW k a → valW k a < k ^ a.length
  | [], _ => by simp [valW]
  | x :: a, h => by
    have hx := h x (List.mem_cons_self ..)
    have ih := valW_lt (a := a) (fun y hy => h y (List.mem_cons_of_mem _ hy))
    show x.toNat * k ^ a.length + valW k a < k ^ (a.length + 1)
    rw [Nat.pow_succ]
    have h1 : (x.toNat + 1) * k ^ a.length ≤ k * k ^ a.length := Nat.mul_le_mul_right _ (by omega)
    rw [Nat.add_mul, Nat.one_mul] at h1
    rw [Nat.mul_comm (k ^ a.length) k]
    omega
theorem valW_zero (k n : Nat) : valW k (List.replicate n 0) = 0 := by
  induction n with
  | zero => rfl
  | succ n ih => rw [List.replicate_succ]; show (0 : Int).toNat * _ + valW k _ = 0; rw [ih]; simp
theorem valW_full {k : Nat} (hk : 1 ≤ k) (n : Nat) : valW k (List.replicate n ((k : Int) - 1)) + 1 = k ^ n := by
  induction n with
  | zero => rfl
  | succ n ih =>
    rw [List.replicate_succ]
    show ((k : Int) - 1).toNat * k ^ (List.replicate n ((k : Int) - 1)).length + valW k _ + 1 = k ^ (n + 1)
    rw [Nat.add_assoc, ih, List.length_replicate, Nat.pow_succ, show ((k : Int) - 1).toNat = k - 1 by omega]
    have : (k - 1) * k ^ n + k ^ n = (k - 1 + 1) * k ^ n := by rw [Nat.add_mul, Nat.one_mul]
    rw [this, show k - 1 + 1 = k by omega, Nat.mul_comm]
/-- the order of words of one length is that of their numbers -/
theorem lex_val {k : Nat} : ∀ {a b : List Int}, a.length = b.length → okW k a → okW k b → (lexC a b = -1 ∧ valW k a < valW k b) ∨ (lexC a b = 0 ∧ valW k a = valW k b) ∨ (lexC a b = 1 ∧ valW k b < valW k a)
  | [], [], _, _, _ => Or.inr (Or.inl ⟨rfl, rfl⟩)
  | [], _ :: _, h, _, _ => by simp at h
  | _ :: _, [], h, _, _ => by simp at h
  | x :: a, y :: b, h, ha, hb => by
    have hx := ha x (List.mem_cons_self ..)
    have hy := hb y (List.mem_cons_self ..)
    have ha' : okW k a := fun z hz => ha z (List.mem_cons_of_mem _ hz)
    have hb' : okW k b := fun z hz => hb z (List.mem_cons_of_mem _ hz)
    have hl : a.length = b.length := by simpa using h
    have la := valW_lt ha'
    have lb := valW_lt hb'
    have ih := lex_val hl ha' hb'
    show (lexC (x :: a) (y :: b) = -1 ∧ x.toNat * k ^ a.length + valW k a < y.toNat * k ^ b.length + valW k b) ∨ (_ ∧ x.toNat * k ^ a.length + valW k a = y.toNat * k ^ b.length + valW k b) ∨ (_ ∧ y.toNat * k ^ b.length + valW k b < x.toNat * k ^ a.length + valW k a)
    unfold lexC
    rw [← hl] at lb ⊢
    generalize k ^ a.length = P at *
    rcases (by omega : x < y ∨ y < x ∨ x = y) with c | c | c
    · left
      rw [if_pos c]
      refine ⟨rfl, ?_⟩
      have h1 : (x.toNat + 1) * P ≤ y.toNat * P := Nat.mul_le_mul_right _ (by omega)
      rw [Nat.add_mul, Nat.one_mul] at h1
      omega
    · right; right
      rw [if_neg (by omega), if_pos c]
      refine ⟨rfl, ?_⟩
      have h1 : (y.toNat + 1) * P ≤ x.toNat * P := Nat.mul_le_mul_right _ (by omega)
      rw [Nat.add_mul, Nat.one_mul] at h1
      omega
    · subst c
      rw [if_neg (by omega), if_neg (by omega)]
      rcases ih with ⟨h1, h2⟩ | ⟨h1, h2⟩ | ⟨h1, h2⟩
      · exact Or.inl ⟨h1, by omega⟩
      · exact Or.inr (Or.inl ⟨h1, by omega⟩)
      · exact Or.inr (Or.inr ⟨h1, by omega⟩)
theorem valW_inj {k : Nat} {a b : List Int} (h : a.length = b.length) (ha : okW k a) (hb : okW k b) (e : valW k a = valW k b) : a = b := by
  rcases lex_val h ha hb with ⟨_, h2⟩ | ⟨h1, _⟩ | ⟨_, h2⟩
  · omega
  · exact lexC_eq h h1
  · omega
/-- the word behind it: the last symbol below k - 1 is raised, those behind it are 0; or, where there is none, the first word of the next length -/
def IsNext (k : Nat) (w x : List Int) : Prop :=
  (∃ (i : Nat) (y : Int), w[i]? = some y ∧ y < (k : Int) - 1 ∧ w = w.take i ++ y :: List.replicate (w.length - 1 - i) ((k : Int) - 1) ∧ x = w.take i ++ (y + 1) :: List.replicate (w.length - 1 - i) 0) ∨
  (w = List.replicate w.length ((k : Int) - 1) ∧ x = List.replicate (w.length + 1) 0)
theorem isNext_ok {k : Nat} (hk : 1 ≤ k) {w x : List Int} (h : IsNext k w x) (hw : okW k w) : okW k x := by
  rcases h with ⟨i, y, hy, hlt, _, hx⟩ | ⟨_, hx⟩
  · rw [hx]
    have := hw y (List.mem_of_getElem? hy)
    refine okW_app (okW_take hw _) (fun z hz => ?_)
    rcases List.mem_cons.1 hz with rfl | hz
    · omega
    · exact okW_rep (k := k) (x := 0) (by omega) _ z hz
  · rw [hx]; exact okW_rep (by omega) _
theorem isNext_val {k : Nat} (hk : 1 ≤ k) {w x : List Int} (h : IsNext k w x) (hw : okW k w) :
    (x.length = w.length ∧ valW k x = valW k w + 1) ∨ (x.length = w.length + 1 ∧ valW k x = 0 ∧ valW k w + 1 = k ^ w.length) := by
  rcases h with ⟨i, y, hy, hlt, hw2, hx⟩ | ⟨hw2, hx⟩
  · left
    have hi : i < w.length := by
      obtain ⟨h, _⟩ := List.getElem?_eq_some_iff.1 hy
      exact h
    have hy0 := hw y (List.mem_of_getElem? hy)
    have hl : (w.take i).length = i := by rw [List.length_take]; omega
    refine ⟨by rw [hx]; simp; omega, ?_⟩
    rw [hx]
    have e : valW k w = valW k (w.take i ++ y :: List.replicate (w.length - 1 - i) ((k : Int) - 1)) := by rw [← hw2]
    rw [e, valW_app, valW_app]
    show _ + ((y + 1).toNat * k ^ (List.replicate (w.length - 1 - i) 0).length + valW k (List.replicate (w.length - 1 - i) 0)) = _ + (y.toNat * k ^ (List.replicate (w.length - 1 - i) ((k : Int) - 1)).length + valW k (List.replicate (w.length - 1 - i) ((k : Int) - 1))) + 1
    have hf := valW_full hk (w.length - 1 - i)
    rw [valW_zero, List.length_cons, List.length_cons, List.length_replicate, List.length_replicate, show (y + 1).toNat = y.toNat + 1 by omega, Nat.add_mul, Nat.one_mul]
    omega
  · right
    refine ⟨by rw [hx, List.length_replicate], by rw [hx, valW_zero], ?_⟩
    have e : valW k w = valW k (List.replicate w.length ((k : Int) - 1)) := by rw [← hw2]
    rw [e, valW_full hk]
theorem isNext_unique {k : Nat} (hk : 1 ≤ k) {w x y : List Int} (hw : okW k w) (h : IsNext k w x) (g : IsNext k w y) : x = y := by
  have h1 := isNext_val hk h hw
  have g1 := isNext_val hk g hw
  have h2 := isNext_ok hk h hw
  have g2 := isNext_ok hk g hw
  have hl := valW_lt hw
  have hlx := valW_lt h2
  have hly := valW_lt g2
  rcases h1 with ⟨a1, a2⟩ | ⟨a1, a2, a3⟩
  · rcases g1 with ⟨b1, b2⟩ | ⟨b1, b2, b3⟩
    · exact valW_inj (by omega) h2 g2 (by omega)
    · rw [a1] at hlx; omega
  · rcases g1 with ⟨b1, b2⟩ | ⟨b1, b2, b3⟩
    · rw [b1] at hly; omega
    · exact valW_inj (by omega) h2 g2 (by omega)
theorem isNext_cmp {k : Nat} (hk : 1 ≤ k) {w x : List Int} (h : IsNext k w x) (hw : okW k w) : cmpW w x = -1 := by
  rcases isNext_val hk h hw with ⟨a1, a2⟩ | ⟨a1, a2, a3⟩
  · rw [cmpW_len a1.symm]
    rcases lex_val a1.symm hw (isNext_ok hk h hw) with c | c | c
    · exact c.1
    · omega
    · omega
  · unfold cmpW; rw [if_pos (by omega)]
/-- none between -/
theorem isNext_between {k : Nat} (hk : 1 ≤ k) {w x v : List Int} (h : IsNext k w x) (hw : okW k w) (hv : okW k v) (hc : cmpW w v = -1) : cmpW x v ≤ 0 := by
  have hx := isNext_ok hk h hw
  have hvl := valW_lt hv
  have fin : x.length = v.length → valW k x ≤ valW k v → cmpW x v ≤ 0 := fun hl hle => by
    rw [cmpW_len hl]
    rcases lex_val hl hx hv with c | c | c <;> omega
  have hshort : x.length < v.length → cmpW x v ≤ 0 := fun hl => by unfold cmpW; rw [if_pos hl]; omega
  rcases isNext_val hk h hw with ⟨a1, a2⟩ | ⟨a1, a2, a3⟩
  · rcases Nat.lt_trichotomy w.length v.length with c | c | c
    · exact hshort (by omega)
    · refine fin (by omega) ?_
      rw [cmpW_len c] at hc
      rcases lex_val c hw hv with d | d | d <;> omega
    · unfold cmpW at hc; rw [if_neg (by omega), if_pos c] at hc; omega
  · rcases Nat.lt_trichotomy w.length v.length with c | c | c
    · rcases (by omega : x.length < v.length ∨ x.length = v.length) with d | d
      · exact hshort d
      · exact fin d (by omega)
    · rw [cmpW_len c] at hc
      rw [← c] at hvl
      rcases lex_val c hw hv with d | d | d <;> omega
    · unfold cmpW at hc; rw [if_neg (by omega), if_pos c] at hc; omega
/-! ### which lists are words -/
def badAt (k : Int) (x : Int) : Bool := decide (x < 0) || decide (k ≤ x)
/-- where a list is refused: the place, and the error's number -/
def chkW (k : Int) (w : List Int) : Option (Nat × Nat) :=
  if k < 1 ∨ 4 < k then some (0, 3) else if 4096 < w.length then some (0, 4) else (w.findIdx? (badAt k)).map fun i => (i, 2)
theorem chkW_none {k : Int} {w : List Int} (h : chkW k w = none) : ∃ n : Nat, k = n ∧ 1 ≤ n ∧ n ≤ 4 ∧ w.length ≤ 4096 ∧ okW n w := by
  unfold chkW at h
  split at h
  · cases h
  · split at h
    · cases h
    · rw [Option.map_eq_none_iff, List.findIdx?_eq_none_iff] at h
      refine ⟨k.toNat, by omega, by omega, by omega, by omega, fun x hx => ?_⟩
      have := h x hx
      unfold badAt at this
      simp at this
      omega
theorem chkW_ok {k : Nat} {w : List Int} (h1 : 1 ≤ k) (h4 : k ≤ 4) (hl : w.length ≤ 4096) (ho : okW k w) : chkW k w = none := by
  unfold chkW
  rw [if_neg (by omega), if_neg (by omega), Option.map_eq_none_iff, List.findIdx?_eq_none_iff]
  intro x hx
  have := ho x hx
  unfold badAt
  simp
  omega
/-- the place and the number of At -/
def atBad (k n : Int) (i : Nat) : Option (Nat × Nat) :=
  if k < 1 ∨ 4 < k ∨ n < 0 then some (0, 3) else if 256 < n then some (0, 4) else if k.toNat ^ n.toNat ≤ i then some (0, 3) else none
theorem at_step {k p i i0 : Nat} {l : List Int} (hl : l.length = p) (h : valW k l + k ^ p * i = i0) : valW k ((((i % k : Nat) : Int)) :: l) + k ^ (p + 1) * (i / k) = i0 := by
  show (((i % k : Nat) : Int)).toNat * k ^ l.length + valW k l + _ = _
  rw [Int.toNat_natCast, hl, Nat.pow_succ, Nat.mul_assoc]
  have e : k * (i / k) + i % k = i := Nat.div_add_mod i k
  have : i % k * k ^ p + k ^ p * (k * (i / k)) = k ^ p * i := by
    rw [Nat.mul_comm (i % k), ← Nat.mul_add, Nat.add_comm, e]
  omega
theorem at_done {k n i i0 : Nat} {l : List Int} (h : valW k l + k ^ n * i = i0) (hlt : i0 < k ^ n) : valW k l = i0 := by
  rcases Nat.eq_zero_or_pos i with rfl | c
  · simpa using h
  · have : k ^ n * 1 ≤ k ^ n * i := Nat.mul_le_mul_left _ c
    omega
/-! ### repeats -/
def timesW (w : List Int) : Nat → List Int
  | 0 => []
  | n + 1 => timesW w n ++ w
theorem timesW_length (w : List Int) (n : Nat) : (timesW w n).length = n * w.length := by
  induction n with
  | zero => simp [timesW]
  | succ n ih => rw [timesW, List.length_append, ih, Nat.succ_mul]
theorem timesW_get (w : List Int) (n : Nat) : ∀ i, i < n * w.length → (timesW w n)[i]? = some (F w i) := by
  induction n with
  | zero => intro i h; simp at h
  | succ n ih =>
    intro i hi
    rw [Nat.succ_mul] at hi
    unfold timesW
    rcases Nat.lt_or_ge i (n * w.length) with c | c
    · rw [List.getElem?_append_left (by rw [timesW_length]; exact c), ih i c]
    · rw [List.getElem?_append_right (by rw [timesW_length]; exact c), timesW_length, F_get (by omega)]
      congr 1
      unfold F
      rw [Nat.mul_comm, Nat.sub_mul_mod (by rw [Nat.mul_comm]; exact c)]
theorem times_unique {w x : List Int} {n : Nat} (hl : x.length = n * w.length) (h : ∀ i, i < x.length → x[i]? = some (F w i)) : x = timesW w n := by
  apply List.ext_getElem?
  intro i
  by_cases hi : i < x.length
  · rw [h i hi, timesW_get w n i (by omega)]
  · rw [List.getElem?_eq_none (by omega), List.getElem?_eq_none (by rw [timesW_length]; omega)]
theorem F_times {w : List Int} {n : Nat} (hn : 1 ≤ n) (i : Nat) : F (timesW w n) i = F w i := by
  rcases Nat.eq_zero_or_pos w.length with h | h
  · have h1 := List.eq_nil_of_length_eq_zero h
    subst h1
    have : timesW [] n = [] := List.eq_nil_of_length_eq_zero (by rw [timesW_length]; simp)
    rw [this]
  · have hp : 0 < n * w.length := Nat.mul_pos hn h
    have h2 : i % (n * w.length) < n * w.length := Nat.mod_lt _ hp
    have h1 := timesW_get w n _ h2
    unfold F
    rw [List.getD_eq_getElem?_getD, timesW_length, h1]
    show F w _ = _
    unfold F
    rw [Nat.mod_mod_of_dvd _ (Nat.dvd_mul_left _ _)]
/-- a repeated word's period is the word's -/
theorem isPer_times {w : List Int} {p n : Nat} (hn : 1 ≤ n) (h : IsPer w p) : IsPer (timesW w n) p := by
  have e : ∀ q, Per (timesW w n) q ↔ Per w q := fun q => by
    unfold Per
    constructor
    · intro k i; rw [← F_times hn, ← F_times (w := w) hn i, k]
    · intro k i; rw [F_times hn, F_times hn, k]
  refine ⟨h.1, by rw [timesW_length]; exact Nat.dvd_trans h.2.1 (Nat.dvd_mul_left _ _), (e p).2 h.2.2.1, fun q hq hlt => ?_⟩
  rintro ⟨_, hk⟩
  have := isPer_least h hq ((e q).1 hk)
  omega
end Go.Proofs.YtmienemnjikgdaaDoor.WordM
end
section
namespace Go.Proofs.YtmienemnjikgdaaDoor.RuleM
open WordM

/-- the fault of a rule: the place; its number is 1 -/
def chkR (k r : Int) (t : List Int) : Option Nat :=
  if k < 1 ∨ 4 < k then some 0 else if r < 0 ∨ 3 < r then some 1 else if t.length ≠ k.toNat ^ (2 * r.toNat + 1) then some 2 else (t.findIdx? (badAt k)).map fun i => 3 + i
structure OkR (k r : Nat) (t : List Int) : Prop where
  k1 : 1 ≤ k
  k4 : k ≤ 4
  r3 : r ≤ 3
  len : t.length = k ^ (2 * r + 1)
  ok : okW k t
theorem pow_le {k r : Nat} (h4 : k ≤ 4) (h3 : r ≤ 3) : k ^ (2 * r + 1) ≤ 16384 :=
  Nat.le_trans (Nat.pow_le_pow_left h4 _) (Nat.le_trans (Nat.pow_le_pow_right (by omega) (by omega : 2 * r + 1 ≤ 7)) (by decide))
theorem pow_pos {k r : Nat} (h1 : 1 ≤ k) : 1 ≤ k ^ (2 * r + 1) := Nat.pow_pos h1
theorem bad_none {k : Nat} {l : List Int} : l.findIdx? (badAt k) = none ↔ okW k l := by
  rw [List.findIdx?_eq_none_iff]
  constructor
  · intro h x hx
    have := h x hx
    unfold badAt at this
    simp at this
    omega
  · intro h x hx
    have := h x hx
    unfold badAt
    simp
    omega
theorem chkR_none {k r : Int} {t : List Int} (h : chkR k r t = none) : ∃ K R : Nat, k = K ∧ r = R ∧ OkR K R t := by
  unfold chkR at h
  split at h
  · cases h
  · split at h
    · cases h
    · split at h
      · cases h
      · rename_i h1 h2 h3
        obtain ⟨K, rfl⟩ : ∃ K : Nat, k = K := ⟨k.toNat, by omega⟩
        obtain ⟨R, rfl⟩ : ∃ R : Nat, r = R := ⟨r.toNat, by omega⟩
        rw [Option.map_eq_none_iff, bad_none] at h
        exact ⟨K, R, rfl, rfl, by omega, by omega, by omega, by simpa using h3, h⟩
theorem chkR_ok {K R : Nat} {t : List Int} (h : OkR K R t) : chkR K R t = none := by
  have h1 := h.k1
  have h2 := h.k4
  have h3 := h.r3
  unfold chkR
  rw [if_neg (by omega), if_neg (by omega), if_neg (by simp [h.len]), Option.map_eq_none_iff, bad_none]
  exact h.ok

/-! ### numbers of windows -/
theorem valW_mod {k : Nat} {a b : List Int} (hb : okW k b) : valW k (a ++ b) % k ^ b.length = valW k b := by
  rw [valW_app, Nat.mul_comm, Nat.mul_add_mod]
  exact Nat.mod_eq_of_lt (valW_lt hb)
/-- the window of n symbols from i on -/
def win (w : List Int) (i n : Nat) : List Int := (w.drop i).take n
theorem win_length {w : List Int} {i n : Nat} (h : i + n ≤ w.length) : (win w i n).length = n := by
  unfold win
  rw [List.length_take, List.length_drop]; omega
theorem win_ok {k : Nat} {w : List Int} (h : okW k w) (i n : Nat) : okW k (win w i n) := okW_take (okW_drop h i) n
theorem take_win (w : List Int) (i n : Nat) : w.take (i + n) = w.take i ++ win w i n := by
  unfold win
  rw [List.take_add]
theorem win_lt {k : Nat} {w : List Int} {i n : Nat} (h : okW k w) (hl : i + n ≤ w.length) : valW k (win w i n) < k ^ n := by
  have := valW_lt (win_ok h i n)
  rwa [win_length hl] at this
theorem win_mod {k : Nat} {w : List Int} {i n : Nat} (h : okW k w) (hl : i + n ≤ w.length) : valW k (w.take (i + n)) % k ^ n = valW k (win w i n) := by
  have := valW_mod (a := w.take i) (win_ok h i n)
  rwa [win_length hl, ← take_win] at this
theorem win_all (w : List Int) : win w 0 w.length = w := by unfold win; rw [List.drop_zero, List.take_length]
theorem step_mod {k S j : Nat} {w : List Int} {x : Int} (h : w[j]? = some x) : (valW k (w.take j) % S * k + x.toNat) % S = valW k (w.take (j + 1)) % S := by
  rw [List.take_add_one, h]
  show _ = valW k (w.take j ++ [x]) % S
  rw [valW_snoc, Nat.add_mod, Nat.mul_mod, Nat.mod_mod, ← Nat.mul_mod, ← Nat.add_mod]
/-- the entry of a table -/
def ent (t : List Int) (i : Nat) : Int := t.getD i 0
theorem ent_get {t : List Int} {i : Nat} (h : i < t.length) : t[i]? = some (ent t i) := by
  unfold ent
  rw [List.getD_eq_getElem?_getD, List.getElem?_eq_getElem h]; rfl
theorem ent_ok {k : Nat} {t : List Int} {i : Nat} (ho : okW k t) (h : i < t.length) : 0 ≤ ent t i ∧ ent t i < (k : Int) := ho _ (List.mem_of_getElem? (ent_get h))
/-- the image of a word -/
def imgW (k r : Nat) (t w : List Int) : List Int := (List.range (w.length - 2 * r)).map fun i => ent t (valW k (win w i (2 * r + 1)))
theorem imgW_length (k r : Nat) (t w : List Int) : (imgW k r t w).length = w.length - 2 * r := by unfold imgW; simp
theorem imgW_get {k r : Nat} {t w : List Int} {i : Nat} (h : i < w.length - 2 * r) : (imgW k r t w)[i]? = some (ent t (valW k (win w i (2 * r + 1)))) := by
  unfold imgW
  rw [List.getElem?_map, List.getElem?_range h]; rfl
theorem imgW_nil {k r : Nat} {t w : List Int} (h : w.length ≤ 2 * r) : imgW k r t w = [] := List.eq_nil_of_length_eq_zero (by rw [imgW_length]; omega)
theorem imgW_ok {k r : Nat} {t w : List Int} (h : OkR k r t) (hw : okW k w) : okW k (imgW k r t w) := by
  intro x hx
  obtain ⟨i, hi⟩ := List.mem_iff_getElem?.1 hx
  have hl : i < (imgW k r t w).length := (List.getElem?_eq_some_iff.1 hi).1
  rw [imgW_length] at hl
  rw [imgW_get hl] at hi
  obtain rfl := Option.some.inj hi
  exact ent_ok h.ok (by rw [h.len]; exact win_lt hw (by omega))
/-- of pieces -/
theorem win_piece (w : List Int) (a b i n : Nat) (h : i + n ≤ b) : win ((w.drop a).take b) i n = win w (a + i) n := by
  unfold win
  rw [List.drop_take, List.drop_drop, List.take_take]
  congr 1
  omega
theorem img_piece {k r : Nat} {t w : List Int} {a b : Nat} (h : a + b ≤ w.length) : imgW k r t ((w.drop a).take b) = ((imgW k r t w).drop a).take (b - 2 * r) := by
  apply List.ext_getElem?
  intro i
  have hl : ((w.drop a).take b).length = b := by rw [List.length_take, List.length_drop]; omega
  by_cases hi : i < b - 2 * r
  · rw [imgW_get (by rw [hl]; exact hi), List.getElem?_take, if_pos hi, List.getElem?_drop, imgW_get (by omega), win_piece _ _ _ _ _ (by omega)]
  · rw [List.getElem?_eq_none (by rw [imgW_length, hl]; omega), List.getElem?_take, if_neg hi]
/-! ### numbers of rules -/
theorem OkR.rev {k r : Nat} {t : List Int} (h : OkR k r t) : okW k t.reverse := fun x hx => h.ok x (List.mem_reverse.1 hx)
theorem okW_rev {k : Nat} {t : List Int} (h : okW k t) : okW k t.reverse := fun x hx => h x (List.mem_reverse.1 hx)
/-- the number of a rule -/
def codeR (k : Nat) (t : List Int) : Nat := valW k t.reverse
theorem code_lt {k r : Nat} {t : List Int} (h : OkR k r t) : codeR k t < k ^ (k ^ (2 * r + 1)) := by
  have := valW_lt h.rev
  rwa [List.length_reverse, h.len] at this
theorem code_inj {k r : Nat} {t u : List Int} (h : OkR k r t) (g : OkR k r u) (e : codeR k t = codeR k u) : t = u :=
  List.reverse_inj.1 (valW_inj (by rw [List.length_reverse, List.length_reverse, h.len, g.len]) h.rev g.rev e)

end Go.Proofs.YtmienemnjikgdaaDoor.RuleM
end
section
namespace Go.Proofs.YtmienemnjikgdaaDoor
open Go.RowKit

theorem heap_ltN {w : World} {b : Nat} {o : Obj} (h : w.heap[b]? = some o) : b < w.heap.size := by
  rcases Nat.lt_or_ge b w.heap.size with k | k
  · exact k
  · simp [Array.getElem?_eq_none k] at h
theorem below_drewN {B : Nat} {a w : World} (h : Below B a w) (n : Nat) : Below B a (w.drewN n) :=
  ⟨h.os, h.tape, h.output, h.size, h.block⟩

/-- for a quiet region behind a quiet region, and for contracts that leave the world alone -/
theorem quiet_add_left {P : Program} {f : FuncId} {args : Array Value} {w : World} {a n : Nat} {v : Value}
    (h : Calls P f args (w.drewN (a + n)) fun e w' => e = .returned v ∧ w.drewN (a + n) = w') :
    Calls P f args (w.drewN (a + n)) fun e w'' => e = .returned v ∧ ∃ m, w'' = w.drewN (a + m) :=
  h.mono fun _ _ ⟨he, hm⟩ => ⟨he, n, hm.symm⟩
theorem quiet_left {P : Program} {f : FuncId} {args : Array Value} {w : World} {n : Nat} {v : Value}
    (h : Calls P f args (w.drewN n) fun e w' => e = .returned v ∧ w.drewN n = w') : Calls P f args (w.drewN n) fun e w'' => e = .returned v ∧ ∃ m, w'' = w.drewN m :=
  h.mono fun _ _ ⟨he, hm⟩ => ⟨he, n, hm.symm⟩
theorem own_shape {w : World} {base : Nat} {e : TypeId} {v : Value} {n : Nat} {xs : List Value} (h : w.ownsRow base e 1 v n xs) :
    (v = .slice none 0 0 ∧ n = 0 ∧ xs = []) ∨ ∃ g cap, v = .slice (some ⟨g, 0, none⟩) n cap ∧ base ≤ g ∧ g < w.heap.size ∧ n ≤ cap ∧ cap ≤ maxLen ∧ (∀ j, j < n → w.cell? ⟨g, j, none⟩ = xs[j]?) ∧ xs.length = n := by
  have h0 := h
  obtain ⟨hx, h | ⟨g, cap, cur, hv, hg, hh, hc, hm, r⟩⟩ := h
  · obtain ⟨h1, rfl⟩ := h
    exact Or.inl ⟨h1, rfl, List.eq_nil_of_length_eq_zero (by simpa using hx)⟩
  · subst hv
    exact Or.inr ⟨g, cap, rfl, hg, heap_ltN hh, hc, hm, fun j hj => h0.cellAt j (by omega), by omega⟩
theorem ownsRow_base {w : World} {base base' : Nat} {e : TypeId} {v : Value} {n : Nat} {xs : List Value} (hB : base' ≤ base) (h : w.ownsRow base e 1 v n xs) : w.ownsRow base' e 1 v n xs := by
  obtain ⟨hx, h | ⟨g, cap, cur, hv, hg, r⟩⟩ := h
  · exact ⟨hx, Or.inl h⟩
  · exact ⟨hx, Or.inr ⟨g, cap, cur, hv, Nat.le_trans hB hg, r⟩⟩
theorem ownsRow_below {w1 w2 : World} {base : Nat} {e : TypeId} {size : Nat} {v : Value} {n : Nat} {xs : List Value} (hb : Below w1.heap.size w1 w2) (h : w1.ownsRow base e size v n xs) : w2.ownsRow base e size v n xs :=
  h.kept (row := none) ⟨hb.os, hb.tape, hb.output, hb.size, fun k hk _ => hb.block k hk⟩ (by
    cases hv : v.ownBlock with
    | none => exact Or.inl rfl
    | some g => exact Or.inr (by simp))
/-- a post that tells the answer, and that old memory stays -/
def Tells (v : Value) (w : World) (e : Ending) (w' : World) : Prop := e = .returned v ∧ Below w.heap.size w w'
theorem Tells.of_same {P : Program} {f : FuncId} {args : Array Value} {w : World} {v : Value} (h : Calls P f args w fun e w' => e = .returned v ∧ w = w') : Calls P f args w (Tells v w) :=
  h.mono fun _ _ ⟨he, hw⟩ => ⟨he, by rw [← hw]; exact Below.refl _ _⟩
theorem add_off (b off j : Nat) : (⟨b, off, none⟩ : Addr).add j = ⟨b, off + j, none⟩ := by
  unfold Addr.add
  split
  · subst_vars; rfl
  · rfl

theorem only_drew {a w : World} {row : Option Nat} (h : a.grownBy w row) : a.grownBy w.drew row := ⟨h.os, h.tape, h.output, h.size, h.block⟩

theorem heap_newN (w : World) (o : Obj) : (w.alloc o).heap[w.heap.size]? = some o := by
  show (w.heap.push o)[w.heap.size]? = some o
  simp
theorem cell_alloc_row (w : World) (cs : Array Value) (t : TypeId) (j : Nat) : (w.alloc (.cells cs t)).cell? ⟨w.heap.size, j, none⟩ = cs[j]? :=
  cell_of_row _ _ _ cs t (0, 0) (heap_newN w _)
end Go.Proofs.YtmienemnjikgdaaDoor
end
section
namespace Go.Proofs.YtmienemnjikgdaaDoor
open Go.RowKit

/-- a post that tells the answer, and that only draws were made -/
def Quiet (v : Value) (w : World) (e : Ending) (w' : World) : Prop := e = .returned v ∧ ∃ m, w' = w.drewN m
theorem Quiet.tells {P : Program} {f : FuncId} {args : Array Value} {w : World} {v : Value} (h : Calls P f args w (Quiet v w)) : Calls P f args w (Tells v w) :=
  h.mono fun _ _ ⟨he, m, hw⟩ => ⟨he, by rw [hw]; exact below_drewN (Below.refl _ _) m⟩
theorem quiet_more {w wx : World} (h : ∃ a, wx = w.drewN a) (m : Nat) : ∃ a, wx.drewN m = w.drewN a := by
  obtain ⟨a, rfl⟩ := h
  exact ⟨a + m, by rw [World.drewN_drewN]⟩
/-- for a quiet region: contracts whose post is Quiet -/
theorem Quiet.add {P : Program} {f : FuncId} {args : Array Value} {w : World} {n : Nat} {v : Value} (h : Calls P f args (w.drewN n) (Quiet v (w.drewN n))) :
    Calls P f args (w.drewN n) fun e w'' => e = .returned v ∧ ∃ m, w'' = w.drewN m :=
  h.mono fun _ _ ⟨he, m, hw⟩ => ⟨he, n + m, by rw [hw, World.drewN_drewN]⟩
theorem Quiet.add2 {P : Program} {f : FuncId} {args : Array Value} {w : World} {a n : Nat} {v : Value} (h : Calls P f args (w.drewN (a + n)) (Quiet v (w.drewN (a + n)))) :
    Calls P f args (w.drewN (a + n)) fun e w'' => e = .returned v ∧ ∃ m, w'' = w.drewN (a + m) :=
  h.mono fun _ _ ⟨he, m, hw⟩ => ⟨he, n + m, by rw [hw, World.drewN_drewN, Nat.add_assoc]⟩
end Go.Proofs.YtmienemnjikgdaaDoor
end
section
namespace Go.Proofs.YtmienemnjikgdaaDoor
open Go.RowKit

def cI (l : List Int) : List Value := l.map fun x => Value.int .i64 x
theorem cI_length (l : List Int) : (cI l).length = l.length := by simp [cI]
theorem cI_get {l : List Int} {j : Nat} {x : Int} (h : l[j]? = some x) : (cI l)[j]? = some (.int .i64 x) := by simp [cI, h]
theorem cI_app (a b : List Int) : cI (a ++ b) = cI a ++ cI b := by simp [cI]
theorem cI_take (l : List Int) (k : Nat) : cI (l.take k) = (cI l).take k := by simp [cI]
theorem getI {l : List Int} {k : Nat} (h : k < l.length) : ∃ x, l[k]? = some x := ⟨_, List.getElem?_eq_getElem h⟩
theorem ltI {l : List Int} {k : Nat} {x : Int} (h : l[k]? = some x) : k < l.length := (List.getElem?_eq_some_iff.1 h).1

/-- A slice of ints below block B: it reads l. -/
structure IntV (B : Nat) (w : World) (p : Option Addr) (c : Nat) (l : List Int) : Prop where
  le : l.length ≤ c
  cap : c ≤ maxLen
  nil : p = none → c = 0
  cell : l ≠ [] → ∃ b off, p = some ⟨b, off, none⟩ ∧ b < B ∧ ∀ (j : Nat) (x : Int), l[j]? = some x → w.cell? ⟨b, off + j, none⟩ = some (.int .i64 x)
theorem IntV.below {B : Nat} {w w' : World} {p : Option Addr} {c : Nat} {l : List Int} (hb : Below B w w') (h : IntV B w p c l) : IntV B w' p c l :=
  ⟨h.le, h.cap, h.nil, fun hn => by
    obtain ⟨b, off, hp, hlt, hc⟩ := h.cell hn
    exact ⟨b, off, hp, hlt, fun j x hx => (hb.cell (p := ⟨b, off + j, none⟩) hlt).trans (hc j x hx)⟩⟩
theorem IntV.mono {B B' : Nat} {w : World} {p : Option Addr} {c : Nat} {l : List Int} (hB : B ≤ B') (h : IntV B w p c l) : IntV B' w p c l :=
  ⟨h.le, h.cap, h.nil, fun hn => by
    obtain ⟨b, off, hp, hlt, hc⟩ := h.cell hn
    exact ⟨b, off, hp, by omega, hc⟩⟩
theorem IntV.next {w w' : World} {p : Option Addr} {c : Nat} {l : List Int} (hb : Below w.heap.size w w') (h : IntV w.heap.size w p c l) : IntV w'.heap.size w' p c l :=
  (h.below hb).mono hb.size
theorem IntV.take {B : Nat} {w : World} {p : Option Addr} {c : Nat} {l : List Int} (h : IntV B w p c l) (k : Nat) : IntV B w p c (l.take k) :=
  ⟨Nat.le_trans (by rw [List.length_take]; exact Nat.min_le_right _ _) h.le, h.cap, h.nil, fun hn => by
    have hne : l ≠ [] := by rintro rfl; simp at hn
    obtain ⟨b, off, hp, hlt, hc⟩ := h.cell hne
    refine ⟨b, off, hp, hlt, fun j x hx => hc j x ?_⟩
    rw [List.getElem?_take] at hx
    split at hx
    · exact hx
    · cases hx⟩
theorem IntV.nothing (w : World) : IntV w.heap.size w none 0 [] := ⟨Nat.le_refl _, Nat.zero_le _, fun _ => rfl, fun h => absurd rfl h⟩
theorem IntV.empty {B : Nat} {w : World} {p : Option Addr} {c : Nat} (hc : c ≤ maxLen) (hp : p = none → c = 0) : IntV B w p c [] := ⟨Nat.zero_le _, hc, hp, fun h => absurd rfl h⟩
/-- the piece from t on -/
theorem IntV.drop {B : Nat} {w : World} {b off c : Nat} {l : List Int} (h : IntV B w (some ⟨b, off, none⟩) c l) (t : Nat) (ht : t ≤ l.length) : IntV B w (some ⟨b, off + t, none⟩) (c - t) (l.drop t) :=
  ⟨by have := h.le; rw [List.length_drop]; omega, by have := h.cap; omega, (fun e => by cases e), fun hn => by
    have hne : l ≠ [] := by rintro rfl; simp at hn
    obtain ⟨b', off', hp, hlt, hc⟩ := h.cell hne
    obtain ⟨rfl, rfl⟩ : b = b' ∧ off = off' := by simpa using hp
    refine ⟨b, off + t, rfl, hlt, fun j x hx => ?_⟩
    rw [List.getElem?_drop] at hx
    rw [Nat.add_assoc]
    exact hc _ _ hx⟩

/-- A slice of ints that the call owns, in a block from base on: it reads l. -/
def IntO (base : Nat) (w : World) (p : Option Addr) (c : Nat) (l : List Int) : Prop := w.ownsRow base 3 1 (.slice p l.length c) l.length (cI l)
theorem IntO.next {base : Nat} {w w' : World} {p : Option Addr} {c : Nat} {l : List Int} (hb : Below w.heap.size w w') (h : IntO base w p c l) : IntO base w' p c l := ownsRow_below hb h
theorem IntO.base {base base' : Nat} {w : World} {p : Option Addr} {c : Nat} {l : List Int} (hB : base' ≤ base) (h : IntO base w p c l) : IntO base' w p c l := ownsRow_base hB h
theorem IntO.toV {base : Nat} {w : World} {p : Option Addr} {c : Nat} {l : List Int} (h : IntO base w p c l) : IntV w.heap.size w p c l := by
  rcases own_shape h with ⟨hv, h0, _⟩ | ⟨g, cap, hv, hg, hlt, hc, hm, hcl, _⟩
  · obtain ⟨rfl, _, rfl⟩ := by simpa using hv
    exact ⟨by omega, Nat.zero_le _, fun _ => rfl, fun hn => absurd (List.eq_nil_of_length_eq_zero h0) hn⟩
  · obtain ⟨rfl, rfl⟩ : p = some ⟨g, 0, none⟩ ∧ c = cap := by simpa using hv
    refine ⟨hc, hm, (fun e => by cases e), fun _ => ⟨g, 0, rfl, hlt, fun j x hx => ?_⟩⟩
    rw [Nat.zero_add]
    exact (hcl j (ltI hx)).trans (cI_get hx)
theorem IntO.nothing (base : Nat) (w : World) : IntO base w none 0 [] := World.ownsRow_nil _ _ _ _
theorem IntO.slice_own {base : Nat} {w : World} {v : Value} {l : List Int} (h : w.ownsRow base 3 1 v l.length (cI l)) : ∃ p c, v = .slice p l.length c ∧ IntO base w p c l := by
  rcases own_shape h with ⟨rfl, h0, _⟩ | ⟨g, cap, rfl, _⟩
  · obtain rfl := List.eq_nil_of_length_eq_zero h0
    exact ⟨none, 0, rfl, h⟩
  · exact ⟨_, _, rfl, h⟩
/-- a whole block is one own list -/
theorem IntO.of_block {base : Nat} {w : World} {g : Nat} {l : List Int} (hB : base ≤ g) (hm : l.length ≤ maxLen) (h : w.heap[g]? = some (.cells (cI l).toArray 3 (0, 0))) : IntO base w (some ⟨g, 0, none⟩) l.length l :=
  ⟨by rw [cI_length, Nat.mul_one], Or.inr ⟨g, l.length, _, rfl, hB, h, Nat.le_refl _, hm, by simp [cI], by rw [List.toList_toArray, List.take_of_length_le (by rw [cI_length]; omega)]⟩⟩

/-- new ints made by a call, behind the world w -/
def IntPost (w : World) (l : List Int) (e : Ending) (w' : World) : Prop :=
  ∃ p c, e = .returned (.slice p l.length c) ∧ IntO w.heap.size w' p c l ∧ Below w.heap.size w w'
/-- the same beside no error -/
def IntOk (w : World) (l : List Int) (e : Ending) (w' : World) : Prop :=
  ∃ p c, e = .returned (.tuple #[.slice p l.length c, .nilIface]) ∧ IntO w.heap.size w' p c l ∧ Below w.heap.size w w'

/-- a slice literal of ints, just laid -/
theorem IntV.laid {w : World} (l : List Int) (cs : Array Value) (t : TypeId) (hc : cs.toList = cI l) (hl : l.length ≤ 1000) :
    IntV (w.alloc (.cells cs t)).heap.size (w.alloc (.cells cs t)) (some ⟨w.heap.size, 0, none⟩) l.length l := by
  refine ⟨Nat.le_refl _, by unfold maxLen; omega, (fun h => by cases h), fun _ => ⟨w.heap.size, 0, rfl, by simp, fun j x hx => ?_⟩⟩
  rw [Nat.zero_add, cell_alloc_row, ← Array.getElem?_toList, hc]
  exact cI_get hx

def sameI (l k : List Int) : Bool := decide (l = k)
theorem sameI_self (l : List Int) : sameI l l = true := by simp [sameI]
theorem sameI_eq {l k : List Int} (h : l = k) : sameI l k = true := by simp [sameI, h]
theorem sameI_ne {l k : List Int} (h : l ≠ k) : sameI l k = false := by simp [sameI, h]
theorem take_alike {l k : List Int} {j : Nat} {x : Int} (hl : l[j]? = some x) (hk : k[j]? = some x) (h : l.take j = k.take j) : l.take (j + 1) = k.take (j + 1) := by
  rw [List.take_add_one, List.take_add_one, hl, hk, h]

set_option maxHeartbeats 1000000 in
theorem ints_q (p q : Option Addr) (n m c d : Nat) (l k : List Int) (w : World) (hn : n = l.length) (hm : m = k.length) (h : IntV w.heap.size w p c l) (h' : IntV w.heap.size w q d k) :
    Calls Tryd.prog 21 #[.slice p n c, .slice q m d] w (Quiet (.bool (sameI l k)) w) := by
  subst hn hm
  have hcap := h.cap
  have hle := h.le
  have hdle := h'.le
  have hdcap := h'.cap
  unfold maxLen at hcap hdcap
  have H := Lib.hid (And.intro h h')
  clear h h'
  by_cases hlen : l.length = k.length
  · obtain ⟨n, hn⟩ : ∃ n, n = l.length := ⟨_, rfl⟩
    rw [← hlen, ← hn]
    rw [← hn] at hle
    rw [← hlen, ← hn] at hdle
    have HN := Lib.hid (And.intro hn hlen)
    clear hn hlen
    go_enter Tryd.func21, Tryd.ntmps21
    go_wp2_with fail
    go_loopw [5] (fun v wx => ∃ j : Nat, j ≤ n ∧ v = .int .i64 j ∧ Hid (∃ a, wx = w.drewN a) ∧ Hid (l.take j = k.take j)) (fun i _ => n - (intOf i).toNat)
    case atStart => exact ⟨0, Nat.zero_le _, rfl, ⟨0, rfl⟩, by show _ = _; simp⟩
    case round =>
      obtain ⟨j, hj, rfl, hbx, ht⟩ := hrel
      by_cases hlt : j < n
      · have hnl := HN.out.1
        have hkl := HN.out.2
        have hne : l ≠ [] := by rintro rfl; simp at hnl; omega
        have hne' : k ≠ [] := by rintro rfl; simp at hkl; simp [hkl] at hnl; omega
        have hbw : Below w.heap.size w wr := hbx.out.elim fun a e => e ▸ below_drewN (Below.refl _ _) a
        obtain ⟨b, off, rfl, hb, hc⟩ := (H.out.1.below hbw).cell hne
        obtain ⟨b', off', rfl, hb', hc'⟩ := (H.out.2.below hbw).cell hne'
        obtain ⟨x, hx⟩ := getI (l := l) (k := j) (by omega)
        obtain ⟨y, hy⟩ := getI (l := k) (k := j) (by omega)
        have h1 := hc j x hx
        have h2 := hc' j y hy
        have HX := Lib.hid (And.intro hx hy)
        clear hbw hc hc' hx hy hne hne' hnl hkl
        by_cases hxy : x = y
        · subst hxy
          go_wp2_with fail
          go_quiet (fail)
          go_wp2_with fail
          go_roundw
          case rel => exact ⟨j + 1, by omega, by go_num, quiet_more hbx.out _, take_alike HX.out.1 HX.out.2 ht.out⟩
          case measure => simp [intOf]; omega
        · have hne1 : ((x : Int) == (y : Int)) = false := by simpa using hxy
          have hs : sameI l k = false := sameI_ne (by rintro rfl; have := HX.out; rw [this.1] at this; exact hxy (Option.some.inj this.2))
          have HS := Lib.hid hs
          clear hs
          go_wp2_with fail
          go_quiet (fail)
          go_wp2_with fail
          go_ret
          exact ⟨by rw [HS.out]; rfl, quiet_more hbx.out _⟩
      · obtain rfl : j = n := by omega
        have hs : sameI l k = true := sameI_eq (by
          have e := ht.out
          have e1 := HN.out
          rwa [e1.1, List.take_length, e1.2, List.take_length] at e)
        have HS := Lib.hid hs
        clear hs
        go_wp2_with fail
        go_ret
        exact ⟨by rw [HS.out]; rfl, hbx.out⟩
  · have hs : sameI l k = false := sameI_ne (by rintro rfl; exact hlen rfl)
    have hne1 : ((l.length : Int) == (k.length : Int)) = false := by rw [beq_eq_false_iff_ne]; omega
    have HS := Lib.hid hs
    clear hs
    go_enter Tryd.func21, Tryd.ntmps21
    go_wp2_with fail
    go_ret
    exact ⟨by rw [HS.out]; rfl, 0, rfl⟩
theorem ints_any (p q : Option Addr) (n m c d : Nat) (l k : List Int) (w : World) (hn : n = l.length) (hm : m = k.length) (h : IntV w.heap.size w p c l) (h' : IntV w.heap.size w q d k) :
    Calls Tryd.prog 21 #[.slice p n c, .slice q m d] w (Tells (.bool (sameI l k)) w) := Quiet.tells (ints_q p q n m c d l k w hn hm h h')
end Go.Proofs.YtmienemnjikgdaaDoor
end
section
/- Plain mathematics of numbers as lists of digits: values, digits, trimming; no part of the program. -/
namespace Go.Proofs.YtmienemnjikgdaaDoor.NatM

/-- The value of a list of digits in base B, the lowest first. -/
def valB (B : Nat) : List Nat → Nat
  | [] => 0
  | x :: l => x + B * valB B l
def okB (B : Nat) (l : List Nat) : Prop := ∀ x ∈ l, x < B
/-- No 0 at the end. -/
def nrm (l : List Nat) : Prop := ∀ x, l.getLast? = some x → x ≠ 0

/-- The digits of n in base B, the lowest first, none 0 at the end. -/
def digs (B n : Nat) : List Nat := if _h : B ≤ 1 ∨ n = 0 then [] else n % B :: digs B (n / B)
termination_by n
decreasing_by
  have : n / B < n := Nat.div_lt_self (by omega) (by omega)
  exact this

theorem digs_zero (B : Nat) : digs B 0 = [] := by rw [digs]; simp
theorem digs_pos {B n : Nat} (hB : 2 ≤ B) (hn : 0 < n) : digs B n = n % B :: digs B (n / B) := by
  rw [digs]; rw [dif_neg (by omega)]
theorem valB_digs {B : Nat} (hB : 2 ≤ B) : ∀ n, valB B (digs B n) = n := by
  intro n
  induction n using Nat.strongRecOn with
  | ind n ih =>
    rcases Nat.eq_zero_or_pos n with rfl | h
    · rw [digs_zero]; rfl
    · rw [digs_pos hB h, valB, ih _ (Nat.div_lt_self h (by omega))]
      exact Nat.mod_add_div n B
theorem digs_ok {B : Nat} (hB : 2 ≤ B) : ∀ n, okB B (digs B n) := by
  intro n
  induction n using Nat.strongRecOn with
  | ind n ih =>
    rcases Nat.eq_zero_or_pos n with rfl | h
    · rw [digs_zero]; intro x hx; cases hx
    · rw [digs_pos hB h]
      intro x hx
      rcases List.mem_cons.1 hx with rfl | hx
      · exact Nat.mod_lt _ (by omega)
      · exact ih _ (Nat.div_lt_self h (by omega)) x hx
theorem digs_eq_nil {B n : Nat} (hB : 2 ≤ B) : digs B n = [] ↔ n = 0 := by
  rcases Nat.eq_zero_or_pos n with rfl | h
  · simp [digs_zero]
  · rw [digs_pos hB h]; simp; omega
theorem digs_nrm {B : Nat} (hB : 2 ≤ B) : ∀ n, nrm (digs B n) := by
  intro n
  induction n using Nat.strongRecOn with
  | ind n ih =>
    rcases Nat.eq_zero_or_pos n with rfl | h
    · rw [digs_zero]; intro x hx; cases hx
    · rw [digs_pos hB h]
      intro x hx
      have ihn := ih _ (Nat.div_lt_self h (by omega : 1 < B))
      cases hd : digs B (n / B) with
      | nil =>
        rw [hd] at hx
        have h0 := (digs_eq_nil hB).1 hd
        simp at hx
        subst hx
        have hm := Nat.mod_add_div n B
        rw [h0] at hm
        simp at hm
        omega
      | cons y t =>
        rw [hd] at hx ihn
        rw [List.getLast?_cons_cons] at hx
        exact ihn x hx
theorem okB_tail {B x : Nat} {l : List Nat} (h : okB B (x :: l)) : okB B l := fun y hy => h y (List.mem_cons_of_mem _ hy)
theorem okB_head {B x : Nat} {l : List Nat} (h : okB B (x :: l)) : x < B := h x List.mem_cons_self
theorem nrm_tail {x : Nat} {l : List Nat} (h : nrm (x :: l)) : nrm l := by
  intro y hy
  cases l with
  | nil => cases hy
  | cons z t => exact h y (by rw [List.getLast?_cons_cons]; exact hy)
theorem valB_pos {B : Nat} (hB : 2 ≤ B) : ∀ {l : List Nat}, nrm l → l ≠ [] → 0 < valB B l
  | [], _, h => absurd rfl h
  | [x], hn, _ => by
    have := hn x rfl
    simp [valB]; omega
  | x :: y :: t, hn, _ => by
    have := valB_pos hB (nrm_tail hn) (by simp)
    rw [valB]
    have := Nat.mul_pos (by omega : 0 < B) this
    omega
theorem digs_valB {B : Nat} (hB : 2 ≤ B) : ∀ {l : List Nat}, okB B l → nrm l → digs B (valB B l) = l
  | [], _, _ => digs_zero B
  | x :: l, ho, hn => by
    have hp : 0 < valB B (x :: l) := valB_pos hB hn (by simp)
    have hx := okB_head ho
    rw [digs_pos hB hp, valB, Nat.add_mul_mod_self_left, Nat.mod_eq_of_lt hx, Nat.add_mul_div_left _ _ (by omega), Nat.div_eq_of_lt hx, Nat.zero_add, digs_valB hB (okB_tail ho) (nrm_tail hn)]
theorem digs_unique {B : Nat} (hB : 2 ≤ B) {l : List Nat} {n : Nat} (ho : okB B l) (hn : nrm l) (hv : valB B l = n) : digs B n = l := by
  rw [← hv]; exact digs_valB hB ho hn
theorem valB_append (B : Nat) : ∀ (a b : List Nat), valB B (a ++ b) = valB B a + B ^ a.length * valB B b
  | [], b => by simp [valB]
  | x :: a, b => by
    rw [List.cons_append, valB, valB_append B a b, valB, List.length_cons, Nat.pow_succ, Nat.mul_add, Nat.mul_comm (B ^ a.length) B, Nat.mul_assoc]
    omega
theorem valB_lt {B : Nat} (hB : 1 ≤ B) : ∀ {l : List Nat}, okB B l → valB B l < B ^ l.length
  | [], _ => by simp [valB]
  | x :: l, h => by
    have h1 := valB_lt hB (okB_tail h)
    have h2 := okB_head h
    rw [valB, List.length_cons, Nat.pow_succ, Nat.mul_comm (B ^ l.length) B]
    have : B * (valB B l + 1) ≤ B * B ^ l.length := Nat.mul_le_mul_left _ h1
    rw [Nat.mul_add] at this
    omega
theorem valB_replicate (B k : Nat) : valB B (List.replicate k 0) = 0 := by
  induction k with
  | zero => rfl
  | succ k ih => rw [List.replicate_succ, valB, ih]; simp
theorem valB_snoc (B : Nat) (l : List Nat) (x : Nat) : valB B (l ++ [x]) = valB B l + B ^ l.length * x := by
  rw [valB_append]; simp [valB]
theorem take_snoc {l : List Nat} {k : Nat} (h : k < l.length) : l.take (k + 1) = l.take k ++ [l[k]] := by
  rw [List.take_succ_eq_append_getElem h]
theorem valB_take_succ (B : Nat) {l : List Nat} {k : Nat} (h : k < l.length) : valB B (l.take (k + 1)) = valB B (l.take k) + B ^ k * l[k] := by
  rw [take_snoc h, valB_snoc, List.length_take, Nat.min_eq_left (by omega)]
theorem drop_cons {l : List Nat} {k : Nat} (h : k < l.length) : l.drop k = l[k] :: l.drop (k + 1) := by
  rw [List.drop_eq_getElem_cons h]
theorem valB_drop (B : Nat) {l : List Nat} {k : Nat} (h : k < l.length) : valB B (l.drop k) = l[k] + B * valB B (l.drop (k + 1)) := by
  rw [drop_cons h, valB]
theorem valB_split (B : Nat) (l : List Nat) (k : Nat) (h : k ≤ l.length) : valB B l = valB B (l.take k) + B ^ k * valB B (l.drop k) := by
  have := valB_append B (l.take k) (l.drop k)
  rw [List.take_append_drop, List.length_take, Nat.min_eq_left h] at this
  exact this
theorem okB_take {B : Nat} {l : List Nat} (h : okB B l) (k : Nat) : okB B (l.take k) := fun x hx => h x (List.mem_of_mem_take hx)
theorem okB_drop {B : Nat} {l : List Nat} (h : okB B l) (k : Nat) : okB B (l.drop k) := fun x hx => h x (List.mem_of_mem_drop hx)
theorem okB_get {B : Nat} {l : List Nat} (h : okB B l) {k : Nat} (hk : k < l.length) : l[k] < B := h _ (List.getElem_mem hk)
theorem okB_append {B : Nat} {a b : List Nat} (ha : okB B a) (hb : okB B b) : okB B (a ++ b) := fun x hx => (List.mem_append.1 hx).elim (ha x) (hb x)
theorem okB_one {B x : Nat} (h : x < B) : okB B [x] := fun y hy => by simp at hy; omega
theorem okB_nil (B : Nat) : okB B [] := fun _ h => by cases h
theorem okB_snoc {B x : Nat} {l : List Nat} (h : okB B l) (hx : x < B) : okB B (l ++ [x]) := okB_append h (okB_one hx)
theorem okB_replicate {B : Nat} (hB : 1 ≤ B) (k : Nat) : okB B (List.replicate k 0) := fun x hx => by have := (List.mem_replicate.1 hx).2; omega
theorem valB_set (B : Nat) (x : Nat) : ∀ {l : List Nat} {k : Nat} (h : k < l.length), valB B (l.set k x) + B ^ k * l[k] = valB B l + B ^ k * x
  | y :: l, 0, _ => by simp [valB]; omega
  | y :: l, k + 1, h => by
    have ih := valB_set B x (l := l) (k := k) (by simpa using h)
    simp only [List.set_cons_succ, valB, List.getElem_cons_succ]
    rw [Nat.pow_succ, Nat.mul_comm (B ^ k) B, Nat.mul_assoc, Nat.mul_assoc]
    have : B * (valB B (l.set k x) + B ^ k * l[k]'(by simpa using h)) = B * (valB B l + B ^ k * x) := by rw [ih]
    rw [Nat.mul_add, Nat.mul_add] at this
    omega
theorem okB_set {B : Nat} {l : List Nat} (h : okB B l) {x : Nat} (hx : x < B) (k : Nat) : okB B (l.set k x) := fun y hy => by
  rcases List.mem_or_eq_of_mem_set hy with h1 | h1
  · exact h y h1
  · omega

/-! ### trimming -/
/-- the length of a list without its zeros at the end -/
def tlen (l : List Nat) : Nat := (digs 2 0).length + (l.reverse.dropWhile (· == 0)).length
theorem nrm_take {l : List Nat} {k : Nat} (hk : k ≤ l.length) (h : k = 0 ∨ ∃ h : k - 1 < l.length, l[k - 1] ≠ 0) : nrm (l.take k) := by
  intro x hx
  rcases h with rfl | ⟨h1, h2⟩
  · simp at hx
  · rcases Nat.eq_zero_or_pos k with rfl | hp
    · simp at hx
    · rw [List.getLast?_eq_getElem?, List.length_take, Nat.min_eq_left hk, List.getElem?_take, if_pos (by omega), List.getElem?_eq_getElem h1] at hx
      have := Option.some.inj hx
      omega
theorem trim_eq {B : Nat} (hB : 2 ≤ B) {l : List Nat} (ho : okB B l) {k : Nat} (hk : k ≤ l.length) (hv : valB B (l.take k) = valB B l) (h : k = 0 ∨ ∃ h : k - 1 < l.length, l[k - 1] ≠ 0) :
    l.take k = digs B (valB B l) := (digs_unique hB (okB_take ho k) (nrm_take hk h) hv).symm
theorem trim_step (B : Nat) {l : List Nat} {k : Nat} (h0 : 0 < k) (hk : k ≤ l.length) (hv : valB B (l.take k) = valB B l) (hz : l[k - 1]'(by omega) = 0) : valB B (l.take (k - 1)) = valB B l := by
  have := valB_take_succ B (l := l) (k := k - 1) (by omega)
  rw [show k - 1 + 1 = k by omega, hz] at this
  simp at this
  omega
theorem digs_length_le {B : Nat} (hB : 2 ≤ B) {n k : Nat} (h : n < B ^ k) : (digs B n).length ≤ k := by
  rcases Nat.lt_or_ge k (digs B n).length with hlt | hge
  · exfalso
    have hne : digs B n ≠ [] := by intro e; rw [e] at hlt; simp at hlt
    have hn := valB_digs hB n
    have hs := valB_split B (digs B n) ((digs B n).length - 1) (by omega)
    have hd := valB_drop B (l := digs B n) (k := (digs B n).length - 1) (by omega)
    have hx : (digs B n)[(digs B n).length - 1]'(by omega) ≠ 0 := digs_nrm hB n _ (by rw [List.getLast?_eq_getElem?, List.getElem?_eq_getElem (by omega)])
    have hm : B ^ ((digs B n).length - 1) * 1 ≤ B ^ ((digs B n).length - 1) * valB B ((digs B n).drop ((digs B n).length - 1)) := Nat.mul_le_mul_left _ (by omega)
    have hp : B ^ k ≤ B ^ ((digs B n).length - 1) := Nat.pow_le_pow_right (by omega) (by omega)
    omega
  · exact hge
theorem digs_length_lt {B : Nat} (hB : 2 ≤ B) {m n : Nat} (h : (digs B m).length < (digs B n).length) : m < n := by
  rcases Nat.lt_or_ge m n with h1 | h1
  · exact h1
  · exfalso
    have h2 : n < B ^ (digs B m).length := by
      have := valB_lt (B := B) (by omega) (digs_ok hB m)
      rw [valB_digs hB] at this
      omega
    have := digs_length_le hB h2
    omega
/-- Two lists that are one from i + 1 on, and differ at i. -/
theorem valB_lt_at {B : Nat} (hB : 1 ≤ B) {a b : List Nat} {i : Nat} (ha : okB B a) (hia : i < a.length) (hib : i < b.length) (hd : a.drop (i + 1) = b.drop (i + 1)) (hlt : a[i] < b[i]) : valB B a < valB B b := by
  rw [valB_split B a i (by omega), valB_split B b i (by omega), valB_drop B hia, valB_drop B hib, hd]
  have h1 := valB_lt hB (okB_take ha i)
  rw [List.length_take, Nat.min_eq_left (by omega)] at h1
  have h2 : B ^ i * (a[i] + 1) ≤ B ^ i * b[i] := Nat.mul_le_mul_left _ hlt
  rw [Nat.mul_add] at h2
  rw [Nat.mul_add, Nat.mul_add]
  omega
theorem digs_inj {B : Nat} (hB : 2 ≤ B) {m n : Nat} (h : digs B m = digs B n) : m = n := by
  rw [← valB_digs hB m, h, valB_digs hB]
theorem digs_one {B x : Nat} (hB : 2 ≤ B) (h0 : 0 < x) (hx : x < B) : digs B x = [x] := by
  rw [digs_pos hB h0, Nat.mod_eq_of_lt hx, Nat.div_eq_of_lt hx, digs_zero]

/-! ### half the width -/
def half : List Nat → List Nat
  | [] => []
  | x :: l => x % 65536 :: x / 65536 :: half l
theorem half_ok : ∀ {l : List Nat}, okB 4294967296 l → okB 65536 (half l)
  | [], _ => okB_nil _
  | x :: l, h => by
    intro y hy
    have hx := okB_head h
    rcases List.mem_cons.1 hy with rfl | hy
    · omega
    · rcases List.mem_cons.1 hy with rfl | hy
      · omega
      · exact half_ok (okB_tail h) y hy
theorem half_val : ∀ l : List Nat, valB 65536 (half l) = valB 4294967296 l
  | [] => rfl
  | x :: l => by
    rw [half, valB, valB, valB, half_val l]
    omega
theorem half_append : ∀ a b : List Nat, half (a ++ b) = half a ++ half b
  | [], _ => rfl
  | x :: a, b => by rw [List.cons_append, half, half, half_append a b]; rfl
theorem half_length : ∀ l : List Nat, (half l).length = 2 * l.length
  | [] => rfl
  | x :: l => by rw [half, List.length_cons, List.length_cons, half_length l, List.length_cons]; omega
/-- Two digits in base 65536 are one in base 2^32. -/
def join : List Nat → List Nat
  | [] => []
  | [x] => [x]
  | x :: y :: l => (x + 65536 * y) :: join l
theorem join_val : ∀ l : List Nat, valB 4294967296 (join l) = valB 65536 l
  | [] => rfl
  | [x] => by simp [join, valB]
  | x :: y :: l => by
    rw [join, valB, valB, valB, join_val l]
    omega
theorem join_ok : ∀ {l : List Nat}, okB 65536 l → okB 4294967296 (join l)
  | [], _ => okB_nil _
  | [x], h => okB_one (by have := okB_head h; omega)
  | x :: y :: l, h => by
    intro z hz
    have h1 := okB_head h
    have h2 := okB_head (okB_tail h)
    rcases List.mem_cons.1 hz with rfl | hz
    · omega
    · exact join_ok (okB_tail (okB_tail h)) z hz
theorem join_nrm : ∀ {l : List Nat}, okB 65536 l → nrm l → nrm (join l)
  | [], _, _ => fun _ h => by cases h
  | [x], _, hn => by
    intro z hz
    exact hn z (by simpa [join] using hz)
  | x :: y :: l, ho, hn => by
    cases l with
    | nil =>
      intro z hz
      have := hn y rfl
      simp [join] at hz
      omega
    | cons u t =>
      have ih := join_nrm (l := u :: t) (okB_tail (okB_tail ho)) (nrm_tail (nrm_tail hn))
      have hne : join (u :: t) ≠ [] := by cases t <;> simp [join]
      intro z hz
      rw [join] at hz
      cases hj : join (u :: t) with
      | nil => exact absurd hj hne
      | cons p q =>
        rw [hj] at hz ih
        rw [List.getLast?_cons_cons] at hz
        exact ih z hz
theorem join_digs (n : Nat) : join (digs 65536 n) = digs 4294967296 n := by
  have := digs_unique (B := 4294967296) (by omega) (join_ok (digs_ok (B := 65536) (by omega) n)) (join_nrm (digs_ok (by omega) n) (digs_nrm (by omega) n)) (join_val _)
  rw [valB_digs (by omega)] at this
  exact this.symm

/-! ### the same, with what stands at a place said by '?' -/
theorem some_get {l : List Nat} {k : Nat} (h : k < l.length) : ∃ x, l[k]? = some x := ⟨_, List.getElem?_eq_getElem h⟩
theorem get_lt {l : List Nat} {k x : Nat} (h : l[k]? = some x) : k < l.length := (List.getElem?_eq_some_iff.1 h).1
theorem get_eq {l : List Nat} {k x : Nat} (h : l[k]? = some x) : l[k]'(get_lt h) = x := (List.getElem?_eq_some_iff.1 h).2
theorem ok_get {B : Nat} {l : List Nat} (ho : okB B l) {k x : Nat} (h : l[k]? = some x) : x < B := ho x (List.mem_of_getElem? h)
theorem valB_takeq (B : Nat) {l : List Nat} {k x : Nat} (h : l[k]? = some x) : valB B (l.take (k + 1)) = valB B (l.take k) + B ^ k * x := by
  rw [valB_take_succ B (get_lt h), get_eq h]
theorem valB_dropq (B : Nat) {l : List Nat} {k x : Nat} (h : l[k]? = some x) : valB B (l.drop k) = x + B * valB B (l.drop (k + 1)) := by
  rw [valB_drop B (get_lt h), get_eq h]
theorem valB_setq (B : Nat) (y : Nat) {l : List Nat} {k x : Nat} (h : l[k]? = some x) : valB B (l.set k y) + B ^ k * x = valB B l + B ^ k * y := by
  have := valB_set B y (get_lt h)
  rw [get_eq h] at this
  exact this
theorem trimq {B : Nat} (hB : 2 ≤ B) {l : List Nat} (ho : okB B l) {k x : Nat} (hk : k ≤ l.length) (hv : valB B (l.take k) = valB B l) (hx : l[k - 1]? = some x) (hn : x ≠ 0) :
    l.take k = digs B (valB B l) := trim_eq hB ho hk hv (Or.inr ⟨get_lt hx, by rw [get_eq hx]; exact hn⟩)
theorem trim0 {B : Nat} (hB : 2 ≤ B) {l : List Nat} (ho : okB B l) (hv : valB B (l.take 0) = valB B l) : digs B (valB B l) = [] := by
  have := trim_eq hB ho (Nat.zero_le _) hv (Or.inl rfl)
  rw [List.take_zero] at this
  exact this.symm
theorem trim_stepq (B : Nat) {l : List Nat} {k : Nat} (h0 : 0 < k) (hk : k ≤ l.length) (hv : valB B (l.take k) = valB B l) (hx : l[k - 1]? = some 0) : valB B (l.take (k - 1)) = valB B l :=
  trim_step B h0 hk hv (get_eq hx)
theorem lt_atq {B : Nat} (hB : 1 ≤ B) {a b : List Nat} {i x y : Nat} (ha : okB B a) (hx : a[i]? = some x) (hy : b[i]? = some y) (hd : a.drop (i + 1) = b.drop (i + 1)) (hlt : x < y) : valB B a < valB B b :=
  valB_lt_at hB ha (get_lt hx) (get_lt hy) hd (by rw [get_eq hx, get_eq hy]; exact hlt)
theorem drop_eqq {a b : List Nat} {i x : Nat} (hx : a[i]? = some x) (hy : b[i]? = some x) (hd : a.drop (i + 1) = b.drop (i + 1)) : a.drop i = b.drop i := by
  rw [drop_cons (get_lt hx), drop_cons (get_lt hy), get_eq hx, get_eq hy, hd]
theorem set_takeq {l : List Nat} {k x y : Nat} (h : l[k]? = some x) : (l.set k y).take (k + 1) = l.take k ++ [y] := by
  have hk := get_lt h
  rw [take_snoc (by simpa using hk), List.take_set_of_le (Nat.le_refl _)]
  simp
end Go.Proofs.YtmienemnjikgdaaDoor.NatM
end
section
namespace Go.Proofs.YtmienemnjikgdaaDoor.NatM
theorem pow_pos' {B : Nat} (hB : 1 ≤ B) (k : Nat) : 0 < B ^ k := Nat.pow_pos (by omega)
theorem nrm_of_ge {B : Nat} (hB : 2 ≤ B) {t : List Nat} (ho : okB B t) (h : t = [] ∨ B ^ (t.length - 1) ≤ valB B t) : nrm t := by
  rcases h with rfl | h
  · intro x hx; cases hx
  · intro x hx hx0
    subst hx0
    rw [List.getLast?_eq_getElem?] at hx
    have h1 := valB_takeq B hx
    have hl := get_lt hx
    rw [show t.length - 1 + 1 = t.length by omega, List.take_length] at h1
    have h2 := valB_lt (B := B) (by omega) (okB_take ho (t.length - 1))
    rw [List.length_take, Nat.min_eq_left (by omega)] at h2
    simp at h1
    omega
theorem ge_of_nrm {B : Nat} (_ : 2 ≤ B) {t : List Nat} (hn : nrm t) (hne : t ≠ []) : B ^ (t.length - 1) ≤ valB B t := by
  have hl : 0 < t.length := List.length_pos_iff.2 hne
  obtain ⟨x, hx⟩ := some_get (l := t) (k := t.length - 1) (by omega)
  have h0 := hn x (by rw [List.getLast?_eq_getElem?]; exact hx)
  have h1 := valB_takeq B hx
  rw [show t.length - 1 + 1 = t.length by omega, List.take_length] at h1
  have : B ^ (t.length - 1) * 1 ≤ B ^ (t.length - 1) * x := Nat.mul_le_mul_left _ (by omega)
  omega

/-- Where a sum stands when k limbs of m have been added to s. -/
structure RInv (B : Nat) (s m : List Nat) (k c : Nat) (t : List Nat) : Prop where
  ok : okB B t
  len : t.length = max s.length k
  car : c ≤ 1
  val : valB B t + B ^ k * c = valB B s + valB B (m.take k)
  bnd : k ≤ max s.length m.length + 1
  top : k = max s.length m.length + 1 → B ^ max s.length m.length ≤ valB B s + valB B m
theorem RInv.start {B : Nat} {s m : List Nat} (hs : okB B s) : RInv B s m 0 0 s :=
  ⟨hs, by simp, by omega, by simp [valB], by omega, by omega⟩
theorem valB_take_all (B : Nat) {m : List Nat} {k : Nat} (h : m.length ≤ k) : valB B (m.take k) = valB B m := by rw [List.take_of_length_le h]
theorem valB_take_le (B : Nat) (m : List Nat) (k : Nat) : valB B (m.take k) ≤ valB B m := by
  rcases Nat.le_total k m.length with h | h
  · have := valB_split B m k h; omega
  · rw [valB_take_all B h]; exact Nat.le_refl _
theorem RInv.stop {B : Nat} (hB : 2 ≤ B) {s m : List Nat} (hs : okB B s) (hm : okB B m) {k c : Nat} {t : List Nat} (h : RInv B s m k c t) (hk : max s.length m.length < k) : c = 0 := by
  have hv := h.val
  have h1 := valB_take_le B m k
  have h2 := valB_lt (B := B) (by omega) hs
  have h3 := valB_lt (B := B) (by omega) hm
  have h4 : B ^ s.length ≤ B ^ max s.length m.length := Nat.pow_le_pow_right (by omega) (by omega)
  have h5 : B ^ m.length ≤ B ^ max s.length m.length := Nat.pow_le_pow_right (by omega) (by omega)
  have h6 : B ^ (max s.length m.length + 1) ≤ B ^ k := Nat.pow_le_pow_right (by omega) (by omega)
  rw [Nat.pow_succ] at h6
  have h7 : B ^ max s.length m.length * 2 ≤ B ^ max s.length m.length * B := Nat.mul_le_mul_left _ hB
  rcases Nat.eq_zero_or_pos c with h | h
  · exact h
  · have : B ^ k * 1 ≤ B ^ k * c := Nat.mul_le_mul_left _ h
    omega
/-- The next limb of m, 0 behind its end. -/
def limbAt (m : List Nat) (k : Nat) : Nat := m.getD k 0
theorem limb_some {m : List Nat} {k y : Nat} (h : m[k]? = some y) : limbAt m k = y := by unfold limbAt; rw [List.getD_eq_getElem?_getD, h]; rfl
theorem limb_none {m : List Nat} {k : Nat} (h : m.length ≤ k) : limbAt m k = 0 := by unfold limbAt; rw [List.getD_eq_getElem?_getD, List.getElem?_eq_none h]; rfl
theorem limb_lt {B : Nat} (hB : 1 ≤ B) {m : List Nat} (hm : okB B m) (k : Nat) : limbAt m k < B := by
  rcases Nat.lt_or_ge k m.length with h | h
  · obtain ⟨y, hy⟩ := some_get h
    rw [limb_some hy]; exact ok_get hm hy
  · rw [limb_none h]; omega
theorem valB_take_limb (B : Nat) (m : List Nat) (k : Nat) : valB B (m.take (k + 1)) = valB B (m.take k) + B ^ k * limbAt m k := by
  rcases Nat.lt_or_ge k m.length with h | h
  · obtain ⟨y, hy⟩ := some_get h
    rw [limb_some hy, valB_takeq B hy]
  · rw [limb_none h, valB_take_all B h, valB_take_all B (by omega)]; simp
/-- The sum's list, one longer where it ends at k. -/
def grown (t : List Nat) (k : Nat) : List Nat := if k = t.length then t ++ [0] else t
theorem grown_val (B : Nat) (t : List Nat) (k : Nat) : valB B (grown t k) = valB B t := by
  unfold grown
  split
  · rw [valB_snoc]; simp
  · rfl
theorem step_eq {B : Nat} {x y c : Nat} : (x + y + c) % B + B * ((x + y + c) / B) = x + y + c := Nat.mod_add_div _ _
theorem carry_step {B T T' P x y c V M r q : Nat} (h1 : T' + P * x = T + P * r) (h2 : T + P * c = V + M) (h3 : r + B * q = x + y + c) : T' + P * B * q = V + (M + P * y) := by
  have e : P * (r + B * q) = P * (x + y + c) := by rw [h3]
  rw [Nat.mul_add, Nat.mul_add, Nat.mul_add, ← Nat.mul_assoc] at e
  omega
theorem RInv.step {B : Nat} (hB : 2 ≤ B) {s m : List Nat} (hs : okB B s) (hm : okB B m) {k c x : Nat} {t : List Nat} (h : RInv B s m k c t) (hgo : k < m.length ∨ c ≠ 0) (hx : (grown t k)[k]? = some x) :
    RInv B s m (k + 1) ((x + limbAt m k + c) / B) ((grown t k).set k ((x + limbAt m k + c) % B)) := by
  have hle : k ≤ max s.length m.length := by
    rcases Nat.lt_or_ge (max s.length m.length) k with h1 | h1
    · have := h.stop hB hs hm h1
      omega
    · exact h1
  have hgo' : okB B (grown t k) := by
    unfold grown; split
    · exact okB_snoc h.ok (by omega)
    · exact h.ok
  have hxl := ok_get hgo' hx
  have hyl := limb_lt (by omega : 1 ≤ B) hm k
  have hc := h.car
  refine ⟨okB_set hgo' (Nat.mod_lt _ (by omega)) _, ?_, ?_, ?_, by omega, ?_⟩
  · rw [List.length_set]; unfold grown; have := h.len; split
    · rw [List.length_append, List.length_singleton]; omega
    · omega
  · have : (x + limbAt m k + c) / B < 2 := by
      rw [Nat.div_lt_iff_lt_mul (by omega)]; omega
    omega
  · rw [valB_take_limb, Nat.pow_succ]
    exact carry_step (by rw [valB_setq B _ hx, grown_val]) h.val step_eq
  · intro hk
    have hkm : m.length ≤ k := by omega
    have hc0 : c ≠ 0 := by omega
    have hv := h.val
    rw [valB_take_all B hkm, show k = max s.length m.length by omega] at hv
    have : B ^ max s.length m.length * 1 ≤ B ^ max s.length m.length * c := Nat.mul_le_mul_left _ (by omega)
    omega
theorem RInv.done {B : Nat} (hB : 2 ≤ B) {s m : List Nat} (hs : nrm s) (hm : nrm m) {k : Nat} {t : List Nat} (h : RInv B s m k 0 t) (hk : m.length ≤ k) : digs B (valB B s + valB B m) = t := by
  have hv := h.val
  rw [valB_take_all B hk] at hv
  refine digs_unique hB h.ok (nrm_of_ge hB h.ok ?_) (by omega)
  have hl := h.len
  rcases Nat.eq_zero_or_pos t.length with h0 | h0
  · exact Or.inl (List.eq_nil_of_length_eq_zero h0)
  · right
    rcases Nat.lt_or_ge (max s.length m.length) t.length with h1 | h1
    · have := h.bnd
      have hk1 : k = max s.length m.length + 1 := by omega
      have := h.top hk1
      rw [show t.length - 1 = max s.length m.length by omega]
      omega
    · rcases Nat.le_total s.length m.length with h2 | h2
      · have := ge_of_nrm hB hm (List.length_pos_iff.1 (by omega))
        rw [show t.length - 1 = m.length - 1 by omega]
        omega
      · have := ge_of_nrm hB hs (List.length_pos_iff.1 (by omega))
        rw [show t.length - 1 = s.length - 1 by omega]
        omega
theorem grown_get {B : Nat} {s m : List Nat} {k c : Nat} {t : List Nat} (h : RInv B s m k c t) : ∃ x, (grown t k)[k]? = some x := by
  apply some_get
  have := h.len
  unfold grown
  split
  · rw [List.length_append, List.length_singleton]; omega
  · omega
end Go.Proofs.YtmienemnjikgdaaDoor.NatM
end
section
namespace Go.Proofs.YtmienemnjikgdaaDoor.NatM
/-! ### products -/
structure MInv (B : Nat) (a b : List Nat) (i j x c : Nat) (P : List Nat) : Prop where
  ok : okB B P
  len : P.length = a.length + b.length
  car : c < B
  zero : ∀ t, i + b.length ≤ t → t < P.length → P[t]? = some 0
  val : valB B P + B ^ (i + j) * c = valB B (a.take i) * valB B b + B ^ i * x * valB B (b.take j)
theorem mul_car {B c x y p : Nat} (hc : c < B) (hx : x < B) (hy : y < B) (hp : p < B) : c + (x * y + p) < B * B := by
  have h1 : x * y ≤ (B - 1) * (B - 1) := Nat.mul_le_mul (by omega) (by omega)
  obtain ⟨k, rfl⟩ : ∃ k, B = k + 1 := ⟨B - 1, by omega⟩
  simp only [Nat.add_sub_cancel] at h1
  have : (k + 1) * (k + 1) = k * k + 2 * k + 1 := by rw [Nat.add_mul, Nat.mul_add]; omega
  omega
theorem MInv.start {B : Nat} (hB : 1 ≤ B) (a b : List Nat) (x : Nat) : MInv B a b 0 0 x 0 (List.replicate (a.length + b.length) 0) :=
  ⟨okB_replicate hB _, List.length_replicate, by omega, fun t _ h => by
    rw [List.length_replicate] at h
    rw [List.getElem?_replicate, if_pos h], by rw [valB_replicate]; simp [valB]⟩
theorem MInv.step {B : Nat} {a b : List Nat} {i j x c p y : Nat} {P : List Nat} (h : MInv B a b i j x c P) (hx : x < B) (hb : okB B b) (hj : j < b.length) (hy : b[j]? = some y) (hp : P[i + j]? = some p) :
    MInv B a b i (j + 1) x ((c + (x * y + p)) / B) (P.set (i + j) ((c + (x * y + p)) % B)) := by
  have hc := h.car
  have hB : 0 < B := by omega
  have hyl := ok_get hb hy
  have hpl := ok_get h.ok hp
  refine ⟨okB_set h.ok (Nat.mod_lt _ hB) _, by rw [List.length_set]; exact h.len, ?_, ?_, ?_⟩
  · rw [Nat.div_lt_iff_lt_mul hB]; exact mul_car hc hx hyl hpl
  · intro t h1 h2
    rw [List.length_set] at h2
    rw [List.getElem?_set_ne (by omega)]
    exact h.zero t h1 h2
  · have h1 := valB_setq B ((c + (x * y + p)) % B) hp
    have h2 := valB_takeq B hy
    have h3 := h.val
    have h4 : (c + (x * y + p)) % B + B * ((c + (x * y + p)) / B) = c + (x * y + p) := Nat.mod_add_div _ _
    rw [h2, show i + (j + 1) = i + j + 1 by omega, Nat.pow_succ]
    generalize (c + (x * y + p)) % B = r at *
    generalize (c + (x * y + p)) / B = q at *
    have h5 : B ^ (i + j) = B ^ i * B ^ j := Nat.pow_add _ _ _
    rw [h5] at *
    grind
theorem MInv.row {B : Nat} {a b : List Nat} {i x c : Nat} {P : List Nat} (h : MInv B a b i b.length x c P) (hi : i < a.length) (hx : a[i]? = some x) (x' : Nat) :
    MInv B a b (i + 1) 0 x' 0 (P.set (i + b.length) c) := by
  have hc := h.car
  have hl := h.len
  refine ⟨okB_set h.ok hc _, by rw [List.length_set]; exact hl, by omega, ?_, ?_⟩
  · intro t h1 h2
    rw [List.length_set] at h2
    rw [List.getElem?_set_ne (by omega)]
    exact h.zero t (by omega) h2
  · have h1 := valB_setq B c (h.zero (i + b.length) (Nat.le_refl _) (by omega))
    have h2 := valB_takeq B hx
    have h3 := h.val
    rw [List.take_length] at h3
    rw [h2]
    simp [valB] at *
    rw [Nat.add_mul]
    omega
theorem MInv.again {B : Nat} {a b : List Nat} {i c x : Nat} {P : List Nat} (h : MInv B a b i 0 x c P) (hc : c = 0) (x' : Nat) : MInv B a b i 0 x' 0 P :=
  ⟨h.ok, h.len, by have := h.car; omega, h.zero, by have := h.val; subst hc; simp [valB] at *; exact this⟩
theorem MInv.done {B : Nat} {a b : List Nat} {x c : Nat} {P : List Nat} (h : MInv B a b a.length 0 x c P) (hc : c = 0) : valB B P = valB B a * valB B b := by
  have := h.val
  subst hc
  rw [List.take_length] at this
  simpa [valB] using this

/-! ### a number times a limb plus a limb, in place -/
structure EInv (B : Nat) (a : List Nat) (m c0 i c : Nat) (t : List Nat) : Prop where
  ok : okB B t
  len : t.length = a.length
  car : c < B
  rest : t.drop i = a.drop i
  val : valB B (t.take i) + B ^ i * c = valB B (a.take i) * m + c0
theorem EInv.start {B : Nat} {a : List Nat} (ha : okB B a) (m c0 : Nat) (hc : c0 < B) : EInv B a m c0 0 c0 a := ⟨ha, rfl, hc, rfl, by simp [valB]⟩
theorem drop_set_succ {l : List Nat} {k y : Nat} : (l.set k y).drop (k + 1) = l.drop (k + 1) := by
  rw [List.drop_set]; simp
theorem get_of_drop {s t : List Nat} {k : Nat} (h : s.drop k = t.drop k) : s[k]? = t[k]? := by
  have := congrArg (fun l : List Nat => l[0]?) h
  simpa using this
theorem drop_succ_of {s t : List Nat} {k : Nat} (h : s.drop k = t.drop k) : s.drop (k + 1) = t.drop (k + 1) := by
  have := congrArg (fun l : List Nat => l.drop 1) h
  simpa [List.drop_drop] using this
theorem EInv.step {B : Nat} {a : List Nat} {m c0 i c x : Nat} {t : List Nat} (ha : okB B a) (hm : m < B) (h : EInv B a m c0 i c t) (hx : a[i]? = some x) :
    EInv B a m c0 (i + 1) ((c + x * m) / B) (t.set i ((c + x * m) % B)) := by
  have hc := h.car
  have hB : 0 < B := by omega
  have hxl := ok_get ha hx
  have hxt : t[i]? = some x := (get_of_drop h.rest).trans hx
  refine ⟨okB_set h.ok (Nat.mod_lt _ hB) _, by rw [List.length_set]; exact h.len, ?_, ?_, ?_⟩
  · rw [Nat.div_lt_iff_lt_mul hB]
    have := mul_car (p := 0) hc hxl hm hB
    omega
  · rw [drop_set_succ]; exact drop_succ_of h.rest
  · rw [set_takeq hxt, valB_snoc, List.length_take, Nat.min_eq_left (by have := get_lt hxt; omega), valB_takeq B hx]
    have h3 := h.val
    have h4 : (c + x * m) % B + B * ((c + x * m) / B) = c + x * m := Nat.mod_add_div _ _
    generalize (c + x * m) % B = r at *
    generalize (c + x * m) / B = q at *
    rw [Nat.pow_succ]
    grind
theorem EInv.done {B : Nat} {a : List Nat} {m c0 c : Nat} {t : List Nat} (h : EInv B a m c0 a.length c t) : valB B (t ++ [c]) = valB B a * m + c0 := by
  have h1 := h.val
  rw [List.take_length] at h1
  rw [valB_snoc, h.len]
  rw [show t.take a.length = t by rw [← h.len, List.take_length]] at h1
  exact h1
theorem EInv.done0 {B : Nat} {a : List Nat} {m c0 : Nat} {t : List Nat} (h : EInv B a m c0 a.length 0 t) : valB B t = valB B a * m + c0 := by
  have := h.done
  rw [valB_snoc] at this
  simpa using this
theorem nrm_snoc {t : List Nat} {c : Nat} (h : c ≠ 0) : nrm (t ++ [c]) := by
  intro x hx
  simp at hx
  omega
theorem EInv.nrm0 {B : Nat} (hB : 2 ≤ B) {a : List Nat} {m c0 : Nat} {t : List Nat} (h : EInv B a m c0 a.length 0 t) (ha : nrm a) (hm : 1 ≤ m) : nrm t := by
  refine nrm_of_ge hB h.ok ?_
  rcases Nat.eq_zero_or_pos a.length with h0 | h0
  · exact Or.inl (List.eq_nil_of_length_eq_zero (by rw [h.len]; exact h0))
  · right
    have h1 := ge_of_nrm hB ha (List.length_pos_iff.1 h0)
    have h2 := h.done0
    have h3 : valB B a * 1 ≤ valB B a * m := Nat.mul_le_mul_left _ hm
    rw [h.len]
    omega

/-! ### division by a limb, from the top -/
structure VInv (B : Nat) (a : List Nat) (d k r : Nat) (t : List Nat) : Prop where
  ok : okB B t
  len : t.length = a.length
  rem : r < d
  rest : t.take k = a.take k
  val : valB B (t.drop k) * d + r = valB B (a.drop k)
theorem VInv.start {B : Nat} {a : List Nat} (ha : okB B a) {d : Nat} (hd : 0 < d) : VInv B a d a.length 0 a := ⟨ha, rfl, hd, rfl, by simp [valB]⟩
theorem get_of_take {s t : List Nat} {k j : Nat} (h : s.take k = t.take k) (hj : j < k) : s[j]? = t[j]? := by
  have := congrArg (fun l : List Nat => l[j]?) h
  simp only [List.getElem?_take] at this
  rwa [if_pos hj, if_pos hj] at this
theorem div_lt_base {B r x d : Nat} (hr : r < d) (hx : x < B) : (r * B + x) / d < B := by
  rw [Nat.div_lt_iff_lt_mul (by omega)]
  have : (r + 1) * B ≤ d * B := Nat.mul_le_mul_right _ hr
  rw [Nat.add_mul] at this
  rw [Nat.mul_comm B d]
  omega
theorem VInv.step {B : Nat} {a : List Nat} {d j r x : Nat} {t : List Nat} (ha : okB B a) (h : VInv B a d (j + 1) r t) (hx : a[j]? = some x) :
    VInv B a d j ((r * B + x) % d) (t.set j ((r * B + x) / d)) := by
  have hr := h.rem
  have hxl := ok_get ha hx
  have hxt : t[j]? = some x := (get_of_take h.rest (by omega)).trans hx
  have hq := div_lt_base hr hxl
  refine ⟨okB_set h.ok hq _, by rw [List.length_set]; exact h.len, Nat.mod_lt _ (by omega), ?_, ?_⟩
  · rw [List.take_set_of_le (Nat.le_refl _)]
    have := congrArg (fun l : List Nat => l.take j) h.rest
    simpa [List.take_take] using this
  · have h1 : (t.set j ((r * B + x) / d))[j]? = some ((r * B + x) / d) := by rw [List.getElem?_set_self (get_lt hxt)]
    rw [valB_dropq B h1, drop_set_succ, valB_dropq B hx]
    have h3 := h.val
    have h4 : (r * B + x) % d + d * ((r * B + x) / d) = r * B + x := Nat.mod_add_div _ _
    generalize (r * B + x) % d = r' at *
    generalize (r * B + x) / d = q at *
    grind
theorem VInv.done {B : Nat} {a : List Nat} {d r : Nat} {t : List Nat} (h : VInv B a d 0 r t) : valB B t = valB B a / d ∧ r = valB B a % d := by
  have h1 := h.val
  have h2 := h.rem
  simp at h1
  have e : r + d * valB B t = valB B a := by rw [Nat.mul_comm]; omega
  constructor
  · rw [← e, Nat.add_mul_div_left _ _ (by omega), Nat.div_eq_of_lt h2]; omega
  · rw [← e, Nat.add_mul_mod_self_left, Nat.mod_eq_of_lt h2]

/-! ### order -/
def cmpN (a b : Nat) : Int := if a < b then -1 else if b < a then 1 else 0
theorem cmp_lt {a b : Nat} (h : a < b) : cmpN a b = -1 := by unfold cmpN; rw [if_pos h]
theorem cmp_gt {a b : Nat} (h : b < a) : cmpN a b = 1 := by unfold cmpN; rw [if_neg (by omega), if_pos h]
theorem cmp_eq (a : Nat) : cmpN a a = 0 := by unfold cmpN; rw [if_neg (by omega), if_neg (by omega)]
theorem trim_ex {B : Nat} (hB : 2 ≤ B) {l : List Nat} (ho : okB B l) : ∃ k, k ≤ l.length ∧ l.take k = digs B (valB B l) := by
  have key : ∀ n, n ≤ l.length → valB B (l.take n) = valB B l → ∃ k, k ≤ l.length ∧ l.take k = digs B (valB B l) := by
    intro n
    induction n with
    | zero => intro _ hv; exact ⟨0, Nat.zero_le _, (trim0 hB ho hv).symm⟩
    | succ n ih =>
      intro hn hv
      obtain ⟨x, hx⟩ := some_get (l := l) (k := n) (by omega)
      by_cases h0 : x = 0
      · subst h0
        exact ih (by omega) (trim_stepq B (k := n + 1) (by omega) hn hv hx)
      · exact ⟨n + 1, hn, trimq hB ho (k := n + 1) hn hv hx h0⟩
  exact key l.length (Nat.le_refl _) (by rw [List.take_length])
end Go.Proofs.YtmienemnjikgdaaDoor.NatM
end
section
namespace Go.Proofs.YtmienemnjikgdaaDoor.NatM
/-! ### decimal digits -/
structure TInv (n : Nat) (ds : List Nat) (q : Nat) : Prop where
  ok : okB 10 ds
  val : valB 10 ds + 10 ^ ds.length * q = n
  fin : q = 0 → nrm ds
theorem TInv.start (n : Nat) : TInv n [] n := ⟨okB_nil _, by simp [valB], fun _ _ h => by cases h⟩
theorem TInv.step {n q : Nat} {ds : List Nat} (h : TInv n ds q) (hq : 0 < q) : TInv n (ds ++ [q % 10]) (q / 10) := by
  refine ⟨okB_snoc h.ok (Nat.mod_lt _ (by omega)), ?_, fun h0 => nrm_snoc (by omega)⟩
  rw [valB_snoc, List.length_append, List.length_singleton, Nat.pow_succ, Nat.mul_assoc, Nat.add_assoc, ← Nat.mul_add]
  have : q % 10 + 10 * (q / 10) = q := by omega
  rw [this]; exact h.val
theorem TInv.done {n : Nat} {ds : List Nat} (h : TInv n ds 0) : digs 10 n = ds := digs_unique (by omega) h.ok (h.fin rfl) (by have := h.val; omega)
theorem TInv.len {n q : Nat} {ds : List Nat} (h : TInv n ds q) (hq : 0 < q) : 10 ^ ds.length ≤ n := by
  have h1 := h.val
  have : 10 ^ ds.length * 1 ≤ 10 ^ ds.length * q := Nat.mul_le_mul_left _ hq
  omega
theorem dec_len {n m k : Nat} (h : n < 4294967296 ^ m) (hk : 10 ^ k ≤ n) : k < 10 * m := by
  rcases Nat.lt_or_ge k (10 * m) with h1 | h1
  · exact h1
  · exfalso
    have h2 : 10 ^ (10 * m) ≤ 10 ^ k := Nat.pow_le_pow_right (by omega) h1
    rw [Nat.pow_mul] at h2
    have h3 : 4294967296 ^ m ≤ (10 ^ 10) ^ m := Nat.pow_le_pow_left (by decide) m
    omega
theorem pow9 {i : Nat} (h : i < 9) : 10 ^ (9 - i) = 10 * 10 ^ (9 - (i + 1)) := by
  rw [show 9 - i = (9 - (i + 1)) + 1 by omega, Nat.pow_succ, Nat.mul_comm]
theorem inner_step {n R i chunk : Nat} {ds : List Nat} (hi : i < 9) (h : TInv n ds (chunk + 10 ^ (9 - i) * R)) (hgo : 0 < R ∨ 0 < chunk) : TInv n (ds ++ [chunk % 10]) (chunk / 10 + 10 ^ (9 - (i + 1)) * R) := by
  have hp : 0 < chunk + 10 ^ (9 - i) * R := by
    rcases hgo with h1 | h1
    · have := Nat.mul_pos (Nat.pow_pos (by omega) : 0 < 10 ^ (9 - i)) h1; omega
    · omega
  have hs := h.step hp
  rw [pow9 hi, Nat.mul_assoc] at hs
  have e1 : (chunk + 10 * (10 ^ (9 - (i + 1)) * R)) % 10 = chunk % 10 := by omega
  have e2 : (chunk + 10 * (10 ^ (9 - (i + 1)) * R)) / 10 = chunk / 10 + 10 ^ (9 - (i + 1)) * R := by omega
  rw [e1, e2] at hs
  exact hs
theorem inner_lt {i chunk : Nat} (hi : i < 9) (h : chunk < 10 ^ (9 - i)) : chunk / 10 < 10 ^ (9 - (i + 1)) := by
  rw [pow9 hi] at h
  omega
theorem inner_le {i chunk : Nat} (h : chunk < 10 ^ (9 - i)) : chunk < 1000000000 := by
  have : 10 ^ (9 - i) ≤ 10 ^ 9 := Nat.pow_le_pow_right (by omega) (by omega)
  have e : 10 ^ 9 = 1000000000 := by decide
  omega
theorem inner_pos {n R i chunk : Nat} {ds : List Nat} (h : TInv n ds (chunk + 10 ^ (9 - i) * R)) (hgo : 0 < R ∨ 0 < chunk) : 10 ^ ds.length ≤ n := by
  refine h.len ?_
  rcases hgo with h1 | h1
  · have := Nat.mul_pos (Nat.pow_pos (by omega) : 0 < 10 ^ (9 - i)) h1; omega
  · omega
theorem outer_enter {n R : Nat} {ds : List Nat} (h : TInv n ds R) : TInv n ds (R % 1000000000 + 10 ^ (9 - 0) * (R / 1000000000)) := by
  have e : 10 ^ (9 - 0) = 1000000000 := by decide
  rw [e, Nat.mod_add_div]; exact h
/-- The decimal digits of a number, the highest first. -/
def decL (n : Nat) : List Nat := if n = 0 then [0] else (digs 10 n).reverse

/-! ### turning a list round, two by two -/
def RevAt {α : Type} (xs zs : List α) (k : Nat) : Prop := zs.length = xs.length ∧ ∀ t, t < xs.length → zs[t]? = if t < k ∨ xs.length ≤ t + k then xs[xs.length - 1 - t]? else xs[t]?
theorem RevAt.start {α : Type} (xs : List α) : RevAt xs xs 0 := ⟨rfl, fun t ht => by rw [if_neg (by omega)]⟩
theorem RevAt.step {α : Type} {xs zs : List α} {k : Nat} {x y : α} (h : RevAt xs zs k) (hk : 2 * k + 1 < xs.length) (hx : zs[k]? = some x) (hy : zs[xs.length - 1 - k]? = some y) :
    RevAt xs ((zs.set k y).set (xs.length - 1 - k) x) (k + 1) := by
  obtain ⟨hl, ha⟩ := h
  have hx' := ha k (by omega)
  rw [hx, if_neg (by omega)] at hx'
  have hy' := ha (xs.length - 1 - k) (by omega)
  rw [hy, if_neg (by omega)] at hy'
  refine ⟨by simp [hl], fun t ht => ?_⟩
  by_cases h1 : t = xs.length - 1 - k
  · subst h1
    rw [List.getElem?_set_self (by simp; omega), if_pos (by omega), show xs.length - 1 - (xs.length - 1 - k) = k by omega]
    exact hx'
  · rw [List.getElem?_set_ne (by omega)]
    by_cases h2 : t = k
    · subst h2
      rw [List.getElem?_set_self (by omega), if_pos (by omega)]
      exact hy'
    · rw [List.getElem?_set_ne (by omega), ha t ht]
      by_cases h3 : t < k ∨ xs.length ≤ t + k
      · rw [if_pos h3, if_pos (by omega)]
      · rw [if_neg h3, if_neg (by omega)]
theorem RevAt.done {α : Type} {xs zs : List α} {k : Nat} (h : RevAt xs zs k) (hk : xs.length ≤ 2 * k + 1) : zs = xs.reverse := by
  obtain ⟨hl, ha⟩ := h
  apply List.ext_getElem?
  intro t
  rcases Nat.lt_or_ge t xs.length with ht | ht
  · rw [ha t ht, List.getElem?_reverse ht]
    split
    · rfl
    · congr 1; omega
  · rw [List.getElem?_eq_none (by omega), List.getElem?_eq_none (by simp; omega)]
end Go.Proofs.YtmienemnjikgdaaDoor.NatM
end
section
namespace Go.Proofs.YtmienemnjikgdaaDoor
open Go.RowKit NatM

theorem infoI : (Tryd.prog.info? 3).map (fun i => (i.zero, i.size, i.bytes)) = some (some (.int .i64 0), 1, 8) := by kernel_rfl
theorem cI_set (l : List Int) (k : Nat) (x : Int) : cI (l.set k x) = (cI l).set k (.int .i64 x) := by simp [cI, List.map_set]
set_option maxRecDepth 100000 in
set_option maxHeartbeats 1000000 in
theorem cloneI_any (p : Option Addr) (cap : Nat) (l : List Int) (w : World) (h : IntV w.heap.size w p cap l) (hl : l.length ≤ 17592186044000) :
    Calls Tryd.prog 73 #[.slice p l.length cap] w (IntPost w l) := by
  obtain ⟨i0, hi, hz0, hz1, hz2⟩ := info_parts infoI
  have H := Lib.hid h
  have hle := h.le
  have hnn := fun (W : World) (a : Option Addr) (n c : Nat) => Lib.run_eql_slice_nil (P := Tryd.prog) W 22 3 a n c 0 0 Tryd.underlying22
  rcases p with _ | a
  · have hc := h.nil rfl
    subst hc
    have hl0 : l = [] := List.eq_nil_of_length_eq_zero (by omega)
    subst hl0
    clear h
    show Calls Tryd.prog 73 #[.slice none 0 0] w (IntPost w [])
    go_enter Tryd.func73, Tryd.ntmps73
    go_wp2_with fail
    go_ret
    exact ⟨none, 0, rfl, IntO.nothing _ _, Below.refl _ _⟩
  · rcases Nat.eq_zero_or_pos l.length with hl0 | hl0
    · obtain rfl : l = [] := List.eq_nil_of_length_eq_zero hl0
      clear h
      show Calls Tryd.prog 73 #[.slice (some a) 0 cap] w (IntPost w [])
      go_enter Tryd.func73, Tryd.ntmps73
      go_wp2_with (at_builtin; refine wpList_append_own _ rfl _ _ 22 rfl w.heap.size 3 i0 (.int .i64 0) 1 8 Tryd.underlying22 hi hz0 hz1 hz2 rfl (by decide) _ 0 [] rfl (World.ownsRow_made w #[] 0 (Nat.le_refl _) (Nat.zero_le _) rfl) a 0 cap [] rfl rfl ?c1 ?c2 ?c3 ?c4 ?c5 ?_)
      case c1 => intro j u hj; simp at hj
      case c2 => intro u hu; simp at hu
      case c3 => unfold maxLen; omega
      case c4 => omega
      case c5 => simp
      intro v' w1 hown' hgrow _
      obtain ⟨p1, c1, rfl, ho1⟩ := IntO.slice_own (l := []) hown'
      have hb1 : Below w.heap.size w w1 := ((Below.refl _ _).alloc (Nat.le_refl _) _).grown hgrow (by simp) (fun j hj => by have := Option.some.inj hj; simp at this; omega)
      have HO := Lib.hid (And.intro ho1 hb1)
      clear hown' hgrow ho1 hb1
      go_wp2_with fail
      go_ret
      exact ⟨p1, c1, rfl, HO.out.1, HO.out.2⟩
    · obtain ⟨b, off, ha, hb, hc⟩ := h.cell (List.length_pos_iff.1 hl0)
      have HA := Lib.hid ha
      obtain rfl : a = ⟨b, off, none⟩ := by simpa using ha
      have HC := Lib.hid hc
      clear h hc ha
      go_enter Tryd.func73, Tryd.ntmps73
      go_wp2_with (at_builtin; refine wpList_append_own _ rfl _ _ 22 rfl w.heap.size 3 i0 (.int .i64 0) 1 8 Tryd.underlying22 hi hz0 hz1 hz2 rfl (by decide) _ 0 [] rfl (World.ownsRow_made w #[] 0 (Nat.le_refl _) (Nat.zero_le _) rfl) ⟨b, off, none⟩ l.length cap (cI l) rfl ?c0 ?c1 ?c2 ?c3 ?c4 ?c5 ?_)
      case c0 => simp [cI]
      case c1 =>
        intro j u hj
        unfold cI at hj
        rw [List.getElem?_map] at hj
        obtain ⟨x, hx, rfl⟩ := Option.map_eq_some_iff.1 hj
        exact HC.out j x hx
      case c2 =>
        intro u hu
        unfold cI at hu
        obtain ⟨x, _, rfl⟩ := List.mem_map.1 hu
        rfl
      case c3 => unfold maxLen; omega
      case c4 => omega
      intro v' w1 hown' hgrow _
      obtain ⟨p1, c1, rfl, ho1⟩ := IntO.slice_own (l := l) (by simpa using hown')
      have hb1 : Below w.heap.size w w1 := ((Below.refl _ _).alloc (Nat.le_refl _) _).grown hgrow (by simp) (fun j hj => by have := Option.some.inj hj; simp at this; omega)
      have HO := Lib.hid (And.intro ho1 hb1)
      clear hown' hgrow ho1 hb1
      go_wp2_with fail
      go_ret
      exact ⟨p1, c1, by simp, HO.out.1, HO.out.2⟩
def RevRelI (w : World) (base g cap : Nat) (xs : List Int) (v2 v3 : Value) (wr : World) : Prop :=
  ∃ (k : Nat) (zs : List Int), 2 * k ≤ xs.length ∧ v2 = .int .i64 (k : Int) ∧ v3 = .int .i64 ((xs.length : Int) - 1 - (k : Int)) ∧ RevAt xs zs k ∧ wr.ownsRow base 3 1 (.slice (some ⟨g, 0, none⟩) xs.length cap) xs.length (cI zs) ∧ w.grownBy wr (some g)
def RevPostI (w : World) (base g cap : Nat) (xs : List Int) (e : Ending) (w' : World) : Prop :=
  e = .returned (.tuple #[]) ∧ w'.ownsRow base 3 1 (.slice (some ⟨g, 0, none⟩) xs.length cap) xs.length (cI xs.reverse) ∧ w.grownBy w' (some g)

end Go.Proofs.YtmienemnjikgdaaDoor
end
section
namespace Go.Proofs.YtmienemnjikgdaaDoor
open Go.RowKit WordM

/-- of two numbers -/
def cmpInt (x y : Int) : Int := if x < y then -1 else if y < x then 1 else 0
theorem cmpInt_lt {x y : Int} (h : x < y) : cmpInt x y = -1 := by unfold cmpInt; rw [if_pos h]
theorem cmpInt_gt {x y : Int} (h : y < x) : cmpInt x y = 1 := by unfold cmpInt; rw [if_neg (by omega), if_pos h]
theorem cmpInt_self (x : Int) : cmpInt x x = 0 := by unfold cmpInt; rw [if_neg (by omega), if_neg (by omega)]
theorem isNaN_any (x : Int) (w : World) : Calls Tryd.prog 75 #[.int .i64 x] w fun e w' => e = .returned (.bool false) ∧ w = w' := by
  go_enter Tryd.func75, Tryd.ntmps75
  go_wp2
  go_ret
  exact ⟨rfl, rfl⟩
theorem compare_any (x y : Int) (w : World) : Calls Tryd.prog 54 #[.int .i64 x, .int .i64 y] w fun e w' => e = .returned (.int .i64 (cmpInt x y)) ∧ w = w' := by
  rcases (by omega : x < y ∨ y < x ∨ x = y) with h | h | h
  · have hc := cmpInt_lt h
    have HC := Lib.hid hc
    clear hc
    go_enter Tryd.func54, Tryd.ntmps54
    go_wp2_with (go_at_call 75; refine (isNaN_any _ _).mono ?_; rintro e w' ⟨rfl, rfl⟩)
    go_ret
    exact ⟨by rw [HC.out]; rfl, rfl⟩
  · have hc := cmpInt_gt h
    have HC := Lib.hid hc
    have h' : ¬ x < y := by omega
    clear hc
    go_enter Tryd.func54, Tryd.ntmps54
    go_wp2_with (go_at_call 75; refine (isNaN_any _ _).mono ?_; rintro e w' ⟨rfl, rfl⟩)
    go_ret
    exact ⟨by rw [HC.out]; rfl, rfl⟩
  · subst h
    have hc := cmpInt_self x
    have HC := Lib.hid hc
    clear hc
    go_enter Tryd.func54, Tryd.ntmps54
    go_wp2_with (go_at_call 75; refine (isNaN_any _ _).mono ?_; rintro e w' ⟨rfl, rfl⟩)
    go_ret
    exact ⟨by rw [HC.out]; rfl, rfl⟩

theorem get_take_alike {a b : List Int} {j : Nat} (h : a.take j = b.take j) : ∀ i, i < j → a[i]? = b[i]? := fun i hi => by
  have e := congrArg (fun l : List Int => l[i]?) h
  simpa [List.getElem?_take, hi] using e
set_option maxHeartbeats 1000000 in
theorem scompare_any (p q : Option Addr) (n m c d : Nat) (l k : List Int) (w : World) (hn : n = l.length) (hm : m = l.length) (hlen : l.length = k.length) (h : IntV w.heap.size w p c l) (h' : IntV w.heap.size w q d k) :
    Calls Tryd.prog 55 #[.slice p n c, .slice q m d] w fun e w' => e = .returned (.int .i64 (lexC l k)) ∧ w = w' := by
  subst hm
  obtain ⟨L, hL⟩ : ∃ L, L = l.length := ⟨_, rfl⟩
  rw [← hL] at hn ⊢
  subst hn
  have hcap := h.cap
  have hle := h.le
  have hdle := h'.le
  have hdcap := h'.cap
  rw [← hL] at hle
  rw [← hlen, ← hL] at hdle
  unfold maxLen at hcap hdcap
  have H := Lib.hid (And.intro h (And.intro h' (And.intro hL hlen)))
  clear h h' hL hlen
  go_enter Tryd.func55, Tryd.ntmps55
  go_wp2_with fail
  go_loop [11] (fun v => ∃ j : Nat, j ≤ n ∧ v = .int .i64 j ∧ Hid (l.take j = k.take j)) (fun i => n - (intOf i).toNat)
  case atStart => exact ⟨0, Nat.zero_le _, rfl, by show _ = _; simp⟩
  case round =>
    obtain ⟨j, hj, rfl, ht⟩ := hrel
    by_cases hlt : j < n
    · have hnl := H.out.2.2.1
      have hkl := H.out.2.2.2
      have hne : l ≠ [] := by rintro rfl; simp at hnl; omega
      have hne' : k ≠ [] := by rintro rfl; simp at hkl; simp [hkl] at hnl; omega
      obtain ⟨b, off, rfl, hb, hc⟩ := H.out.1.cell hne
      obtain ⟨b', off', rfl, hb', hc'⟩ := H.out.2.1.cell hne'
      obtain ⟨x, hx⟩ := getI (l := l) (k := j) (by omega)
      obtain ⟨y, hy⟩ := getI (l := k) (k := j) (by omega)
      have h1 := hc j x hx
      have h2 := hc' j y hy
      have HX := Lib.hid (And.intro hx hy)
      clear hc hc' hx hy hne hne' hnl hkl
      rcases (by omega : x < y ∨ y < x ∨ x = y) with hxy | hxy | hxy
      · have hlx : lexC l k = -1 := lexC_lt j H.out.2.2.2 (get_take_alike ht.out) ⟨x, y, HX.out.1, HX.out.2, hxy⟩
        have hc := compare_any x y w
        rw [cmpInt_lt hxy] at hc
        have HC := Lib.hid (And.intro hc hlx)
        clear hc hlx
        go_wp2_with fail
        refine HC.out.1.mono ?_
        rintro e w' ⟨rfl, rfl⟩
        go_wp2_with fail
        go_ret
        exact ⟨by rw [HC.out.2]; rfl, rfl⟩
      · have hlx : lexC l k = 1 := lexC_gt j H.out.2.2.2 (get_take_alike ht.out) ⟨x, y, HX.out.1, HX.out.2, hxy⟩
        have hc := compare_any x y w
        rw [cmpInt_gt hxy] at hc
        have HC := Lib.hid (And.intro hc hlx)
        clear hc hlx
        go_wp2_with fail
        refine HC.out.1.mono ?_
        rintro e w' ⟨rfl, rfl⟩
        go_wp2_with fail
        go_ret
        exact ⟨by rw [HC.out.2]; rfl, rfl⟩
      · subst hxy
        have hc := compare_any x x w
        rw [cmpInt_self] at hc
        have HC := Lib.hid hc
        clear hc
        go_wp2_with fail
        refine HC.out.mono ?_
        rintro e w' ⟨rfl, rfl⟩
        go_wp2_with fail
        go_round
        case rel => exact ⟨j + 1, by omega, by go_num, take_alike HX.out.1 HX.out.2 ht.out⟩
        case measure => simp [intOf]; omega
    · obtain rfl : j = n := by omega
      have hlx : lexC l k = 0 := by
        have e := ht.out
        rw [H.out.2.2.1, List.take_length, H.out.2.2.2, List.take_length] at e
        rw [e, lexC_self]
      have HC := Lib.hid hlx
      clear hlx
      go_wp2_with fail
      go_ret
      exact ⟨by rw [HC.out]; rfl, rfl⟩
end Go.Proofs.YtmienemnjikgdaaDoor
end
section
namespace Go.Proofs.YtmienemnjikgdaaDoor
open Go.RowKit Go.Extern.Stop Go.Stop Go.Extern

/-- An error as this program makes it: no error, a pointer to an errorString, a Fault (with its address), and the law's foreign errors. -/
inductive Tree where
  | nil : Tree
  | leaf (a : Addr) : Tree
  | fault (b : Nat) (op : ByteArray) (pl : Int) (t : Tree) : Tree

namespace Tree
def val : Tree → Value
  | nil => .nilIface
  | leaf a => .iface 150 (.pointer (some a))
  | fault b _ _ _ => .iface 78 (.pointer (some ⟨b, 0, none⟩))

/-- The tree lies in the world: each errorString's and each Fault's block is there. -/
def lies (w : World) : Tree → Prop
  | nil => True
  | leaf a => ∃ c t, w.heap[a.block]? = some (.cells c t (0, 0))
  | fault b op pl t => w.heap[b]? = some (.cells #[.string op, .int .i64 pl, t.val] 82 (0, 0)) ∧ t.lies w ∧ t ≠ nil

def isNil : Tree → Bool
  | nil => true
  | _ => false

/-- Does errors.Is find the pointer p of the dynamic type T? -/
def hits (T : Nat) (p : Addr) : Tree → Bool
  | nil => false
  | leaf a => decide (T = 150 ∧ a = p)
  | fault b _ _ t => decide (T = 78 ∧ (⟨b, 0, none⟩ : Addr) = p) || t.hits T p

/-- The first Fault that errors.As finds: its block. -/
def first : Tree → Option Nat
  | nil => none
  | leaf _ => none
  | fault b _ _ _ => some b

def size : Tree → Nat
  | nil => 1
  | leaf _ => 1
  | fault _ _ _ t => t.size + 1
end Tree

/-- What is below stays: the tree lies in the later world, too. -/
theorem heap_lt {w : World} {b : Nat} {o : Obj} (h : w.heap[b]? = some o) : b < w.heap.size := by
  rcases Nat.lt_or_ge b w.heap.size with k | k
  · exact k
  · simp [Array.getElem?_eq_none k] at h
theorem Tree.lies_below {w w' : World} (hb : Below w.heap.size w w') : ∀ {t : Tree}, t.lies w → t.lies w'
  | .nil, _ => True.intro
  | .leaf _, ⟨c, t, h⟩ => ⟨c, t, (hb.block _ (heap_lt h)).trans h⟩
  | .fault _ _ _ t, ⟨h, ht, hn⟩ => ⟨(hb.block _ (heap_lt h)).trans h, Tree.lies_below hb (t := t) ht, hn⟩
theorem Tree.val_isNil (t : Tree) : t.isNil = true → t = .nil := by cases t <;> simp [Tree.isNil]

theorem Tree.val_shape (t : Tree) : t.val = .nilIface ∨ ∃ T x, t.val = .iface T x := by
  cases t
  · exact Or.inl rfl
  all_goals exact Or.inr ⟨_, _, rfl⟩
theorem Tree.val_held {t : Tree} (h : t ≠ .nil) : ∃ T x, t.val = .iface T x := by
  rcases t.val_shape with k | k
  · cases t <;> first | exact absurd rfl h | cases k
  · exact k

/-! ### closed facts -/
theorem isComp94 : (Tryd.prog.info? 150).map (·.comparable) = some true := by kernel_rfl
theorem isComp44 : (Tryd.prog.info? 78).map (·.comparable) = some true := by kernel_rfl
theorem isSize96 : (Tryd.prog.info? 171).map (·.size) = some 1 := by kernel_rfl
theorem isSize48 : (Tryd.prog.info? 82).map (·.size) = some 3 := by kernel_rfl
theorem typeOf94 (v : Value) (w : World) : (ReflectliteType.typeOf #[.iface 150 v]).run Tryd.prog w = .ok (.iface 125 (.agg #[.pointer (some ⟨13, 150, none⟩)])) w := by kernel_rfl
theorem typeOf44 (v : Value) (w : World) : (ReflectliteType.typeOf #[.iface 78 v]).run Tryd.prog w = .ok (.iface 125 (.agg #[.pointer (some ⟨13, 78, none⟩)])) w := by kernel_rfl
theorem comparable94 (w : World) : (callFunc 108 #[.agg #[.pointer (some ⟨13, 150, none⟩)]]).run Tryd.prog w = .ok (Next.value (.bool true)) w := by kernel_rfl
theorem comparable44 (w : World) : (callFunc 108 #[.agg #[.pointer (some ⟨13, 78, none⟩)]]).run Tryd.prog w = .ok (Next.value (.bool true)) w := by kernel_rfl
theorem methodComparable (v : Value) (w : World) : (Go.method 283 125 v "Comparable").run Tryd.prog w = .ok (108, v) w := by kernel_rfl
theorem noIs94 (v : Value) (x : TypeId) (w : World) : (Instr.typeAssert (.iface 150 v) x 127 true).run Tryd.prog w = .ok (.tuple #[.nilIface, .bool false]) w := run_typeAssert_lacksB Tryd.underlying127 (by kernel_rfl) (by kernel_rfl) v x w
theorem noIs44 (v : Value) (x : TypeId) (w : World) : (Instr.typeAssert (.iface 78 v) x 127 true).run Tryd.prog w = .ok (.tuple #[.nilIface, .bool false]) w := run_typeAssert_lacksB Tryd.underlying127 (by kernel_rfl) (by kernel_rfl) v x w
theorem noU94 (v : Value) (x : TypeId) (w : World) : (Instr.typeAssert (.iface 150 v) x 130 true).run Tryd.prog w = .ok (.tuple #[.nilIface, .bool false]) w := run_typeAssert_lacksB Tryd.underlying130 (by kernel_rfl) (by kernel_rfl) v x w
theorem hasU44 (v : Value) (x : TypeId) (w : World) : (Instr.typeAssert (.iface 78 v) x 130 true).run Tryd.prog w = .ok (.tuple #[.iface 78 v, .bool true]) w := run_typeAssert_hasB Tryd.underlying130 (by kernel_rfl) v x w
theorem noV94 (v : Value) (x : TypeId) (w : World) : (Instr.typeAssert (.iface 150 v) x 132 true).run Tryd.prog w = .ok (.tuple #[.nilIface, .bool false]) w := run_typeAssert_lacksB Tryd.underlying132 (by kernel_rfl) (by kernel_rfl) v x w
theorem methodU44 (v : Value) (w : World) : (Go.method 283 78 v "Unwrap").run Tryd.prog w = .ok (102, v) w := by kernel_rfl
theorem noIsN (x : TypeId) (w : World) : (Instr.typeAssert .nilIface x 127 true).run Tryd.prog w = .ok (.tuple #[.nilIface, .bool false]) w := by kernel_rfl
theorem noUN (x : TypeId) (w : World) : (Instr.typeAssert .nilIface x 130 true).run Tryd.prog w = .ok (.tuple #[.nilIface, .bool false]) w := by kernel_rfl
theorem noVN (x : TypeId) (w : World) : (Instr.typeAssert .nilIface x 132 true).run Tryd.prog w = .ok (.tuple #[.nilIface, .bool false]) w := by kernel_rfl
end Go.Proofs.YtmienemnjikgdaaDoor
end
section
namespace Go.Proofs.YtmienemnjikgdaaDoor
open Go.RowKit Go.Extern.Stop Go.Stop Go.Extern

/-- What holds of a target: its block is there. -/
def Target (w : World) (p : Addr) : Prop := ∃ c t, w.heap[p.block]? = some (.cells c t (0, 0))
theorem Target.below {w w' : World} {p : Addr} (hb : Below w.heap.size w w') : Target w p → Target w' p := fun ⟨c, t, h⟩ => ⟨c, t, (hb.block _ (heap_lt h)).trans h⟩

theorem unwrap44 (b : Nat) (op : ByteArray) (pl : Int) (v : Value) (w : World) (h : w.heap[b]? = some (.cells #[.string op, .int .i64 pl, v] 82 (0, 0))) :
    Calls Tryd.prog 102 #[.pointer (some ⟨b, 0, none⟩)] w fun e w' => e = .returned v ∧ w = w' := by
  have hc : w.cell? ⟨b, 2, none⟩ = some v := by simp [World.cell?, h]
  go_enter Tryd.func102, Tryd.ntmps102
  go_wp2
  go_ret
  exact ⟨rfl, rfl⟩
/-- What the round of errors.is needs of the comparison with the target. -/
theorem eql_hit (w : World) (T : Nat) (a : Addr) (hT : T = 150 ∨ T = 78) :
    (binOp .eql 28 (.iface T (.pointer (some a))) (.iface T (.pointer (some a)))).run Tryd.prog w = .ok (.bool true) w := by
  rcases hT with rfl | rfl
  · obtain ⟨i, hi, hcmp⟩ := Option.map_eq_some_iff.1 isComp94
    obtain ⟨j, hj, hjs⟩ := Option.map_eq_some_iff.1 isSize96
    exact run_eql_iface_ptr_same (P := Tryd.prog) w a Tryd.underlying28 Tryd.underlying150 hi hcmp hj
  · obtain ⟨i, hi, hcmp⟩ := Option.map_eq_some_iff.1 isComp44
    obtain ⟨j, hj, hjs⟩ := Option.map_eq_some_iff.1 isSize48
    exact run_eql_iface_ptr_same (P := Tryd.prog) w a Tryd.underlying28 Tryd.underlying78 hi hcmp hj
theorem eql_miss (w : World) (T : Nat) (a p : Addr) (hT : T = 150 ∨ T = 78) (hne : a ≠ p) (ha : Target w a) (hp : Target w p) :
    (binOp .eql 28 (.iface T (.pointer (some a))) (.iface T (.pointer (some p)))).run Tryd.prog w = .ok (.bool false) w := by
  obtain ⟨c, t, ha⟩ := ha
  obtain ⟨c', t', hp⟩ := hp
  rcases hT with rfl | rfl
  · obtain ⟨i, hi, hcmp⟩ := Option.map_eq_some_iff.1 isComp94
    obtain ⟨j, hj, hjs⟩ := Option.map_eq_some_iff.1 isSize96
    exact run_eql_iface_ptr_other (P := Tryd.prog) w Tryd.underlying28 Tryd.underlying150 hi hcmp hj (by rw [hjs]; decide) hne ha hp
  · obtain ⟨i, hi, hcmp⟩ := Option.map_eq_some_iff.1 isComp44
    obtain ⟨j, hj, hjs⟩ := Option.map_eq_some_iff.1 isSize48
    exact run_eql_iface_ptr_other (P := Tryd.prog) w Tryd.underlying28 Tryd.underlying78 hi hcmp hj (by rw [hjs]; decide) hne ha hp
theorem eql_types (w : World) (T U : Nat) (x y : Value) (hne : T ≠ U) :
    (binOp .eql 28 (.iface T x) (.iface U y)).run Tryd.prog w = .ok (.bool false) w :=
  run_eql_iface_types (P := Tryd.prog) T U x y Tryd.underlying28 hne w
theorem eql_nil (w : World) (T : Nat) (x : Value) :
    (binOp .eql 28 .nilIface (.iface T x)).run Tryd.prog w = .ok (.bool false) w :=
  run_eql_iface_nil_left (P := Tryd.prog) w T x Tryd.underlying28

/-- Whether the error at the tree's head is the target itself. -/
def Tree.atHead (T : Nat) (p : Addr) : Tree → Bool
  | .leaf a => decide (T = 150 ∧ a = p)
  | .fault b _ _ _ => decide (T = 78 ∧ (⟨b, 0, none⟩ : Addr) = p)
  | _ => false
theorem eql_head (w : World) (T : Nat) (p : Addr) (t : Tree) (hT : T = 150 ∨ T = 78) (hl : t.lies w) (hp : Target w p) :
    (binOp .eql 28 t.val (.iface T (.pointer (some p)))).run Tryd.prog w = .ok (.bool (t.atHead T p)) w := by
  cases t with
  | nil => exact eql_nil w T _
  | leaf a =>
    by_cases h : T = 150
    · subst h
      by_cases k : a = p
      · subst k
        rw [show (Tree.leaf a).atHead 150 a = true from decide_eq_true ⟨rfl, rfl⟩]
        exact eql_hit w _ a hT
      · rw [show (Tree.leaf a).atHead 150 p = false from decide_eq_false fun e => k e.2]
        exact eql_miss w _ a p hT k hl hp
    · rw [show (Tree.leaf a).atHead T p = false from decide_eq_false fun e => h e.1]
      exact eql_types w _ T _ _ (Ne.symm h)
  | fault b op pl t =>
    by_cases h : T = 78
    · subst h
      by_cases k : (⟨b, 0, none⟩ : Addr) = p
      · subst k
        rw [show (Tree.fault b op pl t).atHead 78 ⟨b, 0, none⟩ = true from decide_eq_true ⟨rfl, rfl⟩]
        exact eql_hit w _ ⟨b, 0, none⟩ hT
      · rw [show (Tree.fault b op pl t).atHead 78 p = false from decide_eq_false fun e => k e.2]
        exact eql_miss w _ ⟨b, 0, none⟩ p hT k ⟨_, _, hl.1⟩ hp
    · rw [show (Tree.fault b op pl t).atHead T p = false from decide_eq_false fun e => h e.1]
      exact eql_types w _ T _ _ (Ne.symm h)
end Go.Proofs.YtmienemnjikgdaaDoor
end
section
namespace Go.Proofs.YtmienemnjikgdaaDoor
open Go.RowKit Go.Extern.Stop Go.Stop Go.Extern

theorem asValueOf46 (t : Addr) (w : World) : (callFunc 64 #[.iface 80 (.pointer (some t))]).run Tryd.prog w
    = .ok (Next.value (.agg #[.pointer (some ⟨13, 80, none⟩), .pointer (some ⟨w.heap.size, 0, none⟩), .int .u64 150])) (w.alloc (.cells #[.pointer (some t)] 80)) := by kernel_rfl
theorem asValueOf44 (t : Addr) (w : World) : (callFunc 64 #[.iface 78 (.pointer (some t))]).run Tryd.prog w
    = .ok (Next.value (.agg #[.pointer (some ⟨13, 78, none⟩), .pointer (some ⟨w.heap.size, 0, none⟩), .int .u64 150])) (w.alloc (.cells #[.pointer (some t)] 78)) := by kernel_rfl
theorem asType46 (a : Addr) (w : World) : (callFunc 65 #[.agg #[.pointer (some ⟨13, 80, none⟩), .pointer (some a), .int .u64 150]]).run Tryd.prog w
    = .ok (Next.value (.iface 125 (.agg #[.pointer (some ⟨13, 80, none⟩)]))) w := by kernel_rfl
theorem asMethodKind (h : Value) (w : World) : (Go.method 283 125 (.agg #[h]) "Kind").run Tryd.prog w = .ok (98, h) w := by kernel_rfl
theorem asMethodElem (h : Value) (w : World) : (Go.method 283 125 (.agg #[h]) "Elem").run Tryd.prog w = .ok (109, .agg #[h]) w := by kernel_rfl
theorem asMethodImplements (h : Value) (w : World) : (Go.method 283 125 (.agg #[h]) "Implements").run Tryd.prog w = .ok (110, .agg #[h]) w := by kernel_rfl
theorem asMethodAssignableTo (h : Value) (w : World) : (Go.method 283 125 (.agg #[h]) "AssignableTo").run Tryd.prog w = .ok (107, .agg #[h]) w := by kernel_rfl
theorem asKind46 (w : World) : (callFunc 98 #[.pointer (some ⟨13, 80, none⟩)]).run Tryd.prog w = .ok (Next.value (.int .u8 22)) w := by kernel_rfl
theorem asKind44 (w : World) : (callFunc 98 #[.pointer (some ⟨13, 78, none⟩)]).run Tryd.prog w = .ok (Next.value (.int .u8 22)) w := by kernel_rfl
theorem asElem46 (w : World) : (callFunc 109 #[.agg #[.pointer (some ⟨13, 80, none⟩)]]).run Tryd.prog w = .ok (Next.value (.iface 125 (.agg #[.pointer (some ⟨13, 78, none⟩)]))) w := by kernel_rfl
theorem asImplements (w : World) : (callFunc 110 #[.agg #[.pointer (some ⟨13, 78, none⟩)], .iface 125 (.agg #[.pointer (some ⟨13, 28, none⟩)])]).run Tryd.prog w = .ok (Next.value (.bool true)) w := by kernel_rfl
theorem asTypeOf44 (v : Value) (w : World) : (callFunc 62 #[.iface 78 v]).run Tryd.prog w = .ok (Next.value (.iface 125 (.agg #[.pointer (some ⟨13, 78, none⟩)]))) w := by kernel_rfl
theorem asTypeOf94 (v : Value) (w : World) : (callFunc 62 #[.iface 150 v]).run Tryd.prog w = .ok (Next.value (.iface 125 (.agg #[.pointer (some ⟨13, 150, none⟩)]))) w := by kernel_rfl
theorem asAssignable44 (w : World) : (callFunc 107 #[.agg #[.pointer (some ⟨13, 78, none⟩)], .iface 125 (.agg #[.pointer (some ⟨13, 78, none⟩)])]).run Tryd.prog w = .ok (Next.value (.bool true)) w := by kernel_rfl
theorem asAssignable94 (w : World) : (callFunc 107 #[.agg #[.pointer (some ⟨13, 150, none⟩)], .iface 125 (.agg #[.pointer (some ⟨13, 78, none⟩)])]).run Tryd.prog w = .ok (Next.value (.bool false)) w := by kernel_rfl
theorem noAs94 (v : Value) (x : TypeId) (w : World) : (Instr.typeAssert (.iface 150 v) x 137 true).run Tryd.prog w = .ok (.tuple #[.nilIface, .bool false]) w := run_typeAssert_lacksB Tryd.underlying137 (by kernel_rfl) (by kernel_rfl) v x w

/-! ### the entries that read or write memory -/
theorem parts46 (a : Addr) (w : World) : (ReflectliteValue.parts (.agg #[.pointer (some ⟨13, 80, none⟩), .pointer (some a), .int .u64 150])).run Tryd.prog w = .ok (some (80, a, 150)) w := by kernel_rfl
theorem asIsNil (a p : Addr) (W : World) (ha : W.cell? a = some (.pointer (some p))) :
    (callFunc 66 #[.agg #[.pointer (some ⟨13, 80, none⟩), .pointer (some a), .int .u64 150]]).run Tryd.prog W = .ok (Next.value (.bool false)) W := by
  rw [@run_callFunc_extern Tryd.prog 66 _ (ReflectliteValue.method (ReflectliteValue.valueError "reflectlite.Value.IsNil" 0) ReflectliteValue.isNil) Tryd.func66 (by kernel_rfl) (by kernel_rfl) (by kernel_rfl) (by kernel_rfl)]
  refine congrArg (fun r => Result.andThen r fun v w' => .ok (Next.value v) w') (?_ : _ = Result.ok (.bool false) W)
  change Sem.run Tryd.prog (ReflectliteValue.parts _ >>= _) W = _
  simp only [Sem.run_bind, Array.getLit, List.getElem_toArray, List.getElem_cons_zero, parts46, Result.andThen]
  simp [ReflectliteValue.isNil, loadVar, isAgg, underlying, Tryd.underlying80, ha, Result.andThen]
theorem elemOf46 (w : World) : (Rtype.elem? 80).run Tryd.prog w = .ok (some 78) w := by kernel_rfl
theorem mk44 (p : Addr) (w : World) : (ReflectliteValue.mk 78 p ReflectliteValue.flagAddr).run Tryd.prog w = .ok (.agg #[.pointer (some ⟨13, 78, none⟩), .pointer (some p), .int .u64 406]) w := by kernel_rfl
theorem asElemV (a p : Addr) (W : World) (ha : W.cell? a = some (.pointer (some p))) :
    (callFunc 78 #[.agg #[.pointer (some ⟨13, 80, none⟩), .pointer (some a), .int .u64 150]]).run Tryd.prog W
      = .ok (Next.value (.agg #[.pointer (some ⟨13, 78, none⟩), .pointer (some p), .int .u64 406])) W := by
  rw [@run_callFunc_extern Tryd.prog 78 _ (ReflectliteValue.method (ReflectliteValue.valueError "reflectlite.Value.Elem" 0) ReflectliteValue.elem) Tryd.func78 (by kernel_rfl) (by kernel_rfl) (by kernel_rfl) (by kernel_rfl)]
  refine congrArg (fun r => Result.andThen r fun v w' => .ok (Next.value v) w') (?_ : _ = Result.ok (.agg #[.pointer (some ⟨13, 78, none⟩), .pointer (some p), .int .u64 406]) W)
  change Sem.run Tryd.prog (ReflectliteValue.parts _ >>= _) W = _
  simp only [Sem.run_bind, Array.getLit, List.getElem_toArray, List.getElem_cons_zero, parts46, Result.andThen]
  simp [ReflectliteValue.elem, loadVar, isAgg, underlying, Tryd.underlying80, ha, Result.andThen, elemOf46, mk44]
theorem parts44a (a : Addr) (w : World) : (ReflectliteValue.parts (.agg #[.pointer (some ⟨13, 78, none⟩), .pointer (some a), .int .u64 406])).run Tryd.prog w = .ok (some (78, a, 406)) w := by kernel_rfl
theorem parts44 (a : Addr) (w : World) : (ReflectliteValue.parts (.agg #[.pointer (some ⟨13, 78, none⟩), .pointer (some a), .int .u64 150])).run Tryd.prog w = .ok (some (78, a, 150)) w := by kernel_rfl
theorem direct44 (w : World) : (Rtype.directlyAssignable 78 78).run Tryd.prog w = .ok true w := by kernel_rfl
theorem asSet (ta b e : Addr) (old : Value) (W : World) (hb : W.cell? b = some (.pointer (some e))) (ht : W.cell? ta = some old) (hf : W.frozen? ta = false) :
    (callFunc 79 #[.agg #[.pointer (some ⟨13, 78, none⟩), .pointer (some ta), .int .u64 406], .agg #[.pointer (some ⟨13, 78, none⟩), .pointer (some b), .int .u64 150]]).run Tryd.prog W
      = .ok (Next.value (.tuple #[])) (W.setCell ta (.pointer (some e))) := by
  rw [@run_callFunc_extern Tryd.prog 79 _ ReflectliteValue.set Tryd.func79 (by kernel_rfl) (by kernel_rfl) (by kernel_rfl) (by kernel_rfl)]
  refine congrArg (fun r => Result.andThen r fun v w' => .ok (Next.value v) w') (?_ : _ = Result.ok (.tuple #[]) (W.setCell ta (.pointer (some e))))
  change Sem.run Tryd.prog (ReflectliteValue.parts _ >>= _) W = _
  simp only [Sem.run_bind, Array.getLit, List.getElem_toArray, List.getElem_cons_zero, List.getElem_cons_succ, parts44a, parts44, Result.andThen]
  simp [ReflectliteValue.flagAddr, loadVar, isAgg, underlying, Tryd.underlying78, hb, Result.andThen, direct44, storeVar, Value.cells, storeCells, Addr.add]
  rw [run_store Tryd.prog W ta _ _ (by rfl)]
  simp [ht, hf]
end Go.Proofs.YtmienemnjikgdaaDoor
end
section
namespace Go.Proofs.YtmienemnjikgdaaDoor
open Go.RowKit Go.Extern.Stop Go.Stop Go.Extern

theorem eql_isNil (t : Tree) (w : World) : (binOp .eql 28 t.val .nilIface).run Tryd.prog w = .ok (.bool t.isNil) w := by
  cases t <;> kernel_rfl

theorem guard_isNil (t : Tree) (n : Nat) (w : World) : (eqGuard .eql 28 (.tmp n) (.const .nilIface) t.val .nilIface).run Tryd.prog w = .ok () w := by
  cases t <;> kernel_rfl

/-- What the loop of errors.is hands from round to round. -/
def IsRel (w : World) (T : Nat) (p : Addr) (n : Nat) (t : Tree) (k : Nat) (v : Value) (wr : World) : Prop :=
  ∃ t' : Tree, v = t'.val ∧ t'.lies wr ∧ Target wr p ∧ t'.size ≤ k ∧ k ≤ n ∧ t'.hits T p = t.hits T p ∧ Below w.heap.size w wr

def IsPost (w : World) (T : Nat) (p : Addr) (t : Tree) (e : Ending) (w' : World) : Prop := e = .returned (.bool (t.hits T p)) ∧ Below w.heap.size w w'

theorem IsRel.next {w : World} {T : Nat} {p : Addr} {n : Nat} {t : Tree} {k k' : Nat} {wr : World} {t' : Tree} (h1 : t'.lies wr) (h2 : Target wr p) (h3 : t'.size ≤ k') (h4 : k' < k) (h5 : k ≤ n) (h6 : t'.hits T p = t.hits T p) (h7 : Below w.heap.size w wr) :
    IsRel w T p n t k' t'.val wr := ⟨t', rfl, h1, h2, h3, by omega, h6, h7⟩

set_option maxRecDepth 100000 in
set_option maxHeartbeats 1000000 in
theorem is_any (n : Nat) : ∀ (t : Tree) (w : World) (T : Nat) (p : Addr), t.size ≤ n → t.lies w → Target w p → (T = 150 ∨ T = 78) →
    Calls Tryd.prog 63 #[t.val, .iface T (.pointer (some p)), .bool true] w (IsPost w T p t) := by
  induction n with
  | zero =>
    intro t w T p hn
    cases t <;> simp [Tree.size] at hn
  | succ n ih =>
    intro t w T p hn hl hp hT
    go_enter Tryd.func63, Tryd.ntmps63
    go_wp2
    go_loopg [0] (n + 1) (fun k v wr => IsRel w T p (n + 1) t k v wr)
    case atStart => exact ⟨t, rfl, hl, hp, hn, Nat.le_refl _, rfl, Below.refl _ _⟩
    case round =>
      obtain ⟨t', rfl, hl', hp', hk, hkn, hh, hb⟩ := hrel
      have he := eql_head wr T p t' hT hl' hp'
      have HH := Lib.hid hh
      clear hh hl hp hn
      cases t' with
      | nil =>
        have hv : Tree.nil.val = .nilIface := rfl
        rw [hv] at he
        have ha : Tree.nil.atHead T p = false := rfl
        rw [ha] at he
        clear ha
        have f1 := noIsN
        have f2 := noUN
        have f3 := noVN
        go_wp2
        go_ret
        exact ⟨congrArg (fun b => Ending.returned (.bool b)) HH.out, hb⟩
      | leaf a =>
        have hv : (Tree.leaf a).val = .iface 150 (.pointer (some a)) := rfl
        rw [hv] at he
        have f1 := noIs94
        have f2 := noU94
        have f3 := noV94
        have e1 : (Tree.leaf a).hits T p = (Tree.leaf a).atHead T p := rfl
        rw [e1] at HH
        by_cases ha : (Tree.leaf a).atHead T p = true
        · rw [ha] at HH he
          clear ha
          go_wp2
          go_ret
          exact ⟨congrArg (fun b => Ending.returned (.bool b)) HH.out, hb⟩
        · have ha : (Tree.leaf a).atHead T p = false := by simpa using ha
          rw [ha] at HH he
          clear ha
          go_wp2
          go_ret
          exact ⟨congrArg (fun b => Ending.returned (.bool b)) HH.out, hb⟩
      | fault b op pl t1 =>
        have hv : (Tree.fault b op pl t1).val = .iface 78 (.pointer (some ⟨b, 0, none⟩)) := rfl
        rw [hv] at he
        have f1 := noIs44
        have f2 := hasU44
        have mU := methodU44
        have hn1 := eql_isNil t1
        have hn2 := guard_isNil t1
        have hnn : t1.isNil = false := by
          have := hl'.2.2
          cases t1 <;> first | rfl | exact absurd rfl this
        have e1 : (Tree.fault b op pl t1).hits T p = ((Tree.fault b op pl t1).atHead T p || t1.hits T p) := rfl
        rw [e1] at HH
        by_cases ha : (Tree.fault b op pl t1).atHead T p = true
        · rw [ha] at HH he
          clear ha
          go_wp2
          go_ret
          exact ⟨congrArg (fun b => Ending.returned (.bool b)) HH.out, hb⟩
        · have ha : (Tree.fault b op pl t1).atHead T p = false := by simpa using ha
          rw [ha] at HH he
          clear ha
          go_wp2_with (go_at_call 102; refine (unwrap44 b op pl t1.val _ hl'.1).mono ?_; rintro e w' ⟨rfl, rfl⟩)
          go_roundg t1.size
          case rel => exact IsRel.next hl'.2.1 hp' (Nat.le_refl _) (by simp only [Tree.size] at hk; omega) hkn (by rw [← HH.out]; simp) hb
          case measure => simp only [Tree.size] at hk; omega

/-- errors.Is: a nil error; any other. -/
theorem errorsIs (t : Tree) (w : World) (T : Nat) (p : Addr) (hl : t.lies w) (hp : Target w p) (hT : T = 150 ∨ T = 78) :
    Calls Tryd.prog 39 #[t.val, .iface T (.pointer (some p))] w (IsPost w T p t) := by
  have h8 := @run_callFunc_extern Tryd.prog 62 _ ReflectliteType.typeOf Tryd.func62 (by kernel_rfl) (by kernel_rfl) (by kernel_rfl) (by kernel_rfl)
  have mR := methodComparable
  have hn1 := eql_isNil t
  have hn2 := guard_isNil t
  by_cases hnn : t.isNil = true
  · obtain rfl := Tree.val_isNil _ hnn
    have he := eql_nil w T (.pointer (some p))
    have hv : Tree.nil.val = .nilIface := rfl
    rw [hv]
    go_enter Tryd.func39, Tryd.ntmps39
    go_wp2
    go_ret
    exact ⟨rfl, Below.refl _ _⟩
  · have hnn : t.isNil = false := by simpa using hnn
    rcases hT with rfl | rfl
    · have tT := typeOf94
      have cT := comparable94
      go_enter Tryd.func39, Tryd.ntmps39
      go_wp2_with (go_at_call 63; refine (is_any t.size t _ _ p (Nat.le_refl _) hl hp (Or.inl rfl)).mono ?_; rintro e w' ⟨rfl, hb⟩)
      go_ret
      exact ⟨rfl, hb⟩
    · have tT := typeOf44
      have cT := comparable44
      go_enter Tryd.func39, Tryd.ntmps39
      go_wp2_with (go_at_call 63; refine (is_any t.size t _ _ p (Nat.le_refl _) hl hp (Or.inr rfl)).mono ?_; rintro e w' ⟨rfl, hb⟩)
      go_ret
      exact ⟨rfl, hb⟩
end Go.Proofs.YtmienemnjikgdaaDoor
end
section
namespace Go.Proofs.YtmienemnjikgdaaDoor
open Go.RowKit Go.Extern.Stop Go.Stop Go.Extern

/-- The target variable is there and may be written. -/
def Slot (w : World) (g : Nat) : Prop := g < w.heap.size ∧ (∃ old, w.cell? ⟨g, 0, none⟩ = some old) ∧ w.frozen? ⟨g, 0, none⟩ = false
theorem Slot.below {w w' : World} {g : Nat} (hb : Below w.heap.size w w') (h : Slot w g) : Slot w' g := by
  obtain ⟨h1, ⟨old, h2⟩, h3⟩ := h
  exact ⟨Nat.lt_of_lt_of_le h1 hb.size, ⟨old, (hb.cell (p := ⟨g, 0, none⟩) h1).trans h2⟩, (hb.frozen (p := ⟨g, 0, none⟩) h1).trans h3⟩

/-- reflectlite's Value of the target: its three cells in block v; the target's address in block u. -/
def Held (w : World) (v u g : Nat) : Prop := v < w.heap.size ∧ u < w.heap.size ∧ w.cell? ⟨v, 0, none⟩ = some (.pointer (some ⟨13, 80, none⟩)) ∧ w.cell? ⟨v, 1, none⟩ = some (.pointer (some ⟨u, 0, none⟩)) ∧ w.cell? ⟨v, 2, none⟩ = some (.int .u64 150) ∧ w.cell? ⟨u, 0, none⟩ = some (.pointer (some ⟨g, 0, none⟩))
theorem Held.below {w w' : World} {v u g : Nat} (hb : Below w.heap.size w w') (h : Held w v u g) : Held w' v u g := by
  obtain ⟨h1, h2, h3, h4, h5, h6⟩ := h
  exact ⟨Nat.lt_of_lt_of_le h1 hb.size, Nat.lt_of_lt_of_le h2 hb.size, (hb.cell (p := ⟨v, 0, none⟩) h1).trans h3, (hb.cell (p := ⟨v, 1, none⟩) h1).trans h4, (hb.cell (p := ⟨v, 2, none⟩) h1).trans h5, (hb.cell (p := ⟨u, 0, none⟩) h2).trans h6⟩

def AsPost (w : World) (g : Nat) (t : Tree) (e : Ending) (w' : World) : Prop :=
  (t.first = none ∧ e = .returned (.bool false) ∧ Below w.heap.size w w') ∨
  (∃ b, t.first = some b ∧ e = .returned (.bool true) ∧ Below g w w' ∧ w'.cell? ⟨g, 0, none⟩ = some (.pointer (some ⟨b, 0, none⟩)) ∧ w'.frozen? ⟨g, 0, none⟩ = false)

def AsRel (w : World) (g v u n : Nat) (t : Tree) (k : Nat) (x : Value) (wr : World) : Prop :=
  ∃ t' : Tree, x = t'.val ∧ t'.isNil = false ∧ t'.lies wr ∧ Slot wr g ∧ Held wr v u g ∧ t'.size ≤ k ∧ k ≤ n ∧ t'.first = t.first ∧ Below w.heap.size w wr

theorem eql_isNil' (t : Tree) (w : World) : (binOp .eql 28 t.val .nilIface).run Tryd.prog w = .ok (.bool t.isNil) w := eql_isNil t w

set_option maxRecDepth 100000 in
set_option maxHeartbeats 2000000 in
theorem as_any (n : Nat) : ∀ (t : Tree) (w : World) (g u : Nat), t.size ≤ n → t.isNil = false → t.lies w → Slot w g → u < w.heap.size → w.cell? ⟨u, 0, none⟩ = some (.pointer (some ⟨g, 0, none⟩)) →
    Calls Tryd.prog 67 #[t.val, .iface 80 (.pointer (some ⟨g, 0, none⟩)), .agg #[.pointer (some ⟨13, 80, none⟩), .pointer (some ⟨u, 0, none⟩), .int .u64 150], .iface 125 (.agg #[.pointer (some ⟨13, 78, none⟩)])] w (AsPost w g t) := by
  induction n with
  | zero =>
    intro t w g u hn
    cases t <;> simp [Tree.size] at hn
  | succ n ih =>
    intro t w g u hn hnil hl hs hu hcu
    have hB0 : Below w.heap.size w (w.alloc (.cells #[.pointer (some ⟨13, 80, none⟩), .pointer (some ⟨u, 0, none⟩), .int .u64 150] 109)) := (Below.refl _ _).alloc (Nat.le_refl _) _
    have hH0 : Held (w.alloc (.cells #[.pointer (some ⟨13, 80, none⟩), .pointer (some ⟨u, 0, none⟩), .int .u64 150] 109)) w.heap.size u g :=
      ⟨by simp, by simp; omega, by simp, by simp, by simp, (hB0.cell (p := ⟨u, 0, none⟩) hu).trans hcu⟩
    have hl0 := Tree.lies_below hB0 (t := t) hl
    have hs0 := hs.below hB0
    have hg : g < w.heap.size := hs.1
    clear hl hs hcu
    go_enter Tryd.func67, Tryd.ntmps67
    go_wp2_with fail
    go_loopg [0] (n + 1) (fun k x wr => AsRel w g w.heap.size u (n + 1) t k x wr)
    case atStart => exact ⟨t, rfl, hnil, hl0, hs0, hH0, hn, Nat.le_refl _, rfl, hB0⟩
    case round =>
      clear hl0 hs0 hH0 hnil hn hB0 hu
      obtain ⟨t', rfl, hnil', hl', hs', hH', hk, hkn, hh, hb⟩ := hrel
      have HH := Lib.hid hh
      clear hh
      have mA := asMethodAssignableTo
      cases t' with
      | nil => cases hnil'
      | leaf a =>
        have hv : (Tree.leaf a).val = .iface 150 (.pointer (some a)) := rfl
        have f0 := asTypeOf94
        have f1 := asAssignable94
        have f2 := noAs94
        have f3 := noU94
        have f4 := noV94
        clear hnil' hl' hs' hH'
        go_wp2
        go_ret
        exact Or.inl ⟨HH.out.symm, rfl, hb⟩
      | fault b op pl t1 =>
        have hv : (Tree.fault b op pl t1).val = .iface 78 (.pointer (some ⟨b, 0, none⟩)) := rfl
        obtain ⟨hs1, ⟨old, hs2⟩, hs3⟩ := hs'
        obtain ⟨v1, u1, c0, c1, c2, cu⟩ := hH'
        have f0 := asTypeOf44
        have f1 := asAssignable44
        have f2 := asElemV ⟨u, 0, none⟩ ⟨g, 0, none⟩ wr cu
        have f3 := asValueOf44
        have f4 := asSet ⟨g, 0, none⟩ ⟨wr.heap.size, 0, none⟩ ⟨b, 0, none⟩ old (wr.alloc (.cells #[.pointer (some ⟨b, 0, none⟩)] 78)) (by simp) (by rw [World.cell?_alloc_lt _ _ ⟨g, 0, none⟩ hs1]; exact hs2) (by rw [World.frozen?_alloc_old _ _ ⟨g, 0, none⟩ (Nat.ne_of_lt hs1)]; exact hs3)
        clear hnil' hl' hk hkn
        go_wp2
        go_ret
        exact Or.inr ⟨b, HH.out.symm, rfl, ((hb.mono (Nat.le_of_lt hg)).setCell (Nat.le_refl _) _).alloc (by simp; omega) _, (World.cell?_alloc_lt _ _ _ (by simpa using hs1)).trans (World.cell?_setCell_same _ _ _ hs2), (World.frozen?_alloc_old _ _ _ (by simp; omega)).trans (by simpa using hs3)⟩
/-- errors' own variable errorType holds the handle of the type 'error'. -/
def TypeVar (w : World) : Prop := w.cell? ⟨12, 0, none⟩ = some (.iface 125 (.agg #[.pointer (some ⟨13, 28, none⟩)]))
theorem cell_lt {w : World} {a : Addr} {v : Value} (h : w.cell? a = some v) : a.block < w.heap.size := by
  rcases Nat.lt_or_ge a.block w.heap.size with k | k
  · exact k
  · simp [World.cell?, Array.getElem?_eq_none k] at h
theorem TypeVar.below {w w' : World} (hb : Below w.heap.size w w') (h : TypeVar w) : TypeVar w' := (hb.cell (p := ⟨12, 0, none⟩) (cell_lt h)).trans h

theorem AsPost.mono {w W : World} {g : Nat} {t : Tree} {e : Ending} {w' : World} (hB : Below w.heap.size w W) (hg : g < w.heap.size) (h : AsPost W g t e w') : AsPost w g t e w' := by
  rcases h with ⟨h1, h2, h3⟩ | ⟨b, h1, h2, h3, h4⟩
  · exact Or.inl ⟨h1, h2, hB.trans (h3.mono hB.size)⟩
  · exact Or.inr ⟨b, h1, h2, (hB.mono (Nat.le_of_lt hg)).trans h3, h4⟩

set_option maxHeartbeats 1000000 in
theorem errorsAs (t : Tree) (w : World) (g : Nat) (hl : t.lies w) (hs : Slot w g) (hT : TypeVar w) :
    Calls Tryd.prog 41 #[t.val, .iface 80 (.pointer (some ⟨g, 0, none⟩))] w (AsPost w g t) := by
  have hn1 := eql_isNil t
  have hn2 := guard_isNil t
  by_cases hnn : t.isNil = true
  · obtain rfl := Tree.val_isNil _ hnn
    go_enter Tryd.func41, Tryd.ntmps41
    go_wp2
    go_ret
    exact Or.inl ⟨rfl, rfl, Below.refl _ _⟩
  · have hnn : t.isNil = false := by simpa using hnn
    have H := Lib.hid hnn
    have hB1 : Below w.heap.size w (w.alloc (.cells #[.pointer (some ⟨g, 0, none⟩)] 80)) := (Below.refl _ _).alloc (Nat.le_refl _) _
    have hB2 : Below w.heap.size w ((w.alloc (.cells #[.pointer (some ⟨g, 0, none⟩)] 80)).alloc (.cells #[.pointer (some ⟨13, 80, none⟩), .pointer (some ⟨w.heap.size, 0, none⟩), .int .u64 150] 109)) := hB1.alloc (by simp) _
    have hc := as_any t.size t ((w.alloc (.cells #[.pointer (some ⟨g, 0, none⟩)] 80)).alloc (.cells #[.pointer (some ⟨13, 80, none⟩), .pointer (some ⟨w.heap.size, 0, none⟩), .int .u64 150] 109)) g w.heap.size (Nat.le_refl _) hnn (Tree.lies_below hB2 (t := t) hl) (hs.below hB2) (by simp; omega) (by rw [World.cell?_alloc_lt _ _ ⟨w.heap.size, 0, none⟩ (by simp)]; simp)
    have f1 := asValueOf46
    have f2 := asType46
    have f3 := asMethodKind
    have f4 := asMethodElem
    have f5 := asMethodImplements
    have f6 := asKind46
    have f7 := asKind44
    have f8 := asElem46
    have f9 := asImplements
    have f10 := asIsNil ⟨w.heap.size, 0, none⟩ ⟨g, 0, none⟩ ((w.alloc (.cells #[.pointer (some ⟨g, 0, none⟩)] 80)).alloc (.cells #[.pointer (some ⟨13, 80, none⟩), .pointer (some ⟨w.heap.size, 0, none⟩), .int .u64 150] 109)) (by rw [World.cell?_alloc_lt _ _ ⟨w.heap.size, 0, none⟩ (by simp)]; simp)
    have hv : ((w.alloc (.cells #[.pointer (some ⟨g, 0, none⟩)] 80)).alloc (.cells #[.pointer (some ⟨13, 80, none⟩), .pointer (some ⟨w.heap.size, 0, none⟩), .int .u64 150] 109)).cell? ⟨12, 0, none⟩ = some (.iface 125 (.agg #[.pointer (some ⟨13, 28, none⟩)])) := hT.below hB2
    have hg := hs.1
    have HH := Lib.hid (And.intro hl (And.intro hs hT))
    clear hl hs hT
    go_enter Tryd.func41, Tryd.ntmps41
    go_wp2_with fail
    refine hc.mono ?_
    intro e w' h
    have hp := h.mono hB2 hg
    clear h hc
    rcases hp with ⟨h1, rfl, h3⟩ | ⟨b, h1, rfl, h3, h4⟩
    · go_wp2_with fail
      go_ret
      exact Or.inl ⟨h1, rfl, h3⟩
    · go_wp2_with fail
      go_ret
      exact Or.inr ⟨b, h1, rfl, h3, h4⟩
end Go.Proofs.YtmienemnjikgdaaDoor
end
section
namespace Go.Proofs.YtmienemnjikgdaaDoor
open Go.RowKit Go.Extern.Stop Go.Stop Go.Extern

theorem heap_alloc_new (w : World) (o : Obj) : (w.alloc o).heap[w.heap.size]? = some o := by
  show (w.heap.push o)[w.heap.size]? = some o
  simp

/-- Which of api's errors a number names: 1 to 11 itself, any other one 0 (Unknown). -/
def known (n : Int) : Nat := if 1 ≤ n ∧ n ≤ 11 then n.toNat else 0
theorem known_le (n : Int) : known n ≤ 11 := by unfold known; split <;> omega

/-- The package-level variable (its block) of each of api's errors. -/
def rootVar : Nat → Nat
  | 1 => 0 | 2 => 1 | 3 => 2 | 4 => 3 | 5 => 4 | 6 => 5
  | 7 => 6 | 8 => 7 | 9 => 8 | 10 => 9 | 11 => 10 | _ => 11

/-- api's twelve errors are there: each variable holds a pointer to an errorString of its own. -/
structure Roots (w : World) (A : Nat → Addr) : Prop where
  var : ∀ k, k ≤ 11 → w.cell? ⟨rootVar k, 0, none⟩ = some (.iface 150 (.pointer (some (A k))))
  there : ∀ k, k ≤ 11 → Target w (A k)
  apart : ∀ j k, j ≤ 11 → k ≤ 11 → A j = A k → j = k
theorem Roots.below {w w' : World} {A : Nat → Addr} (hb : Below w.heap.size w w') (h : Roots w A) : Roots w' A :=
  ⟨fun k hk => (hb.cell (p := ⟨rootVar k, 0, none⟩) (cell_lt (h.var k hk))).trans (h.var k hk), fun k hk => (h.there k hk).below hb, h.apart⟩

theorem numbered_any (n : Int) (w : World) (A : Nat → Addr) (hr : Roots w A) :
    Calls Tryd.prog 61 #[.int .i64 n] w fun e w' => e = .returned (Tree.leaf (A (known n))).val ∧ w = w' := by
  have r0 : w.cell? ⟨11, 0, none⟩ = some (.iface 150 (.pointer (some (A 0)))) := hr.var 0 (by decide)
  have r1 : w.cell? ⟨0, 0, none⟩ = some (.iface 150 (.pointer (some (A 1)))) := hr.var 1 (by decide)
  have r2 : w.cell? ⟨1, 0, none⟩ = some (.iface 150 (.pointer (some (A 2)))) := hr.var 2 (by decide)
  have r3 : w.cell? ⟨2, 0, none⟩ = some (.iface 150 (.pointer (some (A 3)))) := hr.var 3 (by decide)
  have r4 : w.cell? ⟨3, 0, none⟩ = some (.iface 150 (.pointer (some (A 4)))) := hr.var 4 (by decide)
  have r5 : w.cell? ⟨4, 0, none⟩ = some (.iface 150 (.pointer (some (A 5)))) := hr.var 5 (by decide)
  have r6 : w.cell? ⟨5, 0, none⟩ = some (.iface 150 (.pointer (some (A 6)))) := hr.var 6 (by decide)
  have r7 : w.cell? ⟨6, 0, none⟩ = some (.iface 150 (.pointer (some (A 7)))) := hr.var 7 (by decide)
  have r8 : w.cell? ⟨7, 0, none⟩ = some (.iface 150 (.pointer (some (A 8)))) := hr.var 8 (by decide)
  have r9 : w.cell? ⟨8, 0, none⟩ = some (.iface 150 (.pointer (some (A 9)))) := hr.var 9 (by decide)
  have r10 : w.cell? ⟨9, 0, none⟩ = some (.iface 150 (.pointer (some (A 10)))) := hr.var 10 (by decide)
  have r11 : w.cell? ⟨10, 0, none⟩ = some (.iface 150 (.pointer (some (A 11)))) := hr.var 11 (by decide)
  clear hr
  rcases (by omega : n = 1 ∨ n = 2 ∨ n = 3 ∨ n = 4 ∨ n = 5 ∨ n = 6 ∨ n = 7 ∨ n = 8 ∨ n = 9 ∨ n = 10 ∨ n = 11 ∨ n < 1 ∨ 11 < n) with rfl | rfl | rfl | rfl | rfl | rfl | rfl | rfl | rfl | rfl | rfl | h | h
  all_goals
    go_enter Tryd.func61, Tryd.ntmps61
    go_wp2
    go_ret
  iterate 11 exact ⟨rfl, rfl⟩
  · exact ⟨by rw [show known n = 0 by unfold known; rw [if_neg (by omega)]]; rfl, rfl⟩
  · exact ⟨by rw [show known n = 0 by unfold known; rw [if_neg (by omega)]]; rfl, rfl⟩

theorem new_zero (op : ByteArray) (pl : Int) (w : World) :
    Calls Tryd.prog 34 #[.string op, .int .i64 pl, .int .i64 0] w fun e w' => e = .returned .nilIface ∧ w = w' := by
  go_enter Tryd.func34, Tryd.ntmps34
  go_wp2
  go_ret
  exact ⟨rfl, rfl⟩
theorem new_any (op : ByteArray) (pl n : Int) (w : World) (A : Nat → Addr) (hr : Roots w A) (hn : n ≠ 0) :
    Calls Tryd.prog 34 #[.string op, .int .i64 pl, .int .i64 n] w fun e w' => e = .returned (Tree.fault w.heap.size op pl (.leaf (A (known n)))).val ∧ Below w.heap.size w w' ∧ w'.heap.size = w.heap.size + 1 ∧ (Tree.fault w.heap.size op pl (.leaf (A (known n)))).lies w' := by
  have hv : (Tree.leaf (A (known n))).val = .iface 150 (.pointer (some (A (known n)))) := rfl
  go_enter Tryd.func34, Tryd.ntmps34
  go_wp2_with (go_at_call 61; refine (numbered_any n _ A hr).mono ?_; rintro e w' ⟨rfl, rfl⟩)
  go_ret
  have hB : Below w.heap.size w (w.alloc (.cells #[.string op, .int .i64 pl, .iface 150 (.pointer (some (A (known n))))] 82)) := (Below.refl _ _).alloc (Nat.le_refl _) _
  exact ⟨rfl, hB, by simp, heap_alloc_new _ _, Tree.lies_below hB (t := .leaf (A (known n))) (hr.there _ (known_le n)), by simp⟩
theorem under_nil (op : ByteArray) (pl : Int) (w : World) :
    Calls Tryd.prog 57 #[.string op, .int .i64 pl, .nilIface] w fun e w' => e = .returned .nilIface ∧ w = w' := by
  go_enter Tryd.func57, Tryd.ntmps57
  go_wp2
  go_ret
  exact ⟨rfl, rfl⟩
theorem under_any (op : ByteArray) (pl : Int) (t : Tree) (w : World) (hl : t.lies w) (hn : t.isNil = false) :
    Calls Tryd.prog 57 #[.string op, .int .i64 pl, t.val] w fun e w' => e = .returned (Tree.fault w.heap.size op pl t).val ∧ Below w.heap.size w w' ∧ w'.heap.size = w.heap.size + 1 ∧ (Tree.fault w.heap.size op pl t).lies w' := by
  have hne : t ≠ .nil := by rintro rfl; cases hn
  obtain ⟨T, x, hv⟩ := Tree.val_held hne
  have hB : Below w.heap.size w (w.alloc (.cells #[.string op, .int .i64 pl, t.val] 82)) := (Below.refl _ _).alloc (Nat.le_refl _) _
  have hq : (Tree.fault w.heap.size op pl t).lies (w.alloc (.cells #[.string op, .int .i64 pl, t.val] 82)) := ⟨heap_alloc_new _ _, Tree.lies_below hB (t := t) hl, hne⟩
  have HQ := Lib.hid (And.intro hB hq)
  clear hB hq hl
  rw [hv] at HQ ⊢
  have HV := Lib.hid hv
  clear hv
  go_enter Tryd.func57, Tryd.ntmps57
  go_wp2
  go_ret
  exact ⟨rfl, HQ.out.1, by simp, HQ.out.2⟩

end Go.Proofs.YtmienemnjikgdaaDoor
end
section
namespace Go.Proofs.YtmienemnjikgdaaDoor
open Go.RowKit Go.Extern.Stop Go.Stop Go.Extern

/-- nothing but an error of this package, with its place and its number -/
def Err1 (w : World) (A : Nat → Addr) (op : ByteArray) (pl : Int) (k : Nat) (e : Ending) (w' : World) : Prop :=
  ∃ b, e = .returned (.iface 78 (.pointer (some ⟨b, 0, none⟩))) ∧ (Tree.fault b op pl (.leaf (A k))).lies w' ∧ Below w.heap.size w w'
/-- the same behind a first result -/
def Err2 (w : World) (A : Nat → Addr) (op : ByteArray) (pl : Int) (k : Nat) (v : Value) (e : Ending) (w' : World) : Prop :=
  ∃ b, e = .returned (.tuple #[v, .iface 78 (.pointer (some ⟨b, 0, none⟩))]) ∧ (Tree.fault b op pl (.leaf (A k))).lies w' ∧ Below w.heap.size w w'
theorem new_at (op : ByteArray) (pl : Int) (n : Nat) (w : World) (A : Nat → Addr) (hr : Roots w A) (hn : 1 ≤ n ∧ n ≤ 11) :
    Calls Tryd.prog 34 #[.string op, .int .i64 pl, .int .i64 (n : Int)] w (Err1 w A op pl n) := by
  have hk : known (n : Int) = n := by unfold known; rw [if_pos (by omega)]; rfl
  refine (new_any op pl n w A hr (by omega)).mono fun e w' ⟨he, hb, _, hl⟩ => ?_
  rw [hk] at he hl
  exact ⟨_, he, hl, hb⟩
theorem fault_val (b : Nat) (op : ByteArray) (pl : Int) (t : Tree) : (Tree.fault b op pl t).val = .iface 78 (.pointer (some ⟨b, 0, none⟩)) := rfl
theorem Err1.under {w w0 : World} {A : Nat → Addr} {op : ByteArray} {pl : Int} {k : Nat} {e : Ending} {w' : World} (hb : Below w0.heap.size w0 w) (h : Err1 w A op pl k e w') : Err1 w0 A op pl k e w' := by
  obtain ⟨b, h1, h2, h3⟩ := h
  exact ⟨b, h1, h2, hb.trans (h3.mono hb.size)⟩
end Go.Proofs.YtmienemnjikgdaaDoor
end
