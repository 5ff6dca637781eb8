/- Plain mathematics of words: words as numbers, the next word, repeats. -/
import Derived.Test.YthhighljfjeooaaDoorWdB
namespace Go.Proofs.YthhighljfjeooaaDoor.WordM
/-! ### words over k symbols, and their numbers -/
def okW (k : Nat) (l : List Int) : Prop := ∀ x ∈ l, 0 ≤ x ∧ x < (k : Int)
def valW (k : Nat) : List Int → Nat
  | [] => 0
  | x :: l => x.toNat * k ^ l.length + valW k l
theorem okW_nil (k : Nat) : okW k [] := fun x h => by cases h
theorem okW_app {k : Nat} {a b : List Int} (ha : okW k a) (hb : okW k b) : okW k (a ++ b) := fun x h => by
  rcases List.mem_append.1 h with h | h
  · exact ha x h
  · exact hb x h
theorem okW_take {k : Nat} {a : List Int} (ha : okW k a) (n : Nat) : okW k (a.take n) := fun x h => ha x (List.mem_of_mem_take h)
theorem okW_drop {k : Nat} {a : List Int} (ha : okW k a) (n : Nat) : okW k (a.drop n) := fun x h => ha x (List.mem_of_mem_drop h)
theorem okW_rep {k : Nat} {x : Int} (hx : 0 ≤ x ∧ x < (k : Int)) (n : Nat) : okW k (List.replicate n x) := fun y h => by
  rw [List.eq_of_mem_replicate h]; exact hx
theorem valW_app (k : Nat) : ∀ (a b : List Int), valW k (a ++ b) = valW k a * k ^ b.length + valW k b
  | [], b => by simp [valW]
  | x :: a, b => by
    show x.toNat * k ^ (a ++ b).length + valW k (a ++ b) = (x.toNat * k ^ a.length + valW k a) * k ^ b.length + valW k b
    rw [valW_app k a b, List.length_append, Nat.pow_add, Nat.add_mul, Nat.mul_assoc, Nat.add_assoc]
theorem valW_snoc (k : Nat) (a : List Int) (x : Int) : valW k (a ++ [x]) = valW k a * k + x.toNat := by
  rw [valW_app]; simp [valW]
theorem valW_lt {k : Nat} : ∀ {a : List Int}, okW k a → valW k a < k ^ a.length
  | [], _ => by simp [valW]
  | x :: a, h => by
    have hx := h x (List.mem_cons_self ..)
    have ih := valW_lt (a := a) (fun y hy => h y (List.mem_cons_of_mem _ hy))
    show x.toNat * k ^ a.length + valW k a < k ^ (a.length + 1)
    rw [Nat.pow_succ]
    have h1 : (x.toNat + 1) * k ^ a.length ≤ k * k ^ a.length := Nat.mul_le_mul_right _ (by omega)
    rw [Nat.add_mul, Nat.one_mul] at h1
    rw [Nat.mul_comm (k ^ a.length) k]
    omega
theorem valW_zero (k n : Nat) : valW k (List.replicate n 0) = 0 := by
  induction n with
  | zero => rfl
  | succ n ih => rw [List.replicate_succ]; show (0 : Int).toNat * _ + valW k _ = 0; rw [ih]; simp
theorem valW_full {k : Nat} (hk : 1 ≤ k) (n : Nat) : valW k (List.replicate n ((k : Int) - 1)) + 1 = k ^ n := by
  induction n with
  | zero => rfl
  | succ n ih =>
    rw [List.replicate_succ]
    show ((k : Int) - 1).toNat * k ^ (List.replicate n ((k : Int) - 1)).length + valW k _ + 1 = k ^ (n + 1)
    rw [Nat.add_assoc, ih, List.length_replicate, Nat.pow_succ, show ((k : Int) - 1).toNat = k - 1 by omega]
    have : (k - 1) * k ^ n + k ^ n = (k - 1 + 1) * k ^ n := by rw [Nat.add_mul, Nat.one_mul]
    rw [this, show k - 1 + 1 = k by omega, Nat.mul_comm]
/-- the order of words of one length is that of their numbers -/
theorem lex_val {k : Nat} : ∀ {a b : List Int}, a.length = b.length → okW k a → okW k b → (lexC a b = -1 ∧ valW k a < valW k b) ∨ (lexC a b = 0 ∧ valW k a = valW k b) ∨ (lexC a b = 1 ∧ valW k b < valW k a)
  | [], [], _, _, _ => Or.inr (Or.inl ⟨rfl, rfl⟩)
  | [], _ :: _, h, _, _ => by simp at h
  | _ :: _, [], h, _, _ => by simp at h
  | x :: a, y :: b, h, ha, hb => by
    have hx := ha x (List.mem_cons_self ..)
    have hy := hb y (List.mem_cons_self ..)
    have ha' : okW k a := fun z hz => ha z (List.mem_cons_of_mem _ hz)
    have hb' : okW k b := fun z hz => hb z (List.mem_cons_of_mem _ hz)
    have hl : a.length = b.length := by simpa using h
    have la := valW_lt ha'
    have lb := valW_lt hb'
    have ih := lex_val hl ha' hb'
    show (lexC (x :: a) (y :: b) = -1 ∧ x.toNat * k ^ a.length + valW k a < y.toNat * k ^ b.length + valW k b) ∨ (_ ∧ x.toNat * k ^ a.length + valW k a = y.toNat * k ^ b.length + valW k b) ∨ (_ ∧ y.toNat * k ^ b.length + valW k b < x.toNat * k ^ a.length + valW k a)
    unfold lexC
    rw [← hl] at lb ⊢
    generalize k ^ a.length = P at *
    rcases (by omega : x < y ∨ y < x ∨ x = y) with c | c | c
    · left
      rw [if_pos c]
      refine ⟨rfl, ?_⟩
      have h1 : (x.toNat + 1) * P ≤ y.toNat * P := Nat.mul_le_mul_right _ (by omega)
      rw [Nat.add_mul, Nat.one_mul] at h1
      omega
    · right; right
      rw [if_neg (by omega), if_pos c]
      refine ⟨rfl, ?_⟩
      have h1 : (y.toNat + 1) * P ≤ x.toNat * P := Nat.mul_le_mul_right _ (by omega)
      rw [Nat.add_mul, Nat.one_mul] at h1
      omega
    · subst c
      rw [if_neg (by omega), if_neg (by omega)]
      rcases ih with ⟨h1, h2⟩ | ⟨h1, h2⟩ | ⟨h1, h2⟩
      · exact Or.inl ⟨h1, by omega⟩
      · exact Or.inr (Or.inl ⟨h1, by omega⟩)
      · exact Or.inr (Or.inr ⟨h1, by omega⟩)
theorem valW_inj {k : Nat} {a b : List Int} (h : a.length = b.length) (ha : okW k a) (hb : okW k b) (e : valW k a = valW k b) : a = b := by
  rcases lex_val h ha hb with ⟨_, h2⟩ | ⟨h1, _⟩ | ⟨_, h2⟩
  · omega
  · exact lexC_eq h h1
  · omega
/-- the word behind it: the last symbol below k - 1 is raised, those behind it are 0; or, where there is none, the first word of the next length -/
def IsNext (k : Nat) (w x : List Int) : Prop :=
  (∃ (i : Nat) (y : Int), w[i]? = some y ∧ y < (k : Int) - 1 ∧ w = w.take i ++ y :: List.replicate (w.length - 1 - i) ((k : Int) - 1) ∧ x = w.take i ++ (y + 1) :: List.replicate (w.length - 1 - i) 0) ∨
  (w = List.replicate w.length ((k : Int) - 1) ∧ x = List.replicate (w.length + 1) 0)
theorem isNext_ok {k : Nat} (hk : 1 ≤ k) {w x : List Int} (h : IsNext k w x) (hw : okW k w) : okW k x := by
  rcases h with ⟨i, y, hy, hlt, _, hx⟩ | ⟨_, hx⟩
  · rw [hx]
    have := hw y (List.mem_of_getElem? hy)
    refine okW_app (okW_take hw _) (fun z hz => ?_)
    rcases List.mem_cons.1 hz with rfl | hz
    · omega
    · exact okW_rep (k := k) (x := 0) (by omega) _ z hz
  · rw [hx]; exact okW_rep (by omega) _
theorem isNext_val {k : Nat} (hk : 1 ≤ k) {w x : List Int} (h : IsNext k w x) (hw : okW k w) :
    (x.length = w.length ∧ valW k x = valW k w + 1) ∨ (x.length = w.length + 1 ∧ valW k x = 0 ∧ valW k w + 1 = k ^ w.length) := by
  rcases h with ⟨i, y, hy, hlt, hw2, hx⟩ | ⟨hw2, hx⟩
  · left
    have hi : i < w.length := by
      obtain ⟨h, _⟩ := List.getElem?_eq_some_iff.1 hy
      exact h
    have hy0 := hw y (List.mem_of_getElem? hy)
    have hl : (w.take i).length = i := by rw [List.length_take]; omega
    refine ⟨by rw [hx]; simp; omega, ?_⟩
    rw [hx]
    have e : valW k w = valW k (w.take i ++ y :: List.replicate (w.length - 1 - i) ((k : Int) - 1)) := by rw [← hw2]
    rw [e, valW_app, valW_app]
    show _ + ((y + 1).toNat * k ^ (List.replicate (w.length - 1 - i) 0).length + valW k (List.replicate (w.length - 1 - i) 0)) = _ + (y.toNat * k ^ (List.replicate (w.length - 1 - i) ((k : Int) - 1)).length + valW k (List.replicate (w.length - 1 - i) ((k : Int) - 1))) + 1
    have hf := valW_full hk (w.length - 1 - i)
    rw [valW_zero, List.length_cons, List.length_cons, List.length_replicate, List.length_replicate, show (y + 1).toNat = y.toNat + 1 by omega, Nat.add_mul, Nat.one_mul]
    omega
  · right
    refine ⟨by rw [hx, List.length_replicate], by rw [hx, valW_zero], ?_⟩
    have e : valW k w = valW k (List.replicate w.length ((k : Int) - 1)) := by rw [← hw2]
    rw [e, valW_full hk]
theorem isNext_unique {k : Nat} (hk : 1 ≤ k) {w x y : List Int} (hw : okW k w) (h : IsNext k w x) (g : IsNext k w y) : x = y := by
  have h1 := isNext_val hk h hw
  have g1 := isNext_val hk g hw
  have h2 := isNext_ok hk h hw
  have g2 := isNext_ok hk g hw
  have hl := valW_lt hw
  have hlx := valW_lt h2
  have hly := valW_lt g2
  rcases h1 with ⟨a1, a2⟩ | ⟨a1, a2, a3⟩
  · rcases g1 with ⟨b1, b2⟩ | ⟨b1, b2, b3⟩
    · exact valW_inj (by omega) h2 g2 (by omega)
    · rw [a1] at hlx; omega
  · rcases g1 with ⟨b1, b2⟩ | ⟨b1, b2, b3⟩
    · rw [b1] at hly; omega
    · exact valW_inj (by omega) h2 g2 (by omega)
theorem isNext_cmp {k : Nat} (hk : 1 ≤ k) {w x : List Int} (h : IsNext k w x) (hw : okW k w) : cmpW w x = -1 := by
  rcases isNext_val hk h hw with ⟨a1, a2⟩ | ⟨a1, a2, a3⟩
  · rw [cmpW_len a1.symm]
    rcases lex_val a1.symm hw (isNext_ok hk h hw) with c | c | c
    · exact c.1
    · omega
    · omega
  · unfold cmpW; rw [if_pos (by omega)]
/-- none between -/
theorem isNext_between {k : Nat} (hk : 1 ≤ k) {w x v : List Int} (h : IsNext k w x) (hw : okW k w) (hv : okW k v) (hc : cmpW w v = -1) : cmpW x v ≤ 0 := by
  have hx := isNext_ok hk h hw
  have hvl := valW_lt hv
  have fin : x.length = v.length → valW k x ≤ valW k v → cmpW x v ≤ 0 := fun hl hle => by
    rw [cmpW_len hl]
    rcases lex_val hl hx hv with c | c | c <;> omega
  have hshort : x.length < v.length → cmpW x v ≤ 0 := fun hl => by unfold cmpW; rw [if_pos hl]; omega
  rcases isNext_val hk h hw with ⟨a1, a2⟩ | ⟨a1, a2, a3⟩
  · rcases Nat.lt_trichotomy w.length v.length with c | c | c
    · exact hshort (by omega)
    · refine fin (by omega) ?_
      rw [cmpW_len c] at hc
      rcases lex_val c hw hv with d | d | d <;> omega
    · unfold cmpW at hc; rw [if_neg (by omega), if_pos c] at hc; omega
  · rcases Nat.lt_trichotomy w.length v.length with c | c | c
    · rcases (by omega : x.length < v.length ∨ x.length = v.length) with d | d
      · exact hshort d
      · exact fin d (by omega)
    · rw [cmpW_len c] at hc
      rw [← c] at hvl
      rcases lex_val c hw hv with d | d | d <;> omega
    · unfold cmpW at hc; rw [if_neg (by omega), if_pos c] at hc; omega
/-! ### which lists are words -/
def badAt (k : Int) (x : Int) : Bool := decide (x < 0) || decide (k ≤ x)
/-- where a list is refused: the place, and the error's number -/
def chkW (k : Int) (w : List Int) : Option (Nat × Nat) :=
  if k < 1 ∨ 4 < k then some (0, 3) else if 4096 < w.length then some (0, 4) else (w.findIdx? (badAt k)).map fun i => (i, 2)
theorem chkW_none {k : Int} {w : List Int} (h : chkW k w = none) : ∃ n : Nat, k = n ∧ 1 ≤ n ∧ n ≤ 4 ∧ w.length ≤ 4096 ∧ okW n w := by
  unfold chkW at h
  split at h
  · cases h
  · split at h
    · cases h
    · rw [Option.map_eq_none_iff, List.findIdx?_eq_none_iff] at h
      refine ⟨k.toNat, by omega, by omega, by omega, by omega, fun x hx => ?_⟩
      have := h x hx
      unfold badAt at this
      simp at this
      omega
theorem chkW_ok {k : Nat} {w : List Int} (h1 : 1 ≤ k) (h4 : k ≤ 4) (hl : w.length ≤ 4096) (ho : okW k w) : chkW k w = none := by
  unfold chkW
  rw [if_neg (by omega), if_neg (by omega), Option.map_eq_none_iff, List.findIdx?_eq_none_iff]
  intro x hx
  have := ho x hx
  unfold badAt
  simp
  omega
/-- the place and the number of At -/
def atBad (k n : Int) (i : Nat) : Option (Nat × Nat) :=
  if k < 1 ∨ 4 < k ∨ n < 0 then some (0, 3) else if 256 < n then some (0, 4) else if k.toNat ^ n.toNat ≤ i then some (0, 3) else none
theorem at_step {k p i i0 : Nat} {l : List Int} (hl : l.length = p) (h : valW k l + k ^ p * i = i0) : valW k ((((i % k : Nat) : Int)) :: l) + k ^ (p + 1) * (i / k) = i0 := by
  show (((i % k : Nat) : Int)).toNat * k ^ l.length + valW k l + _ = _
  rw [Int.toNat_natCast, hl, Nat.pow_succ, Nat.mul_assoc]
  have e : k * (i / k) + i % k = i := Nat.div_add_mod i k
  have : i % k * k ^ p + k ^ p * (k * (i / k)) = k ^ p * i := by
    rw [Nat.mul_comm (i % k), ← Nat.mul_add, Nat.add_comm, e]
  omega
theorem at_done {k n i i0 : Nat} {l : List Int} (h : valW k l + k ^ n * i = i0) (hlt : i0 < k ^ n) : valW k l = i0 := by
  rcases Nat.eq_zero_or_pos i with rfl | c
  · simpa using h
  · have : k ^ n * 1 ≤ k ^ n * i := Nat.mul_le_mul_left _ c
    omega
/-! ### repeats -/
def timesW (w : List Int) : Nat → List Int
  | 0 => []
  | n + 1 => timesW w n ++ w
theorem timesW_length (w : List Int) (n : Nat) : (timesW w n).length = n * w.length := by
  induction n with
  | zero => simp [timesW]
  | succ n ih => rw [timesW, List.length_append, ih, Nat.succ_mul]
theorem timesW_get (w : List Int) (n : Nat) : ∀ i, i < n * w.length → (timesW w n)[i]? = some (F w i) := by
  induction n with
  | zero => intro i h; simp at h
  | succ n ih =>
    intro i hi
    rw [Nat.succ_mul] at hi
    unfold timesW
    rcases Nat.lt_or_ge i (n * w.length) with c | c
    · rw [List.getElem?_append_left (by rw [timesW_length]; exact c), ih i c]
    · rw [List.getElem?_append_right (by rw [timesW_length]; exact c), timesW_length, F_get (by omega)]
      congr 1
      unfold F
      rw [Nat.mul_comm, Nat.sub_mul_mod (by rw [Nat.mul_comm]; exact c)]
theorem times_unique {w x : List Int} {n : Nat} (hl : x.length = n * w.length) (h : ∀ i, i < x.length → x[i]? = some (F w i)) : x = timesW w n := by
  apply List.ext_getElem?
  intro i
  by_cases hi : i < x.length
  · rw [h i hi, timesW_get w n i (by omega)]
  · rw [List.getElem?_eq_none (by omega), List.getElem?_eq_none (by rw [timesW_length]; omega)]
theorem F_times {w : List Int} {n : Nat} (hn : 1 ≤ n) (i : Nat) : F (timesW w n) i = F w i := by
  rcases Nat.eq_zero_or_pos w.length with h | h
  · have h1 := List.eq_nil_of_length_eq_zero h
    subst h1
    have : timesW [] n = [] := List.eq_nil_of_length_eq_zero (by rw [timesW_length]; simp)
    rw [this]
  · have hp : 0 < n * w.length := Nat.mul_pos hn h
    have h2 : i % (n * w.length) < n * w.length := Nat.mod_lt _ hp
    have h1 := timesW_get w n _ h2
    unfold F
    rw [List.getD_eq_getElem?_getD, timesW_length, h1]
    show F w _ = _
    unfold F
    rw [Nat.mod_mod_of_dvd _ (Nat.dvd_mul_left _ _)]
/-- a repeated word's period is the word's -/
theorem isPer_times {w : List Int} {p n : Nat} (hn : 1 ≤ n) (h : IsPer w p) : IsPer (timesW w n) p := by
  have e : ∀ q, Per (timesW w n) q ↔ Per w q := fun q => by
    unfold Per
    constructor
    · intro k i; rw [← F_times hn, ← F_times (w := w) hn i, k]
    · intro k i; rw [F_times hn, F_times hn, k]
  refine ⟨h.1, by rw [timesW_length]; exact Nat.dvd_trans h.2.1 (Nat.dvd_mul_left _ _), (e p).2 h.2.2.1, fun q hq hlt => ?_⟩
  rintro ⟨_, hk⟩
  have := isPer_least h hq ((e q).1 hk)
  omega
end Go.Proofs.YthhighljfjeooaaDoor.WordM
