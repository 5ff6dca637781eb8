/- Plain mathematics of numbers as lists of digits: values, digits, trimming; no part of the program. -/
namespace Go.Proofs.YthhighljfjeooaaDoor.NatM

/-- The value of a list of digits in base B, the lowest first. -/
def valB (B : Nat) : List Nat → Nat
  | [] => 0
  | x :: l => x + B * valB B l
def okB (B : Nat) (l : List Nat) : Prop := ∀ x ∈ l, x < B
/-- No 0 at the end. -/
def nrm (l : List Nat) : Prop := ∀ x, l.getLast? = some x → x ≠ 0

/-- The digits of n in base B, the lowest first, none 0 at the end. -/
def digs (B n : Nat) : List Nat := if _h : B ≤ 1 ∨ n = 0 then [] else n % B :: digs B (n / B)
termination_by n
decreasing_by
  have : n / B < n := Nat.div_lt_self (by omega) (by omega)
  exact this

theorem digs_zero (B : Nat) : digs B 0 = [] := by rw [digs]; simp
theorem digs_pos {B n : Nat} (hB : 2 ≤ B) (hn : 0 < n) : digs B n = n % B :: digs B (n / B) := by
  rw [digs]; rw [dif_neg (by omega)]
theorem valB_digs {B : Nat} (hB : 2 ≤ B) : ∀ n, valB B (digs B n) = n := by
  intro n
  induction n using Nat.strongRecOn with
  | ind n ih =>
    rcases Nat.eq_zero_or_pos n with rfl | h
    · rw [digs_zero]; rfl
    · rw [digs_pos hB h, valB, ih _ (Nat.div_lt_self h (by omega))]
      exact Nat.mod_add_div n B
theorem digs_ok {B : Nat} (hB : 2 ≤ B) : ∀ n, okB B (digs B n) := by
  intro n
  induction n using Nat.strongRecOn with
  | ind n ih =>
    rcases Nat.eq_zero_or_pos n with rfl | h
    · rw [digs_zero]; intro x hx; cases hx
    · rw [digs_pos hB h]
      intro x hx
      rcases List.mem_cons.1 hx with rfl | hx
      · exact Nat.mod_lt _ (by omega)
      · exact ih _ (Nat.div_lt_self h (by omega)) x hx
theorem digs_eq_nil {B n : Nat} (hB : 2 ≤ B) : digs B n = [] ↔ n = 0 := by
  rcases Nat.eq_zero_or_pos n with rfl | h
  · simp [digs_zero]
  · rw [digs_pos hB h]; simp; omega
theorem digs_nrm {B : Nat} (hB : 2 ≤ B) : ∀ n, nrm (digs B n) := by
  intro n
  induction n using Nat.strongRecOn with
  | ind n ih =>
    rcases Nat.eq_zero_or_pos n with rfl | h
    · rw [digs_zero]; intro x hx; cases hx
    · rw [digs_pos hB h]
      intro x hx
      have ihn := ih _ (Nat.div_lt_self h (by omega : 1 < B))
      cases hd : digs B (n / B) with
      | nil =>
        rw [hd] at hx
        have h0 := (digs_eq_nil hB).1 hd
        simp at hx
        subst hx
        have hm := Nat.mod_add_div n B
        rw [h0] at hm
        simp at hm
        omega
      | cons y t =>
        rw [hd] at hx ihn
        rw [List.getLast?_cons_cons] at hx
        exact ihn x hx
theorem okB_tail {B x : Nat} {l : List Nat} (h : okB B (x :: l)) : okB B l := fun y hy => h y (List.mem_cons_of_mem _ hy)
theorem okB_head {B x : Nat} {l : List Nat} (h : okB B (x :: l)) : x < B := h x List.mem_cons_self
theorem nrm_tail {x : Nat} {l : List Nat} (h : nrm (x :: l)) : nrm l := by
  intro y hy
  cases l with
  | nil => cases hy
  | cons z t => exact h y (by rw [List.getLast?_cons_cons]; exact hy)
theorem valB_pos {B : Nat} (hB : 2 ≤ B) : ∀ {l : List Nat}, nrm l → l ≠ [] → 0 < valB B l
  | [], _, h => absurd rfl h
  | [x], hn, _ => by
    have := hn x rfl
    simp [valB]; omega
  | x :: y :: t, hn, _ => by
    have := valB_pos hB (nrm_tail hn) (by simp)
    rw [valB]
    have := Nat.mul_pos (by omega : 0 < B) this
    omega
theorem digs_valB {B : Nat} (hB : 2 ≤ B) : ∀ {l : List Nat}, okB B l → nrm l → digs B (valB B l) = l
  | [], _, _ => digs_zero B
  | x :: l, ho, hn => by
    have hp : 0 < valB B (x :: l) := valB_pos hB hn (by simp)
    have hx := okB_head ho
    rw [digs_pos hB hp, valB, Nat.add_mul_mod_self_left, Nat.mod_eq_of_lt hx, Nat.add_mul_div_left _ _ (by omega), Nat.div_eq_of_lt hx, Nat.zero_add, digs_valB hB (okB_tail ho) (nrm_tail hn)]
theorem digs_unique {B : Nat} (hB : 2 ≤ B) {l : List Nat} {n : Nat} (ho : okB B l) (hn : nrm l) (hv : valB B l = n) : digs B n = l := by
  rw [← hv]; exact digs_valB hB ho hn
theorem valB_append (B : Nat) : ∀ (a b : List Nat), valB B (a ++ b) = valB B a + B ^ a.length * valB B b
  | [], b => by simp [valB]
  | x :: a, b => by
    rw [List.cons_append, valB, valB_append B a b, valB, List.length_cons, Nat.pow_succ, Nat.mul_add, Nat.mul_comm (B ^ a.length) B, Nat.mul_assoc]
    omega
theorem valB_lt {B : Nat} (hB : 1 ≤ B) : ∀ {l : List Nat}, okB B l → valB B l < B ^ l.length
  | [], _ => by simp [valB]
  | x :: l, h => by
    have h1 := valB_lt hB (okB_tail h)
    have h2 := okB_head h
    rw [valB, List.length_cons, Nat.pow_succ, Nat.mul_comm (B ^ l.length) B]
    have : B * (valB B l + 1) ≤ B * B ^ l.length := Nat.mul_le_mul_left _ h1
    rw [Nat.mul_add] at this
    omega
theorem valB_replicate (B k : Nat) : valB B (List.replicate k 0) = 0 := by
  induction k with
  | zero => rfl
  | succ k ih => rw [List.replicate_succ, valB, ih]; simp
theorem valB_snoc (B : Nat) (l : List Nat) (x : Nat) : valB B (l ++ [x]) = valB B l + B ^ l.length * x := by
  rw [valB_append]; simp [valB]
theorem take_snoc {l : List Nat} {k : Nat} (h : k < l.length) : l.take (k + 1) = l.take k ++ [l[k]] := by
  rw [List.take_succ_eq_append_getElem h]
theorem valB_take_succ (B : Nat) {l : List Nat} {k : Nat} (h : k < l.length) : valB B (l.take (k + 1)) = valB B (l.take k) + B ^ k * l[k] := by
  rw [take_snoc h, valB_snoc, List.length_take, Nat.min_eq_left (by omega)]
theorem drop_cons {l : List Nat} {k : Nat} (h : k < l.length) : l.drop k = l[k] :: l.drop (k + 1) := by
  rw [List.drop_eq_getElem_cons h]
theorem valB_drop (B : Nat) {l : List Nat} {k : Nat} (h : k < l.length) : valB B (l.drop k) = l[k] + B * valB B (l.drop (k + 1)) := by
  rw [drop_cons h, valB]
theorem valB_split (B : Nat) (l : List Nat) (k : Nat) (h : k ≤ l.length) : valB B l = valB B (l.take k) + B ^ k * valB B (l.drop k) := by
  have := valB_append B (l.take k) (l.drop k)
  rw [List.take_append_drop, List.length_take, Nat.min_eq_left h] at this
  exact this
theorem okB_take {B : Nat} {l : List Nat} (h : okB B l) (k : Nat) : okB B (l.take k) := fun x hx => h x (List.mem_of_mem_take hx)
theorem okB_drop {B : Nat} {l : List Nat} (h : okB B l) (k : Nat) : okB B (l.drop k) := fun x hx => h x (List.mem_of_mem_drop hx)
theorem okB_get {B : Nat} {l : List Nat} (h : okB B l) {k : Nat} (hk : k < l.length) : l[k] < B := h _ (List.getElem_mem hk)
theorem okB_append {B : Nat} {a b : List Nat} (ha : okB B a) (hb : okB B b) : okB B (a ++ b) := fun x hx => (List.mem_append.1 hx).elim (ha x) (hb x)
theorem okB_one {B x : Nat} (h : x < B) : okB B [x] := fun y hy => by simp at hy; omega
theorem okB_nil (B : Nat) : okB B [] := fun _ h => by cases h
theorem okB_snoc {B x : Nat} {l : List Nat} (h : okB B l) (hx : x < B) : okB B (l ++ [x]) := okB_append h (okB_one hx)
theorem okB_replicate {B : Nat} (hB : 1 ≤ B) (k : Nat) : okB B (List.replicate k 0) := fun x hx => by have := (List.mem_replicate.1 hx).2; omega
theorem valB_set (B : Nat) (x : Nat) : ∀ {l : List Nat} {k : Nat} (h : k < l.length), valB B (l.set k x) + B ^ k * l[k] = valB B l + B ^ k * x
  | y :: l, 0, _ => by simp [valB]; omega
  | y :: l, k + 1, h => by
    have ih := valB_set B x (l := l) (k := k) (by simpa using h)
    simp only [List.set_cons_succ, valB, List.getElem_cons_succ]
    rw [Nat.pow_succ, Nat.mul_comm (B ^ k) B, Nat.mul_assoc, Nat.mul_assoc]
    have : B * (valB B (l.set k x) + B ^ k * l[k]'(by simpa using h)) = B * (valB B l + B ^ k * x) := by rw [ih]
    rw [Nat.mul_add, Nat.mul_add] at this
    omega
theorem okB_set {B : Nat} {l : List Nat} (h : okB B l) {x : Nat} (hx : x < B) (k : Nat) : okB B (l.set k x) := fun y hy => by
  rcases List.mem_or_eq_of_mem_set hy with h1 | h1
  · exact h y h1
  · omega

/-! ### trimming -/
/-- the length of a list without its zeros at the end -/
def tlen (l : List Nat) : Nat := (digs 2 0).length + (l.reverse.dropWhile (· == 0)).length
theorem nrm_take {l : List Nat} {k : Nat} (hk : k ≤ l.length) (h : k = 0 ∨ ∃ h : k - 1 < l.length, l[k - 1] ≠ 0) : nrm (l.take k) := by
  intro x hx
  rcases h with rfl | ⟨h1, h2⟩
  · simp at hx
  · rcases Nat.eq_zero_or_pos k with rfl | hp
    · simp at hx
    · rw [List.getLast?_eq_getElem?, List.length_take, Nat.min_eq_left hk, List.getElem?_take, if_pos (by omega), List.getElem?_eq_getElem h1] at hx
      have := Option.some.inj hx
      omega
theorem trim_eq {B : Nat} (hB : 2 ≤ B) {l : List Nat} (ho : okB B l) {k : Nat} (hk : k ≤ l.length) (hv : valB B (l.take k) = valB B l) (h : k = 0 ∨ ∃ h : k - 1 < l.length, l[k - 1] ≠ 0) :
    l.take k = digs B (valB B l) := (digs_unique hB (okB_take ho k) (nrm_take hk h) hv).symm
theorem trim_step (B : Nat) {l : List Nat} {k : Nat} (h0 : 0 < k) (hk : k ≤ l.length) (hv : valB B (l.take k) = valB B l) (hz : l[k - 1]'(by omega) = 0) : valB B (l.take (k - 1)) = valB B l := by
  have := valB_take_succ B (l := l) (k := k - 1) (by omega)
  rw [show k - 1 + 1 = k by omega, hz] at this
  simp at this
  omega
theorem digs_length_le {B : Nat} (hB : 2 ≤ B) {n k : Nat} (h : n < B ^ k) : (digs B n).length ≤ k := by
  rcases Nat.lt_or_ge k (digs B n).length with hlt | hge
  · exfalso
    have hne : digs B n ≠ [] := by intro e; rw [e] at hlt; simp at hlt
    have hn := valB_digs hB n
    have hs := valB_split B (digs B n) ((digs B n).length - 1) (by omega)
    have hd := valB_drop B (l := digs B n) (k := (digs B n).length - 1) (by omega)
    have hx : (digs B n)[(digs B n).length - 1]'(by omega) ≠ 0 := digs_nrm hB n _ (by rw [List.getLast?_eq_getElem?, List.getElem?_eq_getElem (by omega)])
    have hm : B ^ ((digs B n).length - 1) * 1 ≤ B ^ ((digs B n).length - 1) * valB B ((digs B n).drop ((digs B n).length - 1)) := Nat.mul_le_mul_left _ (by omega)
    have hp : B ^ k ≤ B ^ ((digs B n).length - 1) := Nat.pow_le_pow_right (by omega) (by omega)
    omega
  · exact hge
theorem digs_length_lt {B : Nat} (hB : 2 ≤ B) {m n : Nat} (h : (digs B m).length < (digs B n).length) : m < n := by
  rcases Nat.lt_or_ge m n with h1 | h1
  · exact h1
  · exfalso
    have h2 : n < B ^ (digs B m).length := by
      have := valB_lt (B := B) (by omega) (digs_ok hB m)
      rw [valB_digs hB] at this
      omega
    have := digs_length_le hB h2
    omega
/-- Two lists that are one from i + 1 on, and differ at i. -/
theorem valB_lt_at {B : Nat} (hB : 1 ≤ B) {a b : List Nat} {i : Nat} (ha : okB B a) (hia : i < a.length) (hib : i < b.length) (hd : a.drop (i + 1) = b.drop (i + 1)) (hlt : a[i] < b[i]) : valB B a < valB B b := by
  rw [valB_split B a i (by omega), valB_split B b i (by omega), valB_drop B hia, valB_drop B hib, hd]
  have h1 := valB_lt hB (okB_take ha i)
  rw [List.length_take, Nat.min_eq_left (by omega)] at h1
  have h2 : B ^ i * (a[i] + 1) ≤ B ^ i * b[i] := Nat.mul_le_mul_left _ hlt
  rw [Nat.mul_add] at h2
  rw [Nat.mul_add, Nat.mul_add]
  omega
theorem digs_inj {B : Nat} (hB : 2 ≤ B) {m n : Nat} (h : digs B m = digs B n) : m = n := by
  rw [← valB_digs hB m, h, valB_digs hB]
theorem digs_one {B x : Nat} (hB : 2 ≤ B) (h0 : 0 < x) (hx : x < B) : digs B x = [x] := by
  rw [digs_pos hB h0, Nat.mod_eq_of_lt hx, Nat.div_eq_of_lt hx, digs_zero]

/-! ### half the width -/
def half : List Nat → List Nat
  | [] => []
  | x :: l => x % 65536 :: x / 65536 :: half l
theorem half_ok : ∀ {l : List Nat}, okB 4294967296 l → okB 65536 (half l)
  | [], _ => okB_nil _
  | x :: l, h => by
    intro y hy
    have hx := okB_head h
    rcases List.mem_cons.1 hy with rfl | hy
    · omega
    · rcases List.mem_cons.1 hy with rfl | hy
      · omega
      · exact half_ok (okB_tail h) y hy
theorem half_val : ∀ l : List Nat, valB 65536 (half l) = valB 4294967296 l
  | [] => rfl
  | x :: l => by
    rw [half, valB, valB, valB, half_val l]
    omega
theorem half_append : ∀ a b : List Nat, half (a ++ b) = half a ++ half b
  | [], _ => rfl
  | x :: a, b => by rw [List.cons_append, half, half, half_append a b]; rfl
theorem half_length : ∀ l : List Nat, (half l).length = 2 * l.length
  | [] => rfl
  | x :: l => by rw [half, List.length_cons, List.length_cons, half_length l, List.length_cons]; omega
/-- Two digits in base 65536 are one in base 2^32. -/
def join : List Nat → List Nat
  | [] => []
  | [x] => [x]
  | x :: y :: l => (x + 65536 * y) :: join l
theorem join_val : ∀ l : List Nat, valB 4294967296 (join l) = valB 65536 l
  | [] => rfl
  | [x] => by simp [join, valB]
  | x :: y :: l => by
    rw [join, valB, valB, valB, join_val l]
    omega
theorem join_ok : ∀ {l : List Nat}, okB 65536 l → okB 4294967296 (join l)
  | [], _ => okB_nil _
  | [x], h => okB_one (by have := okB_head h; omega)
  | x :: y :: l, h => by
    intro z hz
    have h1 := okB_head h
    have h2 := okB_head (okB_tail h)
    rcases List.mem_cons.1 hz with rfl | hz
    · omega
    · exact join_ok (okB_tail (okB_tail h)) z hz
theorem join_nrm : ∀ {l : List Nat}, okB 65536 l → nrm l → nrm (join l)
  | [], _, _ => fun _ h => by cases h
  | [x], _, hn => by
    intro z hz
    exact hn z (by simpa [join] using hz)
  | x :: y :: l, ho, hn => by
    cases l with
    | nil =>
      intro z hz
      have := hn y rfl
      simp [join] at hz
      omega
    | cons u t =>
      have ih := join_nrm (l := u :: t) (okB_tail (okB_tail ho)) (nrm_tail (nrm_tail hn))
      have hne : join (u :: t) ≠ [] := by cases t <;> simp [join]
      intro z hz
      rw [join] at hz
      cases hj : join (u :: t) with
      | nil => exact absurd hj hne
      | cons p q =>
        rw [hj] at hz ih
        rw [List.getLast?_cons_cons] at hz
        exact ih z hz
theorem join_digs (n : Nat) : join (digs 65536 n) = digs 4294967296 n := by
  have := digs_unique (B := 4294967296) (by omega) (join_ok (digs_ok (B := 65536) (by omega) n)) (join_nrm (digs_ok (by omega) n) (digs_nrm (by omega) n)) (join_val _)
  rw [valB_digs (by omega)] at this
  exact this.symm

/-! ### the same, with what stands at a place said by '?' -/
theorem some_get {l : List Nat} {k : Nat} (h : k < l.length) : ∃ x, l[k]? = some x := ⟨_, List.getElem?_eq_getElem h⟩
theorem get_lt {l : List Nat} {k x : Nat} (h : l[k]? = some x) : k < l.length := (List.getElem?_eq_some_iff.1 h).1
theorem get_eq {l : List Nat} {k x : Nat} (h : l[k]? = some x) : l[k]'(get_lt h) = x := (List.getElem?_eq_some_iff.1 h).2
theorem ok_get {B : Nat} {l : List Nat} (ho : okB B l) {k x : Nat} (h : l[k]? = some x) : x < B := ho x (List.mem_of_getElem? h)
theorem valB_takeq (B : Nat) {l : List Nat} {k x : Nat} (h : l[k]? = some x) : valB B (l.take (k + 1)) = valB B (l.take k) + B ^ k * x := by
  rw [valB_take_succ B (get_lt h), get_eq h]
theorem valB_dropq (B : Nat) {l : List Nat} {k x : Nat} (h : l[k]? = some x) : valB B (l.drop k) = x + B * valB B (l.drop (k + 1)) := by
  rw [valB_drop B (get_lt h), get_eq h]
theorem valB_setq (B : Nat) (y : Nat) {l : List Nat} {k x : Nat} (h : l[k]? = some x) : valB B (l.set k y) + B ^ k * x = valB B l + B ^ k * y := by
  have := valB_set B y (get_lt h)
  rw [get_eq h] at this
  exact this
theorem trimq {B : Nat} (hB : 2 ≤ B) {l : List Nat} (ho : okB B l) {k x : Nat} (hk : k ≤ l.length) (hv : valB B (l.take k) = valB B l) (hx : l[k - 1]? = some x) (hn : x ≠ 0) :
    l.take k = digs B (valB B l) := trim_eq hB ho hk hv (Or.inr ⟨get_lt hx, by rw [get_eq hx]; exact hn⟩)
theorem trim0 {B : Nat} (hB : 2 ≤ B) {l : List Nat} (ho : okB B l) (hv : valB B (l.take 0) = valB B l) : digs B (valB B l) = [] := by
  have := trim_eq hB ho (Nat.zero_le _) hv (Or.inl rfl)
  rw [List.take_zero] at this
  exact this.symm
theorem trim_stepq (B : Nat) {l : List Nat} {k : Nat} (h0 : 0 < k) (hk : k ≤ l.length) (hv : valB B (l.take k) = valB B l) (hx : l[k - 1]? = some 0) : valB B (l.take (k - 1)) = valB B l :=
  trim_step B h0 hk hv (get_eq hx)
theorem lt_atq {B : Nat} (hB : 1 ≤ B) {a b : List Nat} {i x y : Nat} (ha : okB B a) (hx : a[i]? = some x) (hy : b[i]? = some y) (hd : a.drop (i + 1) = b.drop (i + 1)) (hlt : x < y) : valB B a < valB B b :=
  valB_lt_at hB ha (get_lt hx) (get_lt hy) hd (by rw [get_eq hx, get_eq hy]; exact hlt)
theorem drop_eqq {a b : List Nat} {i x : Nat} (hx : a[i]? = some x) (hy : b[i]? = some x) (hd : a.drop (i + 1) = b.drop (i + 1)) : a.drop i = b.drop i := by
  rw [drop_cons (get_lt hx), drop_cons (get_lt hy), get_eq hx, get_eq hy, hd]
theorem set_takeq {l : List Nat} {k x y : Nat} (h : l[k]? = some x) : (l.set k y).take (k + 1) = l.take k ++ [y] := by
  have hk := get_lt h
  rw [take_snoc (by simpa using hk), List.take_set_of_le (Nat.le_refl _)]
  simp
end Go.Proofs.YthhighljfjeooaaDoor.NatM
