/- 
Plain mathematics of sums of lists of digits, step by step; no part of the program.
Plain mathematics of products, of a number times a limb, of division by a limb, and of the order; no part of the program.
Plain mathematics of decimal digits, and of turning a list round; no part of the program.
Lists of ints: slices.Clone, slices.Reverse.
cmp.Compare, slices.Compare, slices.Equal of ints.
Package word by its contracts, first part: alphabet, Check.
Package rule by its contracts, first part: Size, stray.
Package nat by its contracts, first part: trim, sign, Cmp, and the tests of the statements.
Package nat by its contracts, second part: Cmp, Add32, raise, Sum, Add.
Package nat by its contracts, third part: raise, Sum, Add.
The document's own package of numbers (edenref02) by its contracts, first part: cut, half, whole, Norm.
Package nat by its contracts, fourth part: Mul.
Package nat by its contracts, fifth part: Div32, divide, extend, slices.Clone.
Package nat by its contracts, sixth part: slices.Reverse, Text.
Plain mathematics of decimal texts: which are numbers, which number, and back; no part of the program.
Package nat by its contracts, seventh part: Parse.
Plain mathematics of differences of lists of digits; no part of the program.
Package nat by its contracts, eighth part: Sub32, Sub, Over, From, Pow.
The statements' own tests: awake, normal, long.
Plain mathematics of binary digits; no part of the program.
Package nat by its contracts, ninth part: Over, From, Pow, Bits.
The document's own package of numbers by its contracts, second part: Norm, Fits, From, Low, Cmp.
The document's own package of numbers by its contracts, third part: Cmp, Low.
The document's own package of numbers by its contracts, fourth part: Add, Sum.
The document's own package of numbers by its contracts, fifth part: Sum.
The document's own package of numbers by its contracts, sixth part: Sub.
Package rule by its contracts, second part: Check, smallSize, Small.
Package ring by its contracts, first part: check. -/
import Derived.Test.YtgdjnohhofbcnaaDoorB1
import Derived.WalkSpells
import Derived.Maps.AppendAt
import Derived.OwnWalk
import Derived.Laws.MakeOwn
import Derived.RegionTactic
import Derived.ChangeAlike
import Derived.Deep.DeepCutAuto
import Derived.Deep.RegionWith
import Derived.Laws.Rows
import Derived.Deep.AppendLies
import Derived.Deep.RegionHeld3
import Derived.Laws.BitsAllLaws
import Derived.Laws.BytesArg
section
/- Plain mathematics of numbers as lists of digits: values, digits, trimming; no part of the program. -/
namespace Go.Proofs.YtgdjnohhofbcnaaDoor.NatM

/-- The value of a list of digits in base B, the lowest first. -/
def valB (B : Nat) : List Nat → Nat
  | [] => 0
  | x :: l => x + B * valB B l
def okB (B : Nat) (l : List Nat) : Prop := ∀ x ∈ l, x < B
/-- No 0 at the end. -/
def nrm (l : List Nat) : Prop := ∀ x, l.getLast? = some x → x ≠ 0

/-- The digits of n in base B, the lowest first, none 0 at the end. -/
def digs (B n : Nat) : List Nat := if _h : B ≤ 1 ∨ n = 0 then [] else n % B :: digs B (n / B)
termination_by n
decreasing_by
  have : n / B < n := Nat.div_lt_self (by omega) (by omega)
  exact this

theorem digs_zero (B : Nat) : digs B 0 = [] := by rw [digs]; simp
theorem digs_pos {B n : Nat} (hB : 2 ≤ B) (hn : 0 < n) : digs B n = n % B :: digs B (n / B) := by
  rw [digs]; rw [dif_neg (by omega)]
theorem valB_digs {B : Nat} (hB : 2 ≤ B) : ∀ n, valB B (digs B n) = n := by
  intro n
  induction n using Nat.strongRecOn with
  | ind n ih =>
    rcases Nat.eq_zero_or_pos n with rfl | h
    · rw [digs_zero]; rfl
    · rw [digs_pos hB h, valB, ih _ (Nat.div_lt_self h (by omega))]
      exact Nat.mod_add_div n B
theorem digs_ok {B : Nat} (hB : 2 ≤ B) : ∀ n, okB B (digs B n) := by
  intro n
  induction n using Nat.strongRecOn with
  | ind n ih =>
    rcases Nat.eq_zero_or_pos n with rfl | h
    · rw [digs_zero]; intro x hx; cases hx
    · rw [digs_pos hB h]
      intro x hx
      rcases List.mem_cons.1 hx with rfl | hx
      · exact Nat.mod_lt _ (by omega)
      · exact ih _ (Nat.div_lt_self h (by omega)) x hx
theorem digs_eq_nil {B n : Nat} (hB : 2 ≤ B) : digs B n = [] ↔ n = 0 := by
  rcases Nat.eq_zero_or_pos n with rfl | h
  · simp [digs_zero]
  · rw [digs_pos hB h]; simp; omega
theorem digs_nrm {B : Nat} (hB : 2 ≤ B) : ∀ n, nrm (digs B n) := by
  intro n
  induction n using Nat.strongRecOn with
  | ind n ih =>
    rcases Nat.eq_zero_or_pos n with rfl | h
    · rw [digs_zero]; intro x hx; cases hx
    · rw [digs_pos hB h]
      intro x hx
      have ihn := ih _ (Nat.div_lt_self h (by omega : 1 < B))
      cases hd : digs B (n / B) with
      | nil =>
        rw [hd] at hx
        have h0 := (digs_eq_nil hB).1 hd
        simp at hx
        subst hx
        have hm := Nat.mod_add_div n B
        rw [h0] at hm
        simp at hm
        omega
      | cons y t =>
        rw [hd] at hx ihn
        rw [List.getLast?_cons_cons] at hx
        exact ihn x hx
theorem okB_tail {B x : Nat} {l : List Nat} (h : okB B (x :: l)) : okB B l := fun y hy => h y (List.mem_cons_of_mem _ hy)
theorem okB_head {B x : Nat} {l : List Nat} (h : okB B (x :: l)) : x < B := h x List.mem_cons_self
theorem nrm_tail {x : Nat} {l : List Nat} (h : nrm (x :: l)) : nrm l := by
  intro y hy
  cases l with
  | nil => cases hy
  | cons z t => exact h y (by rw [List.getLast?_cons_cons]; exact hy)
theorem valB_pos {B : Nat} (hB : 2 ≤ B) : ∀ {l : List Nat}, nrm l → l ≠ [] → 0 < valB B l
  | [], _, h => absurd rfl h
  | [x], hn, _ => by
    have := hn x rfl
    simp [valB]; omega
  | x :: y :: t, hn, _ => by
    have := valB_pos hB (nrm_tail hn) (by simp)
    rw [valB]
    have := Nat.mul_pos (by omega : 0 < B) this
    omega
theorem digs_valB {B : Nat} (hB : 2 ≤ B) : ∀ {l : List Nat}, okB B l → nrm l → digs B (valB B l) = l
  | [], _, _ => digs_zero B
  | x :: l, ho, hn => by
    have hp : 0 < valB B (x :: l) := valB_pos hB hn (by simp)
    have hx := okB_head ho
    rw [digs_pos hB hp, valB, Nat.add_mul_mod_self_left, Nat.mod_eq_of_lt hx, Nat.add_mul_div_left _ _ (by omega), Nat.div_eq_of_lt hx, Nat.zero_add, digs_valB hB (okB_tail ho) (nrm_tail hn)]
theorem digs_unique {B : Nat} (hB : 2 ≤ B) {l : List Nat} {n : Nat} (ho : okB B l) (hn : nrm l) (hv : valB B l = n) : digs B n = l := by
  rw [← hv]; exact digs_valB hB ho hn
theorem valB_append (B : Nat) : ∀ (a b : List Nat), valB B (a ++ b) = valB B a + B ^ a.length * valB B b
  | [], b => by simp [valB]
  | x :: a, b => by
    rw [List.cons_append, valB, valB_append B a b, valB, List.length_cons, Nat.pow_succ, Nat.mul_add, Nat.mul_comm (B ^ a.length) B, Nat.mul_assoc]
    omega
theorem valB_lt {B : Nat} (hB : 1 ≤ B) : ∀ {l : List Nat}, okB B l → valB B l < B ^ l.length
  | [], _ => by simp [valB]
  | x :: l, h => by
    have h1 := valB_lt hB (okB_tail h)
    have h2 := okB_head h
    rw [valB, List.length_cons, Nat.pow_succ, Nat.mul_comm (B ^ l.length) B]
    have : B * (valB B l + 1) ≤ B * B ^ l.length := Nat.mul_le_mul_left _ h1
    rw [Nat.mul_add] at this
    omega
theorem valB_replicate (B k : Nat) : valB B (List.replicate k 0) = 0 := by
  induction k with
  | zero => rfl
  | succ k ih => rw [List.replicate_succ, valB, ih]; simp
theorem valB_snoc (B : Nat) (l : List Nat) (x : Nat) : valB B (l ++ [x]) = valB B l + B ^ l.length * x := by
  rw [valB_append]; simp [valB]
theorem take_snoc {l : List Nat} {k : Nat} (h : k < l.length) : l.take (k + 1) = l.take k ++ [l[k]] := by
  rw [List.take_succ_eq_append_getElem h]
theorem valB_take_succ (B : Nat) {l : List Nat} {k : Nat} (h : k < l.length) : valB B (l.take (k + 1)) = valB B (l.take k) + B ^ k * l[k] := by
  rw [take_snoc h, valB_snoc, List.length_take, Nat.min_eq_left (by omega)]
theorem drop_cons {l : List Nat} {k : Nat} (h : k < l.length) : l.drop k = l[k] :: l.drop (k + 1) := by
  rw [List.drop_eq_getElem_cons h]
theorem valB_drop (B : Nat) {l : List Nat} {k : Nat} (h : k < l.length) : valB B (l.drop k) = l[k] + B * valB B (l.drop (k + 1)) := by
  rw [drop_cons h, valB]
theorem valB_split (B : Nat) (l : List Nat) (k : Nat) (h : k ≤ l.length) : valB B l = valB B (l.take k) + B ^ k * valB B (l.drop k) := by
  have := valB_append B (l.take k) (l.drop k)
  rw [List.take_append_drop, List.length_take, Nat.min_eq_left h] at this
  exact this
theorem okB_take {B : Nat} {l : List Nat} (h : okB B l) (k : Nat) : okB B (l.take k) := fun x hx => h x (List.mem_of_mem_take hx)
theorem okB_drop {B : Nat} {l : List Nat} (h : okB B l) (k : Nat) : okB B (l.drop k) := fun x hx => h x (List.mem_of_mem_drop hx)
theorem okB_get {B : Nat} {l : List Nat} (h : okB B l) {k : Nat} (hk : k < l.length) : l[k] < B := h _ (List.getElem_mem hk)
theorem okB_append {B : Nat} {a b : List Nat} (ha : okB B a) (hb : okB B b) : okB B (a ++ b) := fun x hx => (List.mem_append.1 hx).elim (ha x) (hb x)
theorem okB_one {B x : Nat} (h : x < B) : okB B [x] := fun y hy => by simp at hy; omega
theorem okB_nil (B : Nat) : okB B [] := fun _ h => by cases h
theorem okB_snoc {B x : Nat} {l : List Nat} (h : okB B l) (hx : x < B) : okB B (l ++ [x]) := okB_append h (okB_one hx)
theorem okB_replicate {B : Nat} (hB : 1 ≤ B) (k : Nat) : okB B (List.replicate k 0) := fun x hx => by have := (List.mem_replicate.1 hx).2; omega
theorem valB_set (B : Nat) (x : Nat) : ∀ {l : List Nat} {k : Nat} (h : k < l.length), valB B (l.set k x) + B ^ k * l[k] = valB B l + B ^ k * x
  | y :: l, 0, _ => by simp [valB]; omega
  | y :: l, k + 1, h => by
    have ih := valB_set B x (l := l) (k := k) (by simpa using h)
    simp only [List.set_cons_succ, valB, List.getElem_cons_succ]
    rw [Nat.pow_succ, Nat.mul_comm (B ^ k) B, Nat.mul_assoc, Nat.mul_assoc]
    have : B * (valB B (l.set k x) + B ^ k * l[k]'(by simpa using h)) = B * (valB B l + B ^ k * x) := by rw [ih]
    rw [Nat.mul_add, Nat.mul_add] at this
    omega
theorem okB_set {B : Nat} {l : List Nat} (h : okB B l) {x : Nat} (hx : x < B) (k : Nat) : okB B (l.set k x) := fun y hy => by
  rcases List.mem_or_eq_of_mem_set hy with h1 | h1
  · exact h y h1
  · omega

/-! ### trimming -/
/-- the length of a list without its zeros at the end -/
def tlen (l : List Nat) : Nat := (digs 2 0).length + (l.reverse.dropWhile (· == 0)).length
theorem nrm_take {l : List Nat} {k : Nat} (hk : k ≤ l.length) (h : k = 0 ∨ ∃ h : k - 1 < l.length, l[k - 1] ≠ 0) : nrm (l.take k) := by
  intro x hx
  rcases h with rfl | ⟨h1, h2⟩
  · simp at hx
  · rcases Nat.eq_zero_or_pos k with rfl | hp
    · simp at hx
    · rw [List.getLast?_eq_getElem?, List.length_take, Nat.min_eq_left hk, List.getElem?_take, if_pos (by omega), List.getElem?_eq_getElem h1] at hx
      have := Option.some.inj hx
      omega
theorem trim_eq {B : Nat} (hB : 2 ≤ B) {l : List Nat} (ho : okB B l) {k : Nat} (hk : k ≤ l.length) (hv : valB B (l.take k) = valB B l) (h : k = 0 ∨ ∃ h : k - 1 < l.length, l[k - 1] ≠ 0) :
    l.take k = digs B (valB B l) := (digs_unique hB (okB_take ho k) (nrm_take hk h) hv).symm
theorem trim_step (B : Nat) {l : List Nat} {k : Nat} (h0 : 0 < k) (hk : k ≤ l.length) (hv : valB B (l.take k) = valB B l) (hz : l[k - 1]'(by omega) = 0) : valB B (l.take (k - 1)) = valB B l := by
  have := valB_take_succ B (l := l) (k := k - 1) (by omega)
  rw [show k - 1 + 1 = k by omega, hz] at this
  simp at this
  omega
theorem digs_length_le {B : Nat} (hB : 2 ≤ B) {n k : Nat} (h : n < B ^ k) : (digs B n).length ≤ k := by
  rcases Nat.lt_or_ge k (digs B n).length with hlt | hge
  · exfalso
    have hne : digs B n ≠ [] := by intro e; rw [e] at hlt; simp at hlt
    have hn := valB_digs hB n
    have hs := valB_split B (digs B n) ((digs B n).length - 1) (by omega)
    have hd := valB_drop B (l := digs B n) (k := (digs B n).length - 1) (by omega)
    have hx : (digs B n)[(digs B n).length - 1]'(by omega) ≠ 0 := digs_nrm hB n _ (by rw [List.getLast?_eq_getElem?, List.getElem?_eq_getElem (by omega)])
    have hm : B ^ ((digs B n).length - 1) * 1 ≤ B ^ ((digs B n).length - 1) * valB B ((digs B n).drop ((digs B n).length - 1)) := Nat.mul_le_mul_left _ (by omega)
    have hp : B ^ k ≤ B ^ ((digs B n).length - 1) := Nat.pow_le_pow_right (by omega) (by omega)
    omega
  · exact hge
theorem digs_length_lt {B : Nat} (hB : 2 ≤ B) {m n : Nat} (h : (digs B m).length < (digs B n).length) : m < n := by
  rcases Nat.lt_or_ge m n with h1 | h1
  · exact h1
  · exfalso
    have h2 : n < B ^ (digs B m).length := by
      have := valB_lt (B := B) (by omega) (digs_ok hB m)
      rw [valB_digs hB] at this
      omega
    have := digs_length_le hB h2
    omega
/-- Two lists that are one from i + 1 on, and differ at i. -/
theorem valB_lt_at {B : Nat} (hB : 1 ≤ B) {a b : List Nat} {i : Nat} (ha : okB B a) (hia : i < a.length) (hib : i < b.length) (hd : a.drop (i + 1) = b.drop (i + 1)) (hlt : a[i] < b[i]) : valB B a < valB B b := by
  rw [valB_split B a i (by omega), valB_split B b i (by omega), valB_drop B hia, valB_drop B hib, hd]
  have h1 := valB_lt hB (okB_take ha i)
  rw [List.length_take, Nat.min_eq_left (by omega)] at h1
  have h2 : B ^ i * (a[i] + 1) ≤ B ^ i * b[i] := Nat.mul_le_mul_left _ hlt
  rw [Nat.mul_add] at h2
  rw [Nat.mul_add, Nat.mul_add]
  omega
theorem digs_inj {B : Nat} (hB : 2 ≤ B) {m n : Nat} (h : digs B m = digs B n) : m = n := by
  rw [← valB_digs hB m, h, valB_digs hB]
theorem digs_one {B x : Nat} (hB : 2 ≤ B) (h0 : 0 < x) (hx : x < B) : digs B x = [x] := by
  rw [digs_pos hB h0, Nat.mod_eq_of_lt hx, Nat.div_eq_of_lt hx, digs_zero]

/-! ### half the width -/
def half : List Nat → List Nat
  | [] => []
  | x :: l => x % 65536 :: x / 65536 :: half l
theorem half_ok : ∀ {l : List Nat}, okB 4294967296 l → okB 65536 (half l)
  | [], _ => okB_nil _
  | x :: l, h => by
    intro y hy
    have hx := okB_head h
    rcases List.mem_cons.1 hy with rfl | hy
    · omega
    · rcases List.mem_cons.1 hy with rfl | hy
      · omega
      · exact half_ok (okB_tail h) y hy
theorem half_val : ∀ l : List Nat, valB 65536 (half l) = valB 4294967296 l
  | [] => rfl
  | x :: l => by
    rw [half, valB, valB, valB, half_val l]
    omega
theorem half_append : ∀ a b : List Nat, half (a ++ b) = half a ++ half b
  | [], _ => rfl
  | x :: a, b => by rw [List.cons_append, half, half, half_append a b]; rfl
theorem half_length : ∀ l : List Nat, (half l).length = 2 * l.length
  | [] => rfl
  | x :: l => by rw [half, List.length_cons, List.length_cons, half_length l, List.length_cons]; omega
/-- Two digits in base 65536 are one in base 2^32. -/
def join : List Nat → List Nat
  | [] => []
  | [x] => [x]
  | x :: y :: l => (x + 65536 * y) :: join l
theorem join_val : ∀ l : List Nat, valB 4294967296 (join l) = valB 65536 l
  | [] => rfl
  | [x] => by simp [join, valB]
  | x :: y :: l => by
    rw [join, valB, valB, valB, join_val l]
    omega
theorem join_ok : ∀ {l : List Nat}, okB 65536 l → okB 4294967296 (join l)
  | [], _ => okB_nil _
  | [x], h => okB_one (by have := okB_head h; omega)
  | x :: y :: l, h => by
    intro z hz
    have h1 := okB_head h
    have h2 := okB_head (okB_tail h)
    rcases List.mem_cons.1 hz with rfl | hz
    · omega
    · exact join_ok (okB_tail (okB_tail h)) z hz
theorem join_nrm : ∀ {l : List Nat}, okB 65536 l → nrm l → nrm (join l)
  | [], _, _ => fun _ h => by cases h
  | [x], _, hn => by
    intro z hz
    exact hn z (by simpa [join] using hz)
  | x :: y :: l, ho, hn => by
    cases l with
    | nil =>
      intro z hz
      have := hn y rfl
      simp [join] at hz
      omega
    | cons u t =>
      have ih := join_nrm (l := u :: t) (okB_tail (okB_tail ho)) (nrm_tail (nrm_tail hn))
      have hne : join (u :: t) ≠ [] := by cases t <;> simp [join]
      intro z hz
      rw [join] at hz
      cases hj : join (u :: t) with
      | nil => exact absurd hj hne
      | cons p q =>
        rw [hj] at hz ih
        rw [List.getLast?_cons_cons] at hz
        exact ih z hz
theorem join_digs (n : Nat) : join (digs 65536 n) = digs 4294967296 n := by
  have := digs_unique (B := 4294967296) (by omega) (join_ok (digs_ok (B := 65536) (by omega) n)) (join_nrm (digs_ok (by omega) n) (digs_nrm (by omega) n)) (join_val _)
  rw [valB_digs (by omega)] at this
  exact this.symm

/-! ### the same, with what stands at a place said by '?' -/
theorem some_get {l : List Nat} {k : Nat} (h : k < l.length) : ∃ x, l[k]? = some x := ⟨_, List.getElem?_eq_getElem h⟩
theorem get_lt {l : List Nat} {k x : Nat} (h : l[k]? = some x) : k < l.length := (List.getElem?_eq_some_iff.1 h).1
theorem get_eq {l : List Nat} {k x : Nat} (h : l[k]? = some x) : l[k]'(get_lt h) = x := (List.getElem?_eq_some_iff.1 h).2
theorem ok_get {B : Nat} {l : List Nat} (ho : okB B l) {k x : Nat} (h : l[k]? = some x) : x < B := ho x (List.mem_of_getElem? h)
theorem valB_takeq (B : Nat) {l : List Nat} {k x : Nat} (h : l[k]? = some x) : valB B (l.take (k + 1)) = valB B (l.take k) + B ^ k * x := by
  rw [valB_take_succ B (get_lt h), get_eq h]
theorem valB_dropq (B : Nat) {l : List Nat} {k x : Nat} (h : l[k]? = some x) : valB B (l.drop k) = x + B * valB B (l.drop (k + 1)) := by
  rw [valB_drop B (get_lt h), get_eq h]
theorem valB_setq (B : Nat) (y : Nat) {l : List Nat} {k x : Nat} (h : l[k]? = some x) : valB B (l.set k y) + B ^ k * x = valB B l + B ^ k * y := by
  have := valB_set B y (get_lt h)
  rw [get_eq h] at this
  exact this
theorem trimq {B : Nat} (hB : 2 ≤ B) {l : List Nat} (ho : okB B l) {k x : Nat} (hk : k ≤ l.length) (hv : valB B (l.take k) = valB B l) (hx : l[k - 1]? = some x) (hn : x ≠ 0) :
    l.take k = digs B (valB B l) := trim_eq hB ho hk hv (Or.inr ⟨get_lt hx, by rw [get_eq hx]; exact hn⟩)
theorem trim0 {B : Nat} (hB : 2 ≤ B) {l : List Nat} (ho : okB B l) (hv : valB B (l.take 0) = valB B l) : digs B (valB B l) = [] := by
  have := trim_eq hB ho (Nat.zero_le _) hv (Or.inl rfl)
  rw [List.take_zero] at this
  exact this.symm
theorem trim_stepq (B : Nat) {l : List Nat} {k : Nat} (h0 : 0 < k) (hk : k ≤ l.length) (hv : valB B (l.take k) = valB B l) (hx : l[k - 1]? = some 0) : valB B (l.take (k - 1)) = valB B l :=
  trim_step B h0 hk hv (get_eq hx)
theorem lt_atq {B : Nat} (hB : 1 ≤ B) {a b : List Nat} {i x y : Nat} (ha : okB B a) (hx : a[i]? = some x) (hy : b[i]? = some y) (hd : a.drop (i + 1) = b.drop (i + 1)) (hlt : x < y) : valB B a < valB B b :=
  valB_lt_at hB ha (get_lt hx) (get_lt hy) hd (by rw [get_eq hx, get_eq hy]; exact hlt)
theorem drop_eqq {a b : List Nat} {i x : Nat} (hx : a[i]? = some x) (hy : b[i]? = some x) (hd : a.drop (i + 1) = b.drop (i + 1)) : a.drop i = b.drop i := by
  rw [drop_cons (get_lt hx), drop_cons (get_lt hy), get_eq hx, get_eq hy, hd]
theorem set_takeq {l : List Nat} {k x y : Nat} (h : l[k]? = some x) : (l.set k y).take (k + 1) = l.take k ++ [y] := by
  have hk := get_lt h
  rw [take_snoc (by simpa using hk), List.take_set_of_le (Nat.le_refl _)]
  simp
end Go.Proofs.YtgdjnohhofbcnaaDoor.NatM
end
section
namespace Go.Proofs.YtgdjnohhofbcnaaDoor.NatM
theorem pow_pos' {B : Nat} (hB : 1 ≤ B) (k : Nat) : 0 < B ^ k := Nat.pow_pos (by omega)
theorem nrm_of_ge {B : Nat} (hB : 2 ≤ B) {t : List Nat} (ho : okB B t) (h : t = [] ∨ B ^ (t.length - 1) ≤ valB B t) : nrm t := by
  rcases h with rfl | h
  · intro x hx; cases hx
  · intro x hx hx0
    subst hx0
    rw [List.getLast?_eq_getElem?] at hx
    have h1 := valB_takeq B hx
    have hl := get_lt hx
    rw [show t.length - 1 + 1 = t.length by omega, List.take_length] at h1
    have h2 := valB_lt (B := B) (by omega) (okB_take ho (t.length - 1))
    rw [List.length_take, Nat.min_eq_left (by omega)] at h2
    simp at h1
    omega
theorem ge_of_nrm {B : Nat} (_ : 2 ≤ B) {t : List Nat} (hn : nrm t) (hne : t ≠ []) : B ^ (t.length - 1) ≤ valB B t := by
  have hl : 0 < t.length := List.length_pos_iff.2 hne
  obtain ⟨x, hx⟩ := some_get (l := t) (k := t.length - 1) (by omega)
  have h0 := hn x (by rw [List.getLast?_eq_getElem?]; exact hx)
  have h1 := valB_takeq B hx
  rw [show t.length - 1 + 1 = t.length by omega, List.take_length] at h1
  have : B ^ (t.length - 1) * 1 ≤ B ^ (t.length - 1) * x := Nat.mul_le_mul_left _ (by omega)
  omega

/-- Where a sum stands when k limbs of m have been added to s. -/
structure RInv (B : Nat) (s m : List Nat) (k c : Nat) (t : List Nat) : Prop where
  ok : okB B t
  len : t.length = max s.length k
  car : c ≤ 1
  val : valB B t + B ^ k * c = valB B s + valB B (m.take k)
  bnd : k ≤ max s.length m.length + 1
  top : k = max s.length m.length + 1 → B ^ max s.length m.length ≤ valB B s + valB B m
theorem RInv.start {B : Nat} {s m : List Nat} (hs : okB B s) : RInv B s m 0 0 s :=
  ⟨hs, by simp, by omega, by simp [valB], by omega, by omega⟩
theorem valB_take_all (B : Nat) {m : List Nat} {k : Nat} (h : m.length ≤ k) : valB B (m.take k) = valB B m := by rw [List.take_of_length_le h]
theorem valB_take_le (B : Nat) (m : List Nat) (k : Nat) : valB B (m.take k) ≤ valB B m := by
  rcases Nat.le_total k m.length with h | h
  · have := valB_split B m k h; omega
  · rw [valB_take_all B h]; exact Nat.le_refl _
theorem RInv.stop {B : Nat} (hB : 2 ≤ B) {s m : List Nat} (hs : okB B s) (hm : okB B m) {k c : Nat} {t : List Nat} (h : RInv B s m k c t) (hk : max s.length m.length < k) : c = 0 := by
  have hv := h.val
  have h1 := valB_take_le B m k
  have h2 := valB_lt (B := B) (by omega) hs
  have h3 := valB_lt (B := B) (by omega) hm
  have h4 : B ^ s.length ≤ B ^ max s.length m.length := Nat.pow_le_pow_right (by omega) (by omega)
  have h5 : B ^ m.length ≤ B ^ max s.length m.length := Nat.pow_le_pow_right (by omega) (by omega)
  have h6 : B ^ (max s.length m.length + 1) ≤ B ^ k := Nat.pow_le_pow_right (by omega) (by omega)
  rw [Nat.pow_succ] at h6
  have h7 : B ^ max s.length m.length * 2 ≤ B ^ max s.length m.length * B := Nat.mul_le_mul_left _ hB
  rcases Nat.eq_zero_or_pos c with h | h
  · exact h
  · have : B ^ k * 1 ≤ B ^ k * c := Nat.mul_le_mul_left _ h
    omega
/-- The next limb of m, 0 behind its end. -/
def limbAt (m : List Nat) (k : Nat) : Nat := m.getD k 0
theorem limb_some {m : List Nat} {k y : Nat} (h : m[k]? = some y) : limbAt m k = y := by unfold limbAt; rw [List.getD_eq_getElem?_getD, h]; rfl
theorem limb_none {m : List Nat} {k : Nat} (h : m.length ≤ k) : limbAt m k = 0 := by unfold limbAt; rw [List.getD_eq_getElem?_getD, List.getElem?_eq_none h]; rfl
theorem limb_lt {B : Nat} (hB : 1 ≤ B) {m : List Nat} (hm : okB B m) (k : Nat) : limbAt m k < B := by
  rcases Nat.lt_or_ge k m.length with h | h
  · obtain ⟨y, hy⟩ := some_get h
    rw [limb_some hy]; exact ok_get hm hy
  · rw [limb_none h]; omega
theorem valB_take_limb (B : Nat) (m : List Nat) (k : Nat) : valB B (m.take (k + 1)) = valB B (m.take k) + B ^ k * limbAt m k := by
  rcases Nat.lt_or_ge k m.length with h | h
  · obtain ⟨y, hy⟩ := some_get h
    rw [limb_some hy, valB_takeq B hy]
  · rw [limb_none h, valB_take_all B h, valB_take_all B (by omega)]; simp
/-- The sum's list, one longer where it ends at k. -/
def grown (t : List Nat) (k : Nat) : List Nat := if k = t.length then t ++ [0] else t
theorem grown_val (B : Nat) (t : List Nat) (k : Nat) : valB B (grown t k) = valB B t := by
  unfold grown
  split
  · rw [valB_snoc]; simp
  · rfl
theorem step_eq {B : Nat} {x y c : Nat} : (x + y + c) % B + B * ((x + y + c) / B) = x + y + c := Nat.mod_add_div _ _
theorem carry_step {B T T' P x y c V M r q : Nat} (h1 : T' + P * x = T + P * r) (h2 : T + P * c = V + M) (h3 : r + B * q = x + y + c) : T' + P * B * q = V + (M + P * y) := by
  have e : P * (r + B * q) = P * (x + y + c) := by rw [h3]
  rw [Nat.mul_add, Nat.mul_add, Nat.mul_add, ← Nat.mul_assoc] at e
  omega
theorem RInv.step {B : Nat} (hB : 2 ≤ B) {s m : List Nat} (hs : okB B s) (hm : okB B m) {k c x : Nat} {t : List Nat} (h : RInv B s m k c t) (hgo : k < m.length ∨ c ≠ 0) (hx : (grown t k)[k]? = some x) :
    RInv B s m (k + 1) ((x + limbAt m k + c) / B) ((grown t k).set k ((x + limbAt m k + c) % B)) := by
  have hle : k ≤ max s.length m.length := by
    rcases Nat.lt_or_ge (max s.length m.length) k with h1 | h1
    · have := h.stop hB hs hm h1
      omega
    · exact h1
  have hgo' : okB B (grown t k) := by
    unfold grown; split
    · exact okB_snoc h.ok (by omega)
    · exact h.ok
  have hxl := ok_get hgo' hx
  have hyl := limb_lt (by omega : 1 ≤ B) hm k
  have hc := h.car
  refine ⟨okB_set hgo' (Nat.mod_lt _ (by omega)) _, ?_, ?_, ?_, by omega, ?_⟩
  · rw [List.length_set]; unfold grown; have := h.len; split
    · rw [List.length_append, List.length_singleton]; omega
    · omega
  · have : (x + limbAt m k + c) / B < 2 := by
      rw [Nat.div_lt_iff_lt_mul (by omega)]; omega
    omega
  · rw [valB_take_limb, Nat.pow_succ]
    exact carry_step (by rw [valB_setq B _ hx, grown_val]) h.val step_eq
  · intro hk
    have hkm : m.length ≤ k := by omega
    have hc0 : c ≠ 0 := by omega
    have hv := h.val
    rw [valB_take_all B hkm, show k = max s.length m.length by omega] at hv
    have : B ^ max s.length m.length * 1 ≤ B ^ max s.length m.length * c := Nat.mul_le_mul_left _ (by omega)
    omega
theorem RInv.done {B : Nat} (hB : 2 ≤ B) {s m : List Nat} (hs : nrm s) (hm : nrm m) {k : Nat} {t : List Nat} (h : RInv B s m k 0 t) (hk : m.length ≤ k) : digs B (valB B s + valB B m) = t := by
  have hv := h.val
  rw [valB_take_all B hk] at hv
  refine digs_unique hB h.ok (nrm_of_ge hB h.ok ?_) (by omega)
  have hl := h.len
  rcases Nat.eq_zero_or_pos t.length with h0 | h0
  · exact Or.inl (List.eq_nil_of_length_eq_zero h0)
  · right
    rcases Nat.lt_or_ge (max s.length m.length) t.length with h1 | h1
    · have := h.bnd
      have hk1 : k = max s.length m.length + 1 := by omega
      have := h.top hk1
      rw [show t.length - 1 = max s.length m.length by omega]
      omega
    · rcases Nat.le_total s.length m.length with h2 | h2
      · have := ge_of_nrm hB hm (List.length_pos_iff.1 (by omega))
        rw [show t.length - 1 = m.length - 1 by omega]
        omega
      · have := ge_of_nrm hB hs (List.length_pos_iff.1 (by omega))
        rw [show t.length - 1 = s.length - 1 by omega]
        omega
theorem grown_get {B : Nat} {s m : List Nat} {k c : Nat} {t : List Nat} (h : RInv B s m k c t) : ∃ x, (grown t k)[k]? = some x := by
  apply some_get
  have := h.len
  unfold grown
  split
  · rw [List.length_append, List.length_singleton]; omega
  · omega
end Go.Proofs.YtgdjnohhofbcnaaDoor.NatM
end
section
namespace Go.Proofs.YtgdjnohhofbcnaaDoor.NatM
/-! ### products -/
structure MInv (B : Nat) (a b : List Nat) (i j x c : Nat) (P : List Nat) : Prop where
  ok : okB B P
  len : P.length = a.length + b.length
  car : c < B
  zero : ∀ t, i + b.length ≤ t → t < P.length → P[t]? = some 0
  val : valB B P + B ^ (i + j) * c = valB B (a.take i) * valB B b + B ^ i * x * valB B (b.take j)
theorem mul_car {B c x y p : Nat} (hc : c < B) (hx : x < B) (hy : y < B) (hp : p < B) : c + (x * y + p) < B * B := by
  have h1 : x * y ≤ (B - 1) * (B - 1) := Nat.mul_le_mul (by omega) (by omega)
  obtain ⟨k, rfl⟩ : ∃ k, B = k + 1 := ⟨B - 1, by omega⟩
  simp only [Nat.add_sub_cancel] at h1
  have : (k + 1) * (k + 1) = k * k + 2 * k + 1 := by rw [Nat.add_mul, Nat.mul_add]; omega
  omega
theorem MInv.start {B : Nat} (hB : 1 ≤ B) (a b : List Nat) (x : Nat) : MInv B a b 0 0 x 0 (List.replicate (a.length + b.length) 0) :=
  ⟨okB_replicate hB _, List.length_replicate, by omega, fun t _ h => by
    rw [List.length_replicate] at h
    rw [List.getElem?_replicate, if_pos h], by rw [valB_replicate]; simp [valB]⟩
theorem MInv.step {B : Nat} {a b : List Nat} {i j x c p y : Nat} {P : List Nat} (h : MInv B a b i j x c P) (hx : x < B) (hb : okB B b) (hj : j < b.length) (hy : b[j]? = some y) (hp : P[i + j]? = some p) :
    MInv B a b i (j + 1) x ((c + (x * y + p)) / B) (P.set (i + j) ((c + (x * y + p)) % B)) := by
  have hc := h.car
  have hB : 0 < B := by omega
  have hyl := ok_get hb hy
  have hpl := ok_get h.ok hp
  refine ⟨okB_set h.ok (Nat.mod_lt _ hB) _, by rw [List.length_set]; exact h.len, ?_, ?_, ?_⟩
  · rw [Nat.div_lt_iff_lt_mul hB]; exact mul_car hc hx hyl hpl
  · intro t h1 h2
    rw [List.length_set] at h2
    rw [List.getElem?_set_ne (by omega)]
    exact h.zero t h1 h2
  · have h1 := valB_setq B ((c + (x * y + p)) % B) hp
    have h2 := valB_takeq B hy
    have h3 := h.val
    have h4 : (c + (x * y + p)) % B + B * ((c + (x * y + p)) / B) = c + (x * y + p) := Nat.mod_add_div _ _
    rw [h2, show i + (j + 1) = i + j + 1 by omega, Nat.pow_succ]
    generalize (c + (x * y + p)) % B = r at *
    generalize (c + (x * y + p)) / B = q at *
    have h5 : B ^ (i + j) = B ^ i * B ^ j := Nat.pow_add _ _ _
    rw [h5] at *
    grind
theorem MInv.row {B : Nat} {a b : List Nat} {i x c : Nat} {P : List Nat} (h : MInv B a b i b.length x c P) (hi : i < a.length) (hx : a[i]? = some x) (x' : Nat) :
    MInv B a b (i + 1) 0 x' 0 (P.set (i + b.length) c) := by
  have hc := h.car
  have hl := h.len
  refine ⟨okB_set h.ok hc _, by rw [List.length_set]; exact hl, by omega, ?_, ?_⟩
  · intro t h1 h2
    rw [List.length_set] at h2
    rw [List.getElem?_set_ne (by omega)]
    exact h.zero t (by omega) h2
  · have h1 := valB_setq B c (h.zero (i + b.length) (Nat.le_refl _) (by omega))
    have h2 := valB_takeq B hx
    have h3 := h.val
    rw [List.take_length] at h3
    rw [h2]
    simp [valB] at *
    rw [Nat.add_mul]
    omega
theorem MInv.again {B : Nat} {a b : List Nat} {i c x : Nat} {P : List Nat} (h : MInv B a b i 0 x c P) (hc : c = 0) (x' : Nat) : MInv B a b i 0 x' 0 P :=
  ⟨h.ok, h.len, by have := h.car; omega, h.zero, by have := h.val; subst hc; simp [valB] at *; exact this⟩
theorem MInv.done {B : Nat} {a b : List Nat} {x c : Nat} {P : List Nat} (h : MInv B a b a.length 0 x c P) (hc : c = 0) : valB B P = valB B a * valB B b := by
  have := h.val
  subst hc
  rw [List.take_length] at this
  simpa [valB] using this

/-! ### a number times a limb plus a limb, in place -/
structure EInv (B : Nat) (a : List Nat) (m c0 i c : Nat) (t : List Nat) : Prop where
  ok : okB B t
  len : t.length = a.length
  car : c < B
  rest : t.drop i = a.drop i
  val : valB B (t.take i) + B ^ i * c = valB B (a.take i) * m + c0
theorem EInv.start {B : Nat} {a : List Nat} (ha : okB B a) (m c0 : Nat) (hc : c0 < B) : EInv B a m c0 0 c0 a := ⟨ha, rfl, hc, rfl, by simp [valB]⟩
theorem drop_set_succ {l : List Nat} {k y : Nat} : (l.set k y).drop (k + 1) = l.drop (k + 1) := by
  rw [List.drop_set]; simp
theorem get_of_drop {s t : List Nat} {k : Nat} (h : s.drop k = t.drop k) : s[k]? = t[k]? := by
  have := congrArg (fun l : List Nat => l[0]?) h
  simpa using this
theorem drop_succ_of {s t : List Nat} {k : Nat} (h : s.drop k = t.drop k) : s.drop (k + 1) = t.drop (k + 1) := by
  have := congrArg (fun l : List Nat => l.drop 1) h
  simpa [List.drop_drop] using this
theorem EInv.step {B : Nat} {a : List Nat} {m c0 i c x : Nat} {t : List Nat} (ha : okB B a) (hm : m < B) (h : EInv B a m c0 i c t) (hx : a[i]? = some x) :
    EInv B a m c0 (i + 1) ((c + x * m) / B) (t.set i ((c + x * m) % B)) := by
  have hc := h.car
  have hB : 0 < B := by omega
  have hxl := ok_get ha hx
  have hxt : t[i]? = some x := (get_of_drop h.rest).trans hx
  refine ⟨okB_set h.ok (Nat.mod_lt _ hB) _, by rw [List.length_set]; exact h.len, ?_, ?_, ?_⟩
  · rw [Nat.div_lt_iff_lt_mul hB]
    have := mul_car (p := 0) hc hxl hm hB
    omega
  · rw [drop_set_succ]; exact drop_succ_of h.rest
  · rw [set_takeq hxt, valB_snoc, List.length_take, Nat.min_eq_left (by have := get_lt hxt; omega), valB_takeq B hx]
    have h3 := h.val
    have h4 : (c + x * m) % B + B * ((c + x * m) / B) = c + x * m := Nat.mod_add_div _ _
    generalize (c + x * m) % B = r at *
    generalize (c + x * m) / B = q at *
    rw [Nat.pow_succ]
    grind
theorem EInv.done {B : Nat} {a : List Nat} {m c0 c : Nat} {t : List Nat} (h : EInv B a m c0 a.length c t) : valB B (t ++ [c]) = valB B a * m + c0 := by
  have h1 := h.val
  rw [List.take_length] at h1
  rw [valB_snoc, h.len]
  rw [show t.take a.length = t by rw [← h.len, List.take_length]] at h1
  exact h1
theorem EInv.done0 {B : Nat} {a : List Nat} {m c0 : Nat} {t : List Nat} (h : EInv B a m c0 a.length 0 t) : valB B t = valB B a * m + c0 := by
  have := h.done
  rw [valB_snoc] at this
  simpa using this
theorem nrm_snoc {t : List Nat} {c : Nat} (h : c ≠ 0) : nrm (t ++ [c]) := by
  intro x hx
  simp at hx
  omega
theorem EInv.nrm0 {B : Nat} (hB : 2 ≤ B) {a : List Nat} {m c0 : Nat} {t : List Nat} (h : EInv B a m c0 a.length 0 t) (ha : nrm a) (hm : 1 ≤ m) : nrm t := by
  refine nrm_of_ge hB h.ok ?_
  rcases Nat.eq_zero_or_pos a.length with h0 | h0
  · exact Or.inl (List.eq_nil_of_length_eq_zero (by rw [h.len]; exact h0))
  · right
    have h1 := ge_of_nrm hB ha (List.length_pos_iff.1 h0)
    have h2 := h.done0
    have h3 : valB B a * 1 ≤ valB B a * m := Nat.mul_le_mul_left _ hm
    rw [h.len]
    omega

/-! ### division by a limb, from the top -/
structure VInv (B : Nat) (a : List Nat) (d k r : Nat) (t : List Nat) : Prop where
  ok : okB B t
  len : t.length = a.length
  rem : r < d
  rest : t.take k = a.take k
  val : valB B (t.drop k) * d + r = valB B (a.drop k)
theorem VInv.start {B : Nat} {a : List Nat} (ha : okB B a) {d : Nat} (hd : 0 < d) : VInv B a d a.length 0 a := ⟨ha, rfl, hd, rfl, by simp [valB]⟩
theorem get_of_take {s t : List Nat} {k j : Nat} (h : s.take k = t.take k) (hj : j < k) : s[j]? = t[j]? := by
  have := congrArg (fun l : List Nat => l[j]?) h
  simp only [List.getElem?_take] at this
  rwa [if_pos hj, if_pos hj] at this
theorem div_lt_base {B r x d : Nat} (hr : r < d) (hx : x < B) : (r * B + x) / d < B := by
  rw [Nat.div_lt_iff_lt_mul (by omega)]
  have : (r + 1) * B ≤ d * B := Nat.mul_le_mul_right _ hr
  rw [Nat.add_mul] at this
  rw [Nat.mul_comm B d]
  omega
theorem VInv.step {B : Nat} {a : List Nat} {d j r x : Nat} {t : List Nat} (ha : okB B a) (h : VInv B a d (j + 1) r t) (hx : a[j]? = some x) :
    VInv B a d j ((r * B + x) % d) (t.set j ((r * B + x) / d)) := by
  have hr := h.rem
  have hxl := ok_get ha hx
  have hxt : t[j]? = some x := (get_of_take h.rest (by omega)).trans hx
  have hq := div_lt_base hr hxl
  refine ⟨okB_set h.ok hq _, by rw [List.length_set]; exact h.len, Nat.mod_lt _ (by omega), ?_, ?_⟩
  · rw [List.take_set_of_le (Nat.le_refl _)]
    have := congrArg (fun l : List Nat => l.take j) h.rest
    simpa [List.take_take] using this
  · have h1 : (t.set j ((r * B + x) / d))[j]? = some ((r * B + x) / d) := by rw [List.getElem?_set_self (get_lt hxt)]
    rw [valB_dropq B h1, drop_set_succ, valB_dropq B hx]
    have h3 := h.val
    have h4 : (r * B + x) % d + d * ((r * B + x) / d) = r * B + x := Nat.mod_add_div _ _
    generalize (r * B + x) % d = r' at *
    generalize (r * B + x) / d = q at *
    grind
theorem VInv.done {B : Nat} {a : List Nat} {d r : Nat} {t : List Nat} (h : VInv B a d 0 r t) : valB B t = valB B a / d ∧ r = valB B a % d := by
  have h1 := h.val
  have h2 := h.rem
  simp at h1
  have e : r + d * valB B t = valB B a := by rw [Nat.mul_comm]; omega
  constructor
  · rw [← e, Nat.add_mul_div_left _ _ (by omega), Nat.div_eq_of_lt h2]; omega
  · rw [← e, Nat.add_mul_mod_self_left, Nat.mod_eq_of_lt h2]

/-! ### order -/
def cmpN (a b : Nat) : Int := if a < b then -1 else if b < a then 1 else 0
theorem cmp_lt {a b : Nat} (h : a < b) : cmpN a b = -1 := by unfold cmpN; rw [if_pos h]
theorem cmp_gt {a b : Nat} (h : b < a) : cmpN a b = 1 := by unfold cmpN; rw [if_neg (by omega), if_pos h]
theorem cmp_eq (a : Nat) : cmpN a a = 0 := by unfold cmpN; rw [if_neg (by omega), if_neg (by omega)]
theorem trim_ex {B : Nat} (hB : 2 ≤ B) {l : List Nat} (ho : okB B l) : ∃ k, k ≤ l.length ∧ l.take k = digs B (valB B l) := by
  have key : ∀ n, n ≤ l.length → valB B (l.take n) = valB B l → ∃ k, k ≤ l.length ∧ l.take k = digs B (valB B l) := by
    intro n
    induction n with
    | zero => intro _ hv; exact ⟨0, Nat.zero_le _, (trim0 hB ho hv).symm⟩
    | succ n ih =>
      intro hn hv
      obtain ⟨x, hx⟩ := some_get (l := l) (k := n) (by omega)
      by_cases h0 : x = 0
      · subst h0
        exact ih (by omega) (trim_stepq B (k := n + 1) (by omega) hn hv hx)
      · exact ⟨n + 1, hn, trimq hB ho (k := n + 1) hn hv hx h0⟩
  exact key l.length (Nat.le_refl _) (by rw [List.take_length])
end Go.Proofs.YtgdjnohhofbcnaaDoor.NatM
end
section
namespace Go.Proofs.YtgdjnohhofbcnaaDoor.NatM
/-! ### decimal digits -/
structure TInv (n : Nat) (ds : List Nat) (q : Nat) : Prop where
  ok : okB 10 ds
  val : valB 10 ds + 10 ^ ds.length * q = n
  fin : q = 0 → nrm ds
theorem TInv.start (n : Nat) : TInv n [] n := ⟨okB_nil _, by simp [valB], fun _ _ h => by cases h⟩
theorem TInv.step {n q : Nat} {ds : List Nat} (h : TInv n ds q) (hq : 0 < q) : TInv n (ds ++ [q % 10]) (q / 10) := by
  refine ⟨okB_snoc h.ok (Nat.mod_lt _ (by omega)), ?_, fun h0 => nrm_snoc (by omega)⟩
  rw [valB_snoc, List.length_append, List.length_singleton, Nat.pow_succ, Nat.mul_assoc, Nat.add_assoc, ← Nat.mul_add]
  have : q % 10 + 10 * (q / 10) = q := by omega
  rw [this]; exact h.val
theorem TInv.done {n : Nat} {ds : List Nat} (h : TInv n ds 0) : digs 10 n = ds := digs_unique (by omega) h.ok (h.fin rfl) (by have := h.val; omega)
theorem TInv.len {n q : Nat} {ds : List Nat} (h : TInv n ds q) (hq : 0 < q) : 10 ^ ds.length ≤ n := by
  have h1 := h.val
  have : 10 ^ ds.length * 1 ≤ 10 ^ ds.length * q := Nat.mul_le_mul_left _ hq
  omega
theorem dec_len {n m k : Nat} (h : n < 4294967296 ^ m) (hk : 10 ^ k ≤ n) : k < 10 * m := by
  rcases Nat.lt_or_ge k (10 * m) with h1 | h1
  · exact h1
  · exfalso
    have h2 : 10 ^ (10 * m) ≤ 10 ^ k := Nat.pow_le_pow_right (by omega) h1
    rw [Nat.pow_mul] at h2
    have h3 : 4294967296 ^ m ≤ (10 ^ 10) ^ m := Nat.pow_le_pow_left (by decide) m
    omega
theorem pow9 {i : Nat} (h : i < 9) : 10 ^ (9 - i) = 10 * 10 ^ (9 - (i + 1)) := by
  rw [show 9 - i = (9 - (i + 1)) + 1 by omega, Nat.pow_succ, Nat.mul_comm]
theorem inner_step {n R i chunk : Nat} {ds : List Nat} (hi : i < 9) (h : TInv n ds (chunk + 10 ^ (9 - i) * R)) (hgo : 0 < R ∨ 0 < chunk) : TInv n (ds ++ [chunk % 10]) (chunk / 10 + 10 ^ (9 - (i + 1)) * R) := by
  have hp : 0 < chunk + 10 ^ (9 - i) * R := by
    rcases hgo with h1 | h1
    · have := Nat.mul_pos (Nat.pow_pos (by omega) : 0 < 10 ^ (9 - i)) h1; omega
    · omega
  have hs := h.step hp
  rw [pow9 hi, Nat.mul_assoc] at hs
  have e1 : (chunk + 10 * (10 ^ (9 - (i + 1)) * R)) % 10 = chunk % 10 := by omega
  have e2 : (chunk + 10 * (10 ^ (9 - (i + 1)) * R)) / 10 = chunk / 10 + 10 ^ (9 - (i + 1)) * R := by omega
  rw [e1, e2] at hs
  exact hs
theorem inner_lt {i chunk : Nat} (hi : i < 9) (h : chunk < 10 ^ (9 - i)) : chunk / 10 < 10 ^ (9 - (i + 1)) := by
  rw [pow9 hi] at h
  omega
theorem inner_le {i chunk : Nat} (h : chunk < 10 ^ (9 - i)) : chunk < 1000000000 := by
  have : 10 ^ (9 - i) ≤ 10 ^ 9 := Nat.pow_le_pow_right (by omega) (by omega)
  have e : 10 ^ 9 = 1000000000 := by decide
  omega
theorem inner_pos {n R i chunk : Nat} {ds : List Nat} (h : TInv n ds (chunk + 10 ^ (9 - i) * R)) (hgo : 0 < R ∨ 0 < chunk) : 10 ^ ds.length ≤ n := by
  refine h.len ?_
  rcases hgo with h1 | h1
  · have := Nat.mul_pos (Nat.pow_pos (by omega) : 0 < 10 ^ (9 - i)) h1; omega
  · omega
theorem outer_enter {n R : Nat} {ds : List Nat} (h : TInv n ds R) : TInv n ds (R % 1000000000 + 10 ^ (9 - 0) * (R / 1000000000)) := by
  have e : 10 ^ (9 - 0) = 1000000000 := by decide
  rw [e, Nat.mod_add_div]; exact h
/-- The decimal digits of a number, the highest first. -/
def decL (n : Nat) : List Nat := if n = 0 then [0] else (digs 10 n).reverse

/-! ### turning a list round, two by two -/
def RevAt {α : Type} (xs zs : List α) (k : Nat) : Prop := zs.length = xs.length ∧ ∀ t, t < xs.length → zs[t]? = if t < k ∨ xs.length ≤ t + k then xs[xs.length - 1 - t]? else xs[t]?
theorem RevAt.start {α : Type} (xs : List α) : RevAt xs xs 0 := ⟨rfl, fun t ht => by rw [if_neg (by omega)]⟩
theorem RevAt.step {α : Type} {xs zs : List α} {k : Nat} {x y : α} (h : RevAt xs zs k) (hk : 2 * k + 1 < xs.length) (hx : zs[k]? = some x) (hy : zs[xs.length - 1 - k]? = some y) :
    RevAt xs ((zs.set k y).set (xs.length - 1 - k) x) (k + 1) := by
  obtain ⟨hl, ha⟩ := h
  have hx' := ha k (by omega)
  rw [hx, if_neg (by omega)] at hx'
  have hy' := ha (xs.length - 1 - k) (by omega)
  rw [hy, if_neg (by omega)] at hy'
  refine ⟨by simp [hl], fun t ht => ?_⟩
  by_cases h1 : t = xs.length - 1 - k
  · subst h1
    rw [List.getElem?_set_self (by simp; omega), if_pos (by omega), show xs.length - 1 - (xs.length - 1 - k) = k by omega]
    exact hx'
  · rw [List.getElem?_set_ne (by omega)]
    by_cases h2 : t = k
    · subst h2
      rw [List.getElem?_set_self (by omega), if_pos (by omega)]
      exact hy'
    · rw [List.getElem?_set_ne (by omega), ha t ht]
      by_cases h3 : t < k ∨ xs.length ≤ t + k
      · rw [if_pos h3, if_pos (by omega)]
      · rw [if_neg h3, if_neg (by omega)]
theorem RevAt.done {α : Type} {xs zs : List α} {k : Nat} (h : RevAt xs zs k) (hk : xs.length ≤ 2 * k + 1) : zs = xs.reverse := by
  obtain ⟨hl, ha⟩ := h
  apply List.ext_getElem?
  intro t
  rcases Nat.lt_or_ge t xs.length with ht | ht
  · rw [ha t ht, List.getElem?_reverse ht]
    split
    · rfl
    · congr 1; omega
  · rw [List.getElem?_eq_none (by omega), List.getElem?_eq_none (by simp; omega)]
end Go.Proofs.YtgdjnohhofbcnaaDoor.NatM
end
section
namespace Go.Proofs.YtgdjnohhofbcnaaDoor
open Go.RowKit NatM

theorem infoI : (Tryd.prog.info? 3).map (fun i => (i.zero, i.size, i.bytes)) = some (some (.int .i64 0), 1, 8) := by kernel_rfl
theorem cI_set (l : List Int) (k : Nat) (x : Int) : cI (l.set k x) = (cI l).set k (.int .i64 x) := by simp [cI, List.map_set]
set_option maxRecDepth 100000 in
set_option maxHeartbeats 1000000 in
theorem cloneI_any (p : Option Addr) (cap : Nat) (l : List Int) (w : World) (h : IntV w.heap.size w p cap l) (hl : l.length ≤ 17592186044000) :
    Calls Tryd.prog 37 #[.slice p l.length cap] w (IntPost w l) := by
  obtain ⟨i0, hi, hz0, hz1, hz2⟩ := info_parts infoI
  have H := Lib.hid h
  have hle := h.le
  have hnn := fun (W : World) (a : Option Addr) (n c : Nat) => Lib.run_eql_slice_nil (P := Tryd.prog) W 22 3 a n c 0 0 Tryd.underlying22
  rcases p with _ | a
  · have hc := h.nil rfl
    subst hc
    have hl0 : l = [] := List.eq_nil_of_length_eq_zero (by omega)
    subst hl0
    clear h
    show Calls Tryd.prog 37 #[.slice none 0 0] w (IntPost w [])
    go_enter Tryd.func37, Tryd.ntmps37
    go_wp2_with fail
    go_ret
    exact ⟨none, 0, rfl, IntO.nothing _ _, Below.refl _ _⟩
  · rcases Nat.eq_zero_or_pos l.length with hl0 | hl0
    · obtain rfl : l = [] := List.eq_nil_of_length_eq_zero hl0
      clear h
      show Calls Tryd.prog 37 #[.slice (some a) 0 cap] w (IntPost w [])
      go_enter Tryd.func37, Tryd.ntmps37
      go_wp2_with (at_builtin; refine wpList_append_own _ rfl _ _ 22 rfl w.heap.size 3 i0 (.int .i64 0) 1 8 Tryd.underlying22 hi hz0 hz1 hz2 rfl (by decide) _ 0 [] rfl (World.ownsRow_made w #[] 0 (Nat.le_refl _) (Nat.zero_le _) rfl) a 0 cap [] rfl rfl ?c1 ?c2 ?c3 ?c4 ?c5 ?_)
      case c1 => intro j u hj; simp at hj
      case c2 => intro u hu; simp at hu
      case c3 => unfold maxLen; omega
      case c4 => omega
      case c5 => simp
      intro v' w1 hown' hgrow _
      obtain ⟨p1, c1, rfl, ho1⟩ := IntO.slice_own (l := []) hown'
      have hb1 : Below w.heap.size w w1 := ((Below.refl _ _).alloc (Nat.le_refl _) _).grown hgrow (by simp) (fun j hj => by have := Option.some.inj hj; simp at this; omega)
      have HO := Lib.hid (And.intro ho1 hb1)
      clear hown' hgrow ho1 hb1
      go_wp2_with fail
      go_ret
      exact ⟨p1, c1, rfl, HO.out.1, HO.out.2⟩
    · obtain ⟨b, off, ha, hb, hc⟩ := h.cell (List.length_pos_iff.1 hl0)
      have HA := Lib.hid ha
      obtain rfl : a = ⟨b, off, none⟩ := by simpa using ha
      have HC := Lib.hid hc
      clear h hc ha
      go_enter Tryd.func37, Tryd.ntmps37
      go_wp2_with (at_builtin; refine wpList_append_own _ rfl _ _ 22 rfl w.heap.size 3 i0 (.int .i64 0) 1 8 Tryd.underlying22 hi hz0 hz1 hz2 rfl (by decide) _ 0 [] rfl (World.ownsRow_made w #[] 0 (Nat.le_refl _) (Nat.zero_le _) rfl) ⟨b, off, none⟩ l.length cap (cI l) rfl ?c0 ?c1 ?c2 ?c3 ?c4 ?c5 ?_)
      case c0 => simp [cI]
      case c1 =>
        intro j u hj
        unfold cI at hj
        rw [List.getElem?_map] at hj
        obtain ⟨x, hx, rfl⟩ := Option.map_eq_some_iff.1 hj
        exact HC.out j x hx
      case c2 =>
        intro u hu
        unfold cI at hu
        obtain ⟨x, _, rfl⟩ := List.mem_map.1 hu
        rfl
      case c3 => unfold maxLen; omega
      case c4 => omega
      intro v' w1 hown' hgrow _
      obtain ⟨p1, c1, rfl, ho1⟩ := IntO.slice_own (l := l) (by simpa using hown')
      have hb1 : Below w.heap.size w w1 := ((Below.refl _ _).alloc (Nat.le_refl _) _).grown hgrow (by simp) (fun j hj => by have := Option.some.inj hj; simp at this; omega)
      have HO := Lib.hid (And.intro ho1 hb1)
      clear hown' hgrow ho1 hb1
      go_wp2_with fail
      go_ret
      exact ⟨p1, c1, by simp, HO.out.1, HO.out.2⟩
def RevRelI (w : World) (base g cap : Nat) (xs : List Int) (v2 v3 : Value) (wr : World) : Prop :=
  ∃ (k : Nat) (zs : List Int), 2 * k ≤ xs.length ∧ v2 = .int .i64 (k : Int) ∧ v3 = .int .i64 ((xs.length : Int) - 1 - (k : Int)) ∧ RevAt xs zs k ∧ wr.ownsRow base 3 1 (.slice (some ⟨g, 0, none⟩) xs.length cap) xs.length (cI zs) ∧ w.grownBy wr (some g)
def RevPostI (w : World) (base g cap : Nat) (xs : List Int) (e : Ending) (w' : World) : Prop :=
  e = .returned (.tuple #[]) ∧ w'.ownsRow base 3 1 (.slice (some ⟨g, 0, none⟩) xs.length cap) xs.length (cI xs.reverse) ∧ w.grownBy w' (some g)

end Go.Proofs.YtgdjnohhofbcnaaDoor
end
section
namespace Go.Proofs.YtgdjnohhofbcnaaDoor
open Go.RowKit WordM

/-- of two numbers -/
def cmpInt (x y : Int) : Int := if x < y then -1 else if y < x then 1 else 0
theorem cmpInt_lt {x y : Int} (h : x < y) : cmpInt x y = -1 := by unfold cmpInt; rw [if_pos h]
theorem cmpInt_gt {x y : Int} (h : y < x) : cmpInt x y = 1 := by unfold cmpInt; rw [if_neg (by omega), if_pos h]
theorem cmpInt_self (x : Int) : cmpInt x x = 0 := by unfold cmpInt; rw [if_neg (by omega), if_neg (by omega)]
theorem isNaN_any (x : Int) (w : World) : Calls Tryd.prog 80 #[.int .i64 x] w fun e w' => e = .returned (.bool false) ∧ w = w' := by
  go_enter Tryd.func80, Tryd.ntmps80
  go_wp2
  go_ret
  exact ⟨rfl, rfl⟩
theorem compare_any (x y : Int) (w : World) : Calls Tryd.prog 69 #[.int .i64 x, .int .i64 y] w fun e w' => e = .returned (.int .i64 (cmpInt x y)) ∧ w = w' := by
  rcases (by omega : x < y ∨ y < x ∨ x = y) with h | h | h
  · have hc := cmpInt_lt h
    have HC := Lib.hid hc
    clear hc
    go_enter Tryd.func69, Tryd.ntmps69
    go_wp2_with (go_at_call 80; refine (isNaN_any _ _).mono ?_; rintro e w' ⟨rfl, rfl⟩)
    go_ret
    exact ⟨by rw [HC.out]; rfl, rfl⟩
  · have hc := cmpInt_gt h
    have HC := Lib.hid hc
    have h' : ¬ x < y := by omega
    clear hc
    go_enter Tryd.func69, Tryd.ntmps69
    go_wp2_with (go_at_call 80; refine (isNaN_any _ _).mono ?_; rintro e w' ⟨rfl, rfl⟩)
    go_ret
    exact ⟨by rw [HC.out]; rfl, rfl⟩
  · subst h
    have hc := cmpInt_self x
    have HC := Lib.hid hc
    clear hc
    go_enter Tryd.func69, Tryd.ntmps69
    go_wp2_with (go_at_call 80; refine (isNaN_any _ _).mono ?_; rintro e w' ⟨rfl, rfl⟩)
    go_ret
    exact ⟨by rw [HC.out]; rfl, rfl⟩

theorem get_take_alike {a b : List Int} {j : Nat} (h : a.take j = b.take j) : ∀ i, i < j → a[i]? = b[i]? := fun i hi => by
  have e := congrArg (fun l : List Int => l[i]?) h
  simpa [List.getElem?_take, hi] using e
end Go.Proofs.YtgdjnohhofbcnaaDoor
end
section
namespace Go.Proofs.YtgdjnohhofbcnaaDoor
open Go.RowKit Go.Extern.Stop Go.Stop Go.Extern WordM

def wordOp : ByteArray := { data := #[119, 111, 114, 100] }
theorem alpha_yes (k : Int) (w : World) (h1 : 1 ≤ k) (h4 : k ≤ 4) : Calls Tryd.prog 71 #[.int .i64 k] w fun e w' => e = .returned (.bool true) ∧ w = w' := by
  go_enter Tryd.func71, Tryd.ntmps71
  go_wp2
  go_ret
  exact ⟨rfl, rfl⟩
theorem alpha_no (k : Int) (w : World) (h : k < 1 ∨ 4 < k) : Calls Tryd.prog 71 #[.int .i64 k] w fun e w' => e = .returned (.bool false) ∧ w = w' := by
  rcases h with h | h
  · have h1 : ¬ 1 ≤ k := by omega
    go_enter Tryd.func71, Tryd.ntmps71
    go_wp2
    go_ret
    exact ⟨rfl, rfl⟩
  · have h1 : 1 ≤ k := by omega
    have h2 : ¬ k ≤ 4 := by omega
    go_enter Tryd.func71, Tryd.ntmps71
    go_wp2
    go_ret
    exact ⟨rfl, rfl⟩

theorem check_ok (k : Int) (p : Option Addr) (n c : Nat) (l : List Int) (w : World) (hn : n = l.length) (h : IntV w.heap.size w p c l) (hc : chkW k l = none) :
    Calls Tryd.prog 53 #[.int .i64 k, .slice p n c] w (Tells .nilIface w) := by
  obtain ⟨k, rfl, h1, h4, hl, ho⟩ := chkW_none hc
  have hle := h.le
  have hcap := h.cap
  unfold maxLen at hcap
  have hn4 : n ≤ 4096 := by omega
  have hnc : n ≤ c := by omega
  have H := Lib.hid (And.intro h (And.intro ho hn))
  clear h hc hl ho hn hle
  go_enter Tryd.func53, Tryd.ntmps53
  go_wp2_with fail
  refine (alpha_yes _ _ (by omega) (by omega)).mono ?_
  rintro e w' ⟨rfl, rfl⟩
  go_wp2_with fail
  go_loop [17] (fun v => ∃ j : Nat, j ≤ n ∧ v = .int .i64 (j : Int)) (fun v => n - (intOf v).toNat)
  case atStart => exact ⟨0, Nat.zero_le _, rfl⟩
  case round =>
    obtain ⟨j, hj, rfl⟩ := hrel
    by_cases hlt : j < n
    · have hnl := H.out.2.2
      have hne : l ≠ [] := by rintro rfl; simp at hnl; omega
      obtain ⟨b, off, rfl, hb, hc⟩ := H.out.1.cell hne
      obtain ⟨x, hx⟩ := getI (l := l) (k := j) (by omega)
      have hcx := hc j x hx
      have hxo := H.out.2.1 x (List.mem_of_getElem? hx)
      have hx1 : ¬ x < 0 := by omega
      have hx2 : ¬ (k : Int) ≤ x := by omega
      clear hc hx hne hnl hxo
      go_wp2_with fail
      go_round
      case rel => exact ⟨j + 1, by omega, by go_num⟩
      case measure => simp [intOf]; omega
    · obtain rfl : j = n := by omega
      go_wp2_with fail
      go_ret
      exact ⟨rfl, Below.refl _ _⟩

theorem check_bad (k : Int) (p : Option Addr) (n c : Nat) (l : List Int) (w : World) (A : Nat → Addr) (hr : Roots w A) (hn : n = l.length) (h : IntV w.heap.size w p c l) (i m : Nat) (hc : chkW k l = some (i, m)) :
    Calls Tryd.prog 53 #[.int .i64 k, .slice p n c] w (Err1 w A wordOp i m) := by
  unfold chkW at hc
  have hle := h.le
  have hcap := h.cap
  unfold maxLen at hcap
  have hnc : n ≤ c := by omega
  split at hc
  · obtain ⟨rfl, rfl⟩ := Prod.mk.inj (Option.some.inj hc)
    have HR := Lib.hid hr
    clear h hn hle hr hc
    go_enter Tryd.func53, Tryd.ntmps53
    go_wp2_with fail
    refine (alpha_no _ _ (by omega)).mono ?_
    rintro e w' ⟨rfl, rfl⟩
    go_wp2_with fail
    refine (new_at wordOp 0 3 _ A HR.out (by omega)).mono ?_
    rintro e w1 ⟨b, rfl, hl1, hb1⟩
    have H := Lib.hid (And.intro hl1 hb1)
    clear hl1 hb1
    go_wp2_with fail
    go_ret
    exact ⟨_, rfl, H.out.1, H.out.2⟩
  · split at hc
    · obtain ⟨rfl, rfl⟩ := Prod.mk.inj (Option.some.inj hc)
      have HR := Lib.hid hr
      have hn4 : 4096 < n := by omega
      clear h hn hle hr hc
      go_enter Tryd.func53, Tryd.ntmps53
      go_wp2_with fail
      refine (alpha_yes _ _ (by omega) (by omega)).mono ?_
      rintro e w' ⟨rfl, rfl⟩
      go_wp2_with fail
      refine (new_at wordOp 0 4 _ A HR.out (by omega)).mono ?_
      rintro e w1 ⟨b, rfl, hl1, hb1⟩
      have H := Lib.hid (And.intro hl1 hb1)
      clear hl1 hb1
      go_wp2_with fail
      go_ret
      exact ⟨_, rfl, H.out.1, H.out.2⟩
    · obtain ⟨i', hi, he⟩ := Option.map_eq_some_iff.1 hc
      obtain ⟨rfl, rfl⟩ := Prod.mk.inj he
      obtain ⟨hil, hbad, hall⟩ := List.findIdx?_eq_some_iff_getElem.1 hi
      have hn4 : n ≤ 4096 := by omega
      have hin : i' < n := by omega
      have H := Lib.hid (And.intro h (And.intro hr (And.intro hn (And.intro hbad hall))))
      have hk1 : 1 ≤ k := by omega
      have hk4 : k ≤ 4 := by omega
      clear h hr hn hle hc hi he hbad hall
      go_enter Tryd.func53, Tryd.ntmps53
      go_wp2_with fail
      refine (alpha_yes _ _ hk1 hk4).mono ?_
      rintro e w' ⟨rfl, rfl⟩
      go_wp2_with fail
      go_loop [17] (fun v => ∃ j : Nat, j ≤ i' ∧ v = .int .i64 (j : Int)) (fun v => n - (intOf v).toNat)
      case atStart => exact ⟨0, Nat.zero_le _, rfl⟩
      case round =>
        obtain ⟨j, hj, rfl⟩ := hrel
        have hne : l ≠ [] := by rintro rfl; simp at hil
        obtain ⟨b, off, rfl, hb, hc⟩ := H.out.1.cell hne
        by_cases hlt : j < i'
        · have hx : l[j]? = some l[j] := List.getElem?_eq_getElem (by omega)
          have hg := H.out.2.2.2.2 j hlt
          obtain ⟨x, hxx⟩ : ∃ x, l[j] = x := ⟨_, rfl⟩
          rw [hxx] at hx hg
          have hcx := hc j x hx
          unfold badAt at hg
          simp at hg
          have hx1 : ¬ x < 0 := by omega
          have hx2 : ¬ k ≤ x := by omega
          clear hc hx hne hg hxx
          go_wp2_with fail
          go_round
          case rel => exact ⟨j + 1, by omega, by go_num⟩
          case measure => simp [intOf]; omega
        · obtain rfl : j = i' := by omega
          have hx : l[j]? = some l[j] := List.getElem?_eq_getElem (by omega)
          have hg := H.out.2.2.2.1
          obtain ⟨x, hxx⟩ : ∃ x, l[j] = x := ⟨_, rfl⟩
          rw [hxx] at hx hg
          have hcx := hc j x hx
          unfold badAt at hg
          simp at hg
          clear hc hx hne hxx
          rcases Int.lt_or_le x 0 with hx1 | hx1
          · clear hg
            go_wp2_with fail
            refine (new_at wordOp j 2 _ A H.out.2.1 (by omega)).mono ?_
            rintro e w1 ⟨b, rfl, hl1, hb1⟩
            have H := Lib.hid (And.intro hl1 hb1)
            clear hl1 hb1
            go_wp2_with fail
            go_ret
            exact ⟨_, rfl, H.out.1, H.out.2⟩
          · have hx2 : k ≤ x := by omega
            have hx3 : ¬ x < 0 := by omega
            clear hg
            go_wp2_with fail
            refine (new_at wordOp j 2 _ A H.out.2.1 (by omega)).mono ?_
            rintro e w1 ⟨b, rfl, hl1, hb1⟩
            have H := Lib.hid (And.intro hl1 hb1)
            clear hl1 hb1
            go_wp2_with fail
            go_ret
            exact ⟨_, rfl, H.out.1, H.out.2⟩
end Go.Proofs.YtgdjnohhofbcnaaDoor
end
section
namespace Go.Proofs.YtgdjnohhofbcnaaDoor
open Go.RowKit Go.Extern.Stop Go.Stop Go.Extern WordM RuleM

def ruleOp : ByteArray := { data := #[114, 117, 108, 101] }

theorem small_sq {k : Nat} (h4 : k ≤ 4) : k * k ≤ 16 := Nat.mul_le_mul h4 h4
theorem small_pow {k j : Nat} (h4 : k ≤ 4) (h : j ≤ 2) : k ^ (2 * j + 1) ≤ 1024 :=
  Nat.le_trans (Nat.pow_le_pow_left h4 _) (Nat.le_trans (Nat.pow_le_pow_right (by omega) (by omega : 2 * j + 1 ≤ 5)) (by decide))
theorem pow_next (k j : Nat) : k ^ (2 * j + 1) * (k * k) = k ^ (2 * (j + 1) + 1) := by
  rw [show 2 * (j + 1) + 1 = 2 * j + 1 + 1 + 1 by omega, Nat.pow_succ k (2 * j + 1 + 1), Nat.pow_succ k (2 * j + 1), Nat.mul_assoc]
/-- how many windows, and no error -/
def SizeOk (w : World) (n : Nat) (e : Ending) (w' : World) : Prop := e = .returned (.tuple #[.int .i64 (n : Int), .nilIface]) ∧ w = w'
set_option maxHeartbeats 1000000 in
theorem size_ok (k r : Nat) (w : World) (h1 : 1 ≤ k) (h4 : k ≤ 4) (h3 : r ≤ 3) :
    Calls Tryd.prog 68 #[.int .i64 (k : Int), .int .i64 (r : Int)] w (SizeOk w (k ^ (2 * r + 1))) := by
  go_enter Tryd.func68, Tryd.ntmps68
  go_wp2_with fail
  go_loop [6, 24] (fun v6 v24 => ∃ j : Nat, j ≤ r ∧ v24 = .int .i64 (j : Int) ∧ v6 = .int .i64 ((k ^ (2 * j + 1) : Nat) : Int)) (fun _ v => r - (intOf v).toNat)
  case atStart => exact ⟨0, Nat.zero_le _, rfl, by simp⟩
  case round =>
    obtain ⟨j, hj, rfl, rfl⟩ := hrel
    by_cases hlt : j < r
    · have hs := small_pow (j := j) h4 (by omega)
      have hq := small_sq h4
      have hn := pow_next k j
      have hqq : ((k : Int) * (k : Int)) = ((k * k : Nat) : Int) := by push_cast; rfl
      obtain ⟨s, hs'⟩ : ∃ s, k ^ (2 * j + 1) = s := ⟨_, rfl⟩
      obtain ⟨q, hq'⟩ : ∃ q, k * k = q := ⟨_, rfl⟩
      rw [hs', hq'] at hn
      rw [hs'] at hs ⊢
      rw [hq'] at hq hqq
      have hsq : s * q ≤ 1024 * 16 := Nat.mul_le_mul hs hq
      have hsm : ((s : Int) * (q : Int)) = ((s * q : Nat) : Int) := by push_cast; rfl
      rw [hn] at hsq hsm
      obtain ⟨u, hu⟩ : ∃ u, k ^ (2 * (j + 1) + 1) = u := ⟨_, rfl⟩
      rw [hu] at hsq hsm
      have w1 : IntKind.i64.wrap ((k : Int) * (k : Int)) = (q : Int) := by rw [hqq, IntWalk.i64_in _ (by omega)]
      have w2 : IntKind.i64.wrap ((s : Int) * (q : Int)) = (u : Int) := by rw [hsm, IntWalk.i64_in _ (by omega)]
      have HU := Lib.hid hu
      clear hn hs' hq' hqq hsm hu
      go_wp2_with fail
      go_round
      case rel => exact ⟨j + 1, by omega, by go_num, by rw [HU.out]⟩
      case measure => simp [intOf]; omega
    · obtain rfl : j = r := by omega
      go_wp2_with fail
      go_ret2
      exact ⟨rfl, rfl⟩
theorem size_bad (k r : Int) (w : World) (A : Nat → Addr) (hr : Roots w A) (h : (k < 1 ∨ 4 < k) ∨ r < 0 ∨ 3 < r) :
    Calls Tryd.prog 68 #[.int .i64 k, .int .i64 r] w (Err2 w A ruleOp 0 3 (.int .i64 0)) := by
  have HR := Lib.hid hr
  clear hr
  rcases (by omega : k < 1 ∨ (¬ k < 1 ∧ 4 < k) ∨ (¬ k < 1 ∧ ¬ 4 < k ∧ r < 0) ∨ (¬ k < 1 ∧ ¬ 4 < k ∧ ¬ r < 0 ∧ 3 < r)) with h1 | ⟨h1, h2⟩ | ⟨h1, h2, h3⟩ | ⟨h1, h2, h3, h4⟩
  all_goals
    clear h
    go_enter Tryd.func68, Tryd.ntmps68
    go_wp2_with fail
    refine (new_at ruleOp 0 3 _ A HR.out (by omega)).mono ?_
    rintro e w1 ⟨b, rfl, hl1, hb1⟩
    have H := Lib.hid (And.intro hl1 hb1)
    clear hl1 hb1
    go_wp2_with fail
    go_ret2
    exact ⟨_, rfl, H.out.1, H.out.2⟩

/-- the place of the first number that is none of k symbols; the length, where there is none -/
def strayN (k : Int) (l : List Int) : Nat := (l.findIdx? (badAt k)).getD l.length
theorem stray_any (k : Int) (p : Option Addr) (n c : Nat) (l : List Int) (w : World) (hn : n = l.length) (h : IntV w.heap.size w p c l) :
    Calls Tryd.prog 48 #[.int .i64 k, .slice p n c] w fun e w' => e = .returned (.int .i64 (strayN k l : Int)) ∧ w = w' := by
  have hle := h.le
  have hcap := h.cap
  unfold maxLen at hcap
  have hnc : n ≤ c := by omega
  obtain ⟨z, hz⟩ : ∃ z, strayN k l = z := ⟨_, rfl⟩
  rw [hz]
  unfold strayN at hz
  have hcases : (z = n ∧ ∀ (j : Nat) (x : Int), l[j]? = some x → badAt k x = false) ∨ (z < n ∧ (∃ x : Int, l[z]? = some x ∧ badAt k x = true) ∧ ∀ (j : Nat) (x : Int), j < z → l[j]? = some x → badAt k x = false) := by
    cases hf : l.findIdx? (badAt k) with
    | none =>
      rw [hf] at hz
      left
      refine ⟨by rw [← hz, hn]; rfl, fun j x hx => ?_⟩
      rw [List.findIdx?_eq_none_iff] at hf
      exact hf x (List.mem_of_getElem? hx)
    | some i =>
      rw [hf] at hz
      obtain rfl : i = z := hz
      obtain ⟨hil, hbad, hall⟩ := List.findIdx?_eq_some_iff_getElem.1 hf
      right
      refine ⟨by omega, ⟨_, List.getElem?_eq_getElem hil, hbad⟩, fun j x hj hx => ?_⟩
      have := hall j hj
      rw [List.getElem?_eq_getElem (by omega)] at hx
      obtain rfl := Option.some.inj hx
      simpa using this
  have hzn : z ≤ n := by rcases hcases with ⟨h1, _⟩ | ⟨h1, _⟩ <;> omega
  have H := Lib.hid (And.intro h (And.intro hn hcases))
  clear h hz hn hle hcases
  go_enter Tryd.func48, Tryd.ntmps48
  go_wp2_with fail
  go_loop [9] (fun v => ∃ j : Nat, j ≤ z ∧ v = .int .i64 (j : Int)) (fun v => n - (intOf v).toNat)
  case atStart => exact ⟨0, Nat.zero_le _, rfl⟩
  case round =>
    obtain ⟨j, hj, rfl⟩ := hrel
    by_cases hlt : j < n
    · have hnl := H.out.2.1
      obtain ⟨b, off, rfl, hb, hc⟩ := H.out.1.cell (by rintro rfl; simp at hnl; omega)
      obtain ⟨x, hx⟩ := getI (l := l) (k := j) (by omega)
      have hcx := hc j x hx
      by_cases hjz : j < z
      · have hg : badAt k x = false := by
          rcases H.out.2.2 with ⟨_, h2⟩ | ⟨_, _, h2⟩
          · exact h2 j x hx
          · exact h2 j x hjz hx
        unfold badAt at hg
        simp at hg
        have hx1 : ¬ x < 0 := by omega
        have hx2 : ¬ k ≤ x := by omega
        clear hc hx hg hnl
        go_wp2_with fail
        go_round
        case rel => exact ⟨j + 1, by omega, by go_num⟩
        case measure => simp [intOf]; omega
      · obtain rfl : j = z := by omega
        have hg : badAt k x = true := by
          rcases H.out.2.2 with ⟨h1, _⟩ | ⟨_, ⟨y, hy, h2⟩, _⟩
          · omega
          · rw [hx] at hy
            obtain rfl := Option.some.inj hy
            exact h2
        unfold badAt at hg
        simp at hg
        clear hc hx hnl
        rcases Int.lt_or_le x 0 with hx1 | hx1
        · clear hg
          go_wp2_with fail
          go_ret
          exact ⟨rfl, rfl⟩
        · have hx2 : k ≤ x := by omega
          have hx3 : ¬ x < 0 := by omega
          clear hg
          go_wp2_with fail
          go_ret
          exact ⟨rfl, rfl⟩
    · obtain rfl : j = n := by omega
      obtain rfl : j = z := by omega
      go_wp2_with fail
      go_ret
      exact ⟨rfl, rfl⟩
end Go.Proofs.YtgdjnohhofbcnaaDoor
end
section
namespace Go.Proofs.YtgdjnohhofbcnaaDoor
open Go.RowKit NatM

def D32 (n : Nat) : List Nat := digs 4294967296 n
def V32 (l : List Nat) : Nat := valB 4294967296 l
def ok32 (l : List Nat) : Prop := okB 4294967296 l
theorem V32_D32 (n : Nat) : V32 (D32 n) = n := valB_digs (by omega) n
theorem D32_ok (n : Nat) : ok32 (D32 n) := digs_ok (by omega) n
theorem D32_nrm (n : Nat) : nrm (D32 n) := digs_nrm (by omega) n
theorem D32_inj {m n : Nat} (h : D32 m = D32 n) : m = n := digs_inj (by omega) h
theorem D32_nil {n : Nat} : D32 n = [] ↔ n = 0 := digs_eq_nil (by omega)
theorem trim32 {l : List Nat} (h : ok32 l) : ∃ k, k ≤ l.length ∧ l.take k = D32 (V32 l) := trim_ex (by omega) h
theorem D32_le {l : List Nat} (h : ok32 l) : (D32 (V32 l)).length ≤ l.length := by
  obtain ⟨k, hk, e⟩ := trim32 h
  rw [← e, List.length_take]; exact Nat.min_le_right _ _
theorem D32_len {n k : Nat} (h : n < 4294967296 ^ k) : (D32 n).length ≤ k := digs_length_le (by omega) h
theorem V32_lt {l : List Nat} (h : ok32 l) : V32 l < 4294967296 ^ l.length := valB_lt (by omega) h

/-- A slice of limbs below block B: it reads l. -/
structure NatV (B : Nat) (w : World) (p : Option Addr) (c : Nat) (l : List Nat) : Prop where
  ok : ok32 l
  le : l.length ≤ c
  cap : c ≤ maxLen
  nil : p = none → c = 0
  cell : l ≠ [] → ∃ b off, p = some ⟨b, off, none⟩ ∧ b < B ∧ ∀ (j x : Nat), l[j]? = some x → w.cell? ⟨b, off + j, none⟩ = some (.int .u32 (x : Int))

theorem NatV.below {B : Nat} {w w' : World} {p : Option Addr} {c : Nat} {l : List Nat} (hb : Below B w w') (h : NatV B w p c l) : NatV B w' p c l :=
  ⟨h.ok, h.le, h.cap, h.nil, fun hn => by
    obtain ⟨b, off, hp, hlt, hc⟩ := h.cell hn
    exact ⟨b, off, hp, hlt, fun j x hx => (hb.cell (p := ⟨b, off + j, none⟩) hlt).trans (hc j x hx)⟩⟩
theorem NatV.mono {B B' : Nat} {w : World} {p : Option Addr} {c : Nat} {l : List Nat} (hB : B ≤ B') (h : NatV B w p c l) : NatV B' w p c l :=
  ⟨h.ok, h.le, h.cap, h.nil, fun hn => by
    obtain ⟨b, off, hp, hlt, hc⟩ := h.cell hn
    exact ⟨b, off, hp, by omega, hc⟩⟩
/-- in a later world, under its own heap's size -/
theorem NatV.next {w w' : World} {p : Option Addr} {c : Nat} {l : List Nat} (hb : Below w.heap.size w w') (h : NatV w.heap.size w p c l) : NatV w'.heap.size w' p c l :=
  (h.below hb).mono hb.size
theorem NatV.take {B : Nat} {w : World} {p : Option Addr} {c : Nat} {l : List Nat} (h : NatV B w p c l) (k : Nat) : NatV B w p c (l.take k) :=
  ⟨okB_take h.ok k, Nat.le_trans (by rw [List.length_take]; exact Nat.min_le_right _ _) h.le, h.cap, h.nil, fun hn => by
    have hne : l ≠ [] := by rintro rfl; simp at hn
    obtain ⟨b, off, hp, hlt, hc⟩ := h.cell hne
    refine ⟨b, off, hp, hlt, fun j x hx => hc j x ?_⟩
    rw [List.getElem?_take] at hx
    split at hx
    · exact hx
    · cases hx⟩
theorem NatV.trim {B : Nat} {w : World} {p : Option Addr} {c : Nat} {l : List Nat} (h : NatV B w p c l) : NatV B w p c (D32 (V32 l)) := by
  obtain ⟨k, _, e⟩ := trim32 h.ok
  rw [← e]; exact h.take k

def cells32 (l : List Nat) : List Value := l.map fun (x : Nat) => Value.int .u32 (x : Int)
theorem cells32_length (l : List Nat) : (cells32 l).length = l.length := by simp [cells32]
theorem cells32_get {l : List Nat} {j x : Nat} (h : l[j]? = some x) : (cells32 l)[j]? = some (.int .u32 (x : Int)) := by simp [cells32, h]

/-- A slice of limbs that the call owns, in a block from base on: it reads l. -/
structure NatO (base : Nat) (w : World) (p : Option Addr) (c : Nat) (l : List Nat) : Prop where
  own : w.ownsRow base 126 1 (.slice p l.length c) l.length (cells32 l)
  ok : ok32 l
theorem NatO.next {base : Nat} {w w' : World} {p : Option Addr} {c : Nat} {l : List Nat} (hb : Below w.heap.size w w') (h : NatO base w p c l) : NatO base w' p c l := ⟨ownsRow_below hb h.own, h.ok⟩
theorem NatO.base {base base' : Nat} {w : World} {p : Option Addr} {c : Nat} {l : List Nat} (hB : base' ≤ base) (h : NatO base w p c l) : NatO base' w p c l := ⟨ownsRow_base hB h.own, h.ok⟩
theorem NatO.toV {base : Nat} {w : World} {p : Option Addr} {c : Nat} {l : List Nat} (h : NatO base w p c l) : NatV w.heap.size w p c l := by
  rcases own_shape h.own with ⟨hv, h0, _⟩ | ⟨g, cap, hv, hg, hlt, hc, hm, hcl, _⟩
  · obtain ⟨rfl, _, rfl⟩ := by simpa using hv
    exact ⟨h.ok, by omega, Nat.zero_le _, fun _ => rfl, fun hn => absurd (List.eq_nil_of_length_eq_zero h0) hn⟩
  · obtain ⟨rfl, rfl⟩ : p = some ⟨g, 0, none⟩ ∧ c = cap := by simpa using hv
    refine ⟨h.ok, hc, hm, (fun e => by cases e), fun _ => ⟨g, 0, rfl, hlt, fun j x hx => ?_⟩⟩
    rw [Nat.zero_add]
    exact (hcl j (get_lt hx)).trans (cells32_get hx)
/-- a piece of an own slice from its head on -/
theorem NatO.slice_own {base : Nat} {w : World} {v : Value} {l : List Nat} (h : w.ownsRow base 126 1 v l.length (cells32 l)) (ok : ok32 l) : ∃ p c, v = .slice p l.length c ∧ NatO base w p c l := by
  rcases own_shape h with ⟨rfl, h0, _⟩ | ⟨g, cap, rfl, _⟩
  · obtain rfl := List.eq_nil_of_length_eq_zero h0
    exact ⟨none, 0, rfl, h, ok⟩
  · exact ⟨_, _, rfl, h, ok⟩
theorem NatO.take {base : Nat} {w : World} {p : Option Addr} {c : Nat} {l : List Nat} (h : NatO base w p c l) (k : Nat) : NatO base w p c (l.take k) := by
  obtain ⟨⟨hx, hr⟩, ok⟩ := h
  have hk : (l.take k).length ≤ l.length := by rw [List.length_take]; exact Nat.min_le_right _ _
  refine ⟨⟨by rw [cells32_length, Nat.mul_one], ?_⟩, okB_take ok k⟩
  rcases hr with ⟨hv, h0⟩ | ⟨g, cap, cur, hv, hg, hh, hc, hm, hs, ht⟩
  · obtain ⟨rfl, h1, rfl⟩ := by simpa using hv
    have : (l.take k).length = 0 := by omega
    exact Or.inl ⟨by rw [this], this⟩
  · obtain ⟨rfl, rfl⟩ : p = some ⟨g, 0, none⟩ ∧ c = cap := by simpa using hv
    refine Or.inr ⟨g, c, cur, rfl, hg, hh, by omega, hm, hs, ?_⟩
    have : cells32 (l.take k) = (cells32 l).take (l.take k).length := by
      unfold cells32
      rw [List.map_take, List.length_take]
      rcases Nat.le_total k l.length with h1 | h1
      · rw [Nat.min_eq_left h1]
      · rw [Nat.min_eq_right h1, List.take_of_length_le (by simpa using h1), List.take_of_length_le (by simp)]
    rw [this, ← ht, List.take_take, Nat.mul_one, Nat.mul_one, Nat.min_eq_left hk]
theorem NatO.trim {base : Nat} {w : World} {p : Option Addr} {c : Nat} {l : List Nat} (h : NatO base w p c l) : NatO base w p c (D32 (V32 l)) := by
  obtain ⟨k, _, e⟩ := trim32 h.ok
  rw [← e]; exact h.take k



end Go.Proofs.YtgdjnohhofbcnaaDoor
end
section
namespace Go.Proofs.YtgdjnohhofbcnaaDoor
open Go.RowKit NatM

theorem lt_of_drop {a b : List Nat} {i x y : Nat} (ha : ok32 a) (hx : a[i]? = some x) (hy : b[i]? = some y) (hd : a.drop (i + 1) = b.drop (i + 1)) (hlt : x < y) : V32 a < V32 b := lt_atq (by omega) ha hx hy hd hlt
theorem cmp_len {m n : Nat} (h : (D32 m).length < (D32 n).length) : m < n := digs_length_lt (by omega) h

/-- of two numbers -/
def cmpV (a b : List Nat) : Value := .int .i64 (cmpN (V32 a) (V32 b))


end Go.Proofs.YtgdjnohhofbcnaaDoor
end
section
namespace Go.Proofs.YtgdjnohhofbcnaaDoor
open Go.RowKit NatM

theorem info32 : (Tryd.prog.info? 126).map (fun i => (i.zero, i.size, i.bytes)) = some (some (.int .u32 0), 1, 4) := by kernel_rfl
theorem cell_one_new (w : World) (v : Value) (t : TypeId) : ∀ j u, [v][j]? = some u → (w.alloc (.cells #[v] t)).cell? ((⟨w.heap.size, 0, none⟩ : Addr).add j) = some u := by
  intro j u hj
  match j, hj with
  | 0, hj => simp at hj; subst hj; simp [Addr.add]
theorem cells32_snoc (l : List Nat) (x : Nat) : cells32 (l ++ [x]) = cells32 l ++ [.int .u32 (x : Int)] := by simp [cells32]
theorem NatO.snoc {base : Nat} {w : World} {v : Value} {l : List Nat} {x : Nat} (h : w.ownsRow base 126 1 v (l.length + 1) (cells32 l ++ [.int .u32 (x : Int)])) (ok : ok32 l) (hx : x < 4294967296) : ∃ p c, v = .slice p (l ++ [x]).length c ∧ NatO base w p c (l ++ [x]) :=
  NatO.slice_own (l := l ++ [x]) (by rw [cells32_snoc, List.length_append]; exact h) (okB_snoc ok hx)
theorem cells32_set (l : List Nat) (k x : Nat) : cells32 (l.set k x) = (cells32 l).set k (.int .u32 (x : Int)) := by simp [cells32, List.map_set]
/-- a store into an own slice of limbs -/
theorem NatO.store {base : Nat} {w : World} {g c : Nat} {l : List Nat} (h : NatO base w (some ⟨g, 0, none⟩) c l) (k x : Nat) (hx : x < 4294967296) :
    NatO base (w.setCell ⟨g, k, none⟩ (.int .u32 (x : Int))) (some ⟨g, 0, none⟩) c (l.set k x) := by
  obtain ⟨s1, _⟩ := h.own.stored k (.int .u32 (x : Int))
  exact ⟨by rw [List.length_set, cells32_set]; exact s1, okB_set h.ok hx k⟩
theorem NatO.shape {base : Nat} {w : World} {p : Option Addr} {c : Nat} {l : List Nat} (h : NatO base w p c l) (hl : 0 < l.length) :
    ∃ g, p = some ⟨g, 0, none⟩ ∧ base ≤ g ∧ g < w.heap.size ∧ (∀ (j x : Nat), l[j]? = some x → w.cell? ⟨g, j, none⟩ = some (.int .u32 (x : Int))) ∧ ∀ j, w.frozen? ⟨g, j, none⟩ = false := by
  rcases own_shape h.own with ⟨_, h0, _⟩ | ⟨g, cap, hv, hg, hlt, hc, hm, hcl, _⟩
  · omega
  · obtain ⟨rfl, rfl⟩ : p = some ⟨g, 0, none⟩ ∧ c = cap := by simpa using hv
    exact ⟨g, rfl, hg, hlt, fun j x hx => (hcl j (get_lt hx)).trans (cells32_get hx), fun j => h.own.frozenAt j⟩


def R32 (s m : List Nat) (k c : Nat) (t : List Nat) : Prop := RInv 4294967296 s m k c t

def RaiseRel (B : Nat) (w : World) (s m : List Nat) (gk : Nat) (v0 v5 v6 : Value) (wr : World) : Prop :=
  ∃ (k c : Nat) (t : List Nat) (p : Option Addr) (cap : Nat), v0 = .slice p t.length cap ∧ v5 = .int .u32 (c : Int) ∧ v6 = .int .i64 (k : Int) ∧ R32 s m k c t ∧ NatO B wr p cap t ∧ Below B w wr ∧ max s.length m.length + 2 - k ≤ gk

def RaisePost (B : Nat) (w : World) (n : Nat) (e : Ending) (w' : World) : Prop :=
  ∃ p c, e = .returned (.slice p (D32 n).length c) ∧ NatO B w' p c (D32 n) ∧ Below B w w'

abbrev Nt := Option Addr × Nat × List Nat
def Nt.val (x : Nt) : Value := .slice x.1 x.2.2.length x.2.1
/-- A slice of numbers. -/
structure NatsV (B : Nat) (w : World) (q : Option Addr) (c : Nat) (L : List Nt) : Prop where
  le : L.length ≤ c
  cap : c ≤ maxLen
  cell : L ≠ [] → ∃ b off, q = some ⟨b, off, none⟩ ∧ b < B ∧ ∀ (j : Nat) (x : Nt), L[j]? = some x → w.cell? ⟨b, off + j, none⟩ = some x.val
  each : ∀ x : Nt, x ∈ L → NatV B w x.1 x.2.1 x.2.2
theorem NatsV.below {B : Nat} {w w' : World} {q : Option Addr} {c : Nat} {L : List Nt} (hb : Below B w w') (h : NatsV B w q c L) : NatsV B w' q c L :=
  ⟨h.le, h.cap, fun hn => by
    obtain ⟨b, off, hp, hlt, hc⟩ := h.cell hn
    exact ⟨b, off, hp, hlt, fun j x hx => (hb.cell (p := ⟨b, off + j, none⟩) hlt).trans (hc j x hx)⟩, fun x hx => (h.each x hx).below hb⟩
theorem NatsV.mono {B B' : Nat} {w : World} {q : Option Addr} {c : Nat} {L : List Nt} (hB : B ≤ B') (h : NatsV B w q c L) : NatsV B' w q c L :=
  ⟨h.le, h.cap, fun hn => by
    obtain ⟨b, off, hp, hlt, hc⟩ := h.cell hn
    exact ⟨b, off, hp, by omega, hc⟩, fun x hx => (h.each x hx).mono hB⟩
/-- a slice literal of numbers, just laid -/
theorem NatsV.laid {w : World} (L : List Nt) (cs : Array Value) (t : TypeId) (hc : cs.toList = L.map Nt.val) (hl : L.length ≤ 1000) (h : ∀ x : Nt, x ∈ L → NatV w.heap.size w x.1 x.2.1 x.2.2) :
    NatsV (w.alloc (.cells cs t)).heap.size (w.alloc (.cells cs t)) (some ⟨w.heap.size, 0, none⟩) L.length L := by
  have hB : Below w.heap.size w (w.alloc (.cells cs t)) := (Below.refl _ _).alloc (Nat.le_refl _) _
  refine ⟨Nat.le_refl _, by unfold maxLen; omega, fun _ => ⟨w.heap.size, 0, rfl, by simp, fun j x hx => ?_⟩, fun x hx => (h x hx).next hB⟩
  rw [Nat.zero_add, cell_alloc_row, ← Array.getElem?_toList, hc]
  simp [hx]
def sumV (L : List Nt) : Nat := (L.map fun x : Nt => V32 x.2.2).sum
theorem sumV_take {L : List Nt} {k : Nat} {x : Nt} (h : L[k]? = some x) : sumV (L.take (k + 1)) = sumV (L.take k) + V32 x.2.2 := by
  obtain ⟨hk, rfl⟩ := List.getElem?_eq_some_iff.1 h
  unfold sumV
  rw [List.take_succ_eq_append_getElem hk, List.map_append, List.sum_append]
  simp
theorem sumV_le {M : Nat} : ∀ {L : List Nt}, (∀ x : Nt, x ∈ L → ok32 x.2.2 ∧ x.2.2.length ≤ M) → sumV L ≤ L.length * 4294967296 ^ M
  | [], _ => by simp [sumV]
  | x :: L, h => by
    have ih := sumV_le (L := L) (fun y hy => h y (List.mem_cons_of_mem _ hy))
    obtain ⟨h1, h2⟩ := h x List.mem_cons_self
    have h3 := V32_lt h1
    have h4 : 4294967296 ^ x.2.2.length ≤ 4294967296 ^ M := Nat.pow_le_pow_right (by omega) h2
    have e : sumV (x :: L) = V32 x.2.2 + sumV L := by simp [sumV]
    rw [e, List.length_cons, Nat.add_mul]
    omega
theorem sumV_len {M : Nat} {L : List Nt} (h : ∀ x : Nt, x ∈ L → ok32 x.2.2 ∧ x.2.2.length ≤ M) (hl : L.length ≤ 1000) : (D32 (sumV L)).length ≤ M + 1 := by
  refine D32_len (Nat.lt_of_le_of_lt (sumV_le h) ?_)
  rw [Nat.pow_succ, Nat.mul_comm]
  exact Nat.mul_lt_mul_of_pos_left (by omega) (Nat.pow_pos (by omega))

def SumRel (w : World) (L : List Nt) (v3 v8 : Value) (wr : World) : Prop :=
  ∃ (k : Nat) (p : Option Addr) (cap : Nat), k ≤ L.length ∧ v8 = .int .i64 (k : Int) ∧ v3 = .slice p (D32 (sumV (L.take k))).length cap ∧ NatO w.heap.size wr p cap (D32 (sumV (L.take k))) ∧ Below w.heap.size w wr
def NatPost (w : World) (n : Nat) (e : Ending) (w' : World) : Prop := RaisePost w.heap.size w n e w'
theorem NatO.nothing (base : Nat) (w : World) : NatO base w none 0 [] := ⟨World.ownsRow_nil _ _ _ _, okB_nil _⟩


end Go.Proofs.YtgdjnohhofbcnaaDoor
end
section
namespace Go.Proofs.YtgdjnohhofbcnaaDoor
open Go.RowKit NatM

def D16 (n : Nat) : List Nat := digs 65536 n
def V16 (l : List Nat) : Nat := valB 65536 l
theorem D16_ok (n : Nat) : okB 65536 (D16 n) := digs_ok (by omega) n
theorem D16_nrm (n : Nat) : nrm (D16 n) := digs_nrm (by omega) n
theorem V16_D16 (n : Nat) : V16 (D16 n) = n := valB_digs (by omega) n
theorem trim16 {l : List Nat} (h : okB 65536 l) : ∃ k, k ≤ l.length ∧ l.take k = D16 (V16 l) := trim_ex (by omega) h
theorem D16_le {l : List Nat} (h : okB 65536 l) : (D16 (V16 l)).length ≤ l.length := by
  obtain ⟨k, hk, e⟩ := trim16 h
  rw [← e, List.length_take]; exact Nat.min_le_right _ _
theorem NatO.trim16 {base : Nat} {w : World} {p : Option Addr} {c : Nat} {l : List Nat} (ho : okB 65536 l) (h : NatO base w p c l) : NatO base w p c (D16 (V16 l)) := by
  obtain ⟨k, _, e⟩ := Go.Proofs.YtgdjnohhofbcnaaDoor.trim16 ho
  rw [← e]; exact h.take k


theorem half_take {l : List Nat} {k x : Nat} (h : l[k]? = some x) : half (l.take (k + 1)) = half (l.take k) ++ [x % 65536, x / 65536] := by
  rw [take_snoc (get_lt h), half_append, get_eq h]; rfl
theorem half_ok32 {l : List Nat} (h : ok32 l) : ok32 (half l) := fun x hx => Nat.lt_of_lt_of_le (half_ok h x hx) (by omega)
theorem cells32_app (a b : List Nat) : cells32 (a ++ b) = cells32 a ++ cells32 b := by simp [cells32]
theorem D32_lift {n : Nat} : V32 (D32 n) = n := V32_D32 n

/-- own digits in base 65536 of n, none 0 at the end -/
def HalfPost (B : Nat) (w : World) (n : Nat) (e : Ending) (w' : World) : Prop :=
  ∃ p c, e = .returned (.slice p (D16 n).length c) ∧ NatO B w' p c (D16 n) ∧ Below B w w'
def HalfRel (B : Nat) (w : World) (l : List Nat) (v3 v4 : Value) (wr : World) : Prop :=
  ∃ (k : Nat) (p : Option Addr) (cap : Nat), k ≤ l.length ∧ v3 = .slice p (half (l.take k)).length cap ∧ v4 = .int .i64 (k : Int) ∧ NatO B wr p cap (half (l.take k)) ∧ Below B w wr
theorem NatO.app {base : Nat} {w : World} {v : Value} {l m : List Nat} (h : w.ownsRow base 126 1 v (l.length + m.length) (cells32 l ++ cells32 m)) (ok : ok32 l) (hm : ok32 m) : ∃ p c, v = .slice p (l ++ m).length c ∧ NatO base w p c (l ++ m) :=
  NatO.slice_own (l := l ++ m) (by rw [cells32_app, List.length_append]; exact h) (okB_append ok hm)


theorem join_app (b : List Nat) : ∀ {k : Nat} {a : List Nat}, a.length = 2 * k → join (a ++ b) = join a ++ join b
  | 0, a, h => by obtain rfl := List.eq_nil_of_length_eq_zero (by simpa using h); rfl
  | k + 1, [], h => by simp at h
  | k + 1, [_], h => by simp at h; omega
  | k + 1, x :: y :: a, h => by
    rw [List.cons_append, List.cons_append, join, join, join_app b (k := k) (by simp at h; omega)]; rfl
theorem join_two {e : List Nat} {i x y : Nat} (hi : i % 2 = 0) (hx : e[i]? = some x) (hy : e[i + 1]? = some y) : join (e.take (i + 2)) = join (e.take i) ++ [x + 65536 * y] := by
  rw [show i + 2 = i + 1 + 1 by omega, take_snoc (get_lt hy), take_snoc (get_lt hx), List.append_assoc, join_app _ (k := i / 2) (by rw [List.length_take]; have := get_lt hx; omega), get_eq hx, get_eq hy]; rfl
theorem join_one {e : List Nat} {i x : Nat} (hi : i % 2 = 0) (hx : e[i]? = some x) (hn : e.length = i + 1) : join (e.take (i + 2)) = join (e.take i) ++ [x] := by
  rw [List.take_of_length_le (by omega)]
  have h : e = e.take i ++ [x] := by
    have := take_snoc (get_lt hx)
    rw [List.take_of_length_le (by omega), get_eq hx] at this
    exact this
  rw [h, join_app _ (k := i / 2) (by rw [List.length_take]; omega), List.take_left' (by rw [List.length_take]; omega)]; rfl
theorem join_len : ∀ e : List Nat, (join e).length ≤ e.length
  | [] => Nat.le_refl _
  | [_] => Nat.le_refl _
  | _ :: _ :: e => by
    have := join_len e
    simp [join]; omega

def WholeRel (B : Nat) (w : World) (e : List Nat) (v3 v4 : Value) (wr : World) : Prop :=
  ∃ (i : Nat) (p : Option Addr) (cap : Nat), i ≤ e.length + 1 ∧ i % 2 = 0 ∧ v3 = .slice p (join (e.take i)).length cap ∧ v4 = .int .i64 (i : Int) ∧ NatO B wr p cap (join (e.take i)) ∧ Below B w wr

end Go.Proofs.YtgdjnohhofbcnaaDoor
end
section
namespace Go.Proofs.YtgdjnohhofbcnaaDoor
open Go.RowKit NatM

theorem madeCells_list (v : Value) (n : Nat) : (madeCells #[v] n).toList = List.replicate n v := by
  unfold madeCells
  rw [Array.toList_map, Array.toList_range]
  apply List.ext_getElem
  · simp
  · intro i h1 h2
    simp [Nat.mod_one]
theorem NatO.made (w : World) (n : Nat) (hn : n ≤ 1099511627776) : NatO w.heap.size (w.alloc (.cells (madeCells #[.int .u32 0] n) 126)) (some ⟨w.heap.size, 0, none⟩) n (List.replicate n 0) := by
  refine ⟨⟨by simp [cells32], Or.inr ⟨w.heap.size, n, madeCells #[.int .u32 0] n, by rw [List.length_replicate], Nat.le_refl _, heap_newN _ _, by rw [List.length_replicate]; exact Nat.le_refl _, by unfold maxLen; omega, by rw [size_madeCells, Nat.mul_one], ?_⟩⟩, okB_replicate (by omega) _⟩
  rw [madeCells_list, List.length_replicate, Nat.mul_one, List.take_of_length_le (by simp)]
  simp [cells32]

def MI (a b : List Nat) (i j x c : Nat) (P : List Nat) : Prop := MInv 4294967296 a b i j x c P
/-- What the outer loop of Mul hands on. -/
def MulRel (w : World) (a b : List Nat) (g : Nat) (v : Value) (wr : World) : Prop :=
  ∃ (i : Nat) (P : List Nat), i ≤ a.length ∧ v = .int .i64 (i : Int) ∧ MI a b i 0 0 0 P ∧ NatO w.heap.size wr (some ⟨g, 0, none⟩) P.length P ∧ Below w.heap.size w wr
/-- What the inner loop of Mul hands on. -/
def MulRel2 (w : World) (a b : List Nat) (g i x : Nat) (v8 v30 : Value) (wr : World) : Prop :=
  ∃ (j c : Nat) (P : List Nat), j ≤ b.length ∧ v8 = .int .u64 (c : Int) ∧ v30 = .int .i64 (j : Int) ∧ MI a b i j x c P ∧ NatO w.heap.size wr (some ⟨g, 0, none⟩) P.length P ∧ Below w.heap.size w wr

end Go.Proofs.YtgdjnohhofbcnaaDoor
end
section
namespace Go.Proofs.YtgdjnohhofbcnaaDoor
open Go.RowKit NatM

theorem or_split (r x : Nat) (hr : r < 4294967296) (hx : x < 4294967296) : bits .or .u64 ((r : Int) * 4294967296) (x : Int) = ((r * 4294967296 + x : Nat) : Int) := by
  have h := u64_or_nat (r * 4294967296) x (by omega) (by omega)
  rw [Int.natCast_mul] at h
  have e : r * 4294967296 ||| x = r * 4294967296 + x := by
    have := Nat.two_pow_add_eq_or_of_lt (i := 32) (b := x) hx r
    rw [Nat.mul_comm r]
    exact this.symm
  rw [e] at h
  exact h

/-- only the slice's own block, and what is new, has changed -/
def Only (p : Option Addr) (w w' : World) : Prop := w.grownBy w' (p.map (·.block))
theorem Only.refl (p : Option Addr) (w : World) : Only p w w := World.grownBy.refl w _
theorem only_of_below {a w : World} (h : Below a.heap.size a w) (row : Option Nat) : a.grownBy w row := ⟨h.os, h.tape, h.output, h.size, fun i hi _ => h.block i hi⟩
theorem Only.next {p : Option Addr} {a w w' : World} (h : Only p a w) (hb : Below w.heap.size w w') : Only p a w' := World.grownBy.trans h (only_of_below hb _)
theorem Only.setCell {g : Nat} {a w : World} (h : Only (some ⟨g, 0, none⟩) a w) (k : Nat) (u : Value) : Only (some ⟨g, 0, none⟩) a (w.setCell ⟨g, k, none⟩ u) :=
  ⟨h.os, h.tape, h.output, by simpa [World.setCell] using h.size, fun i hi hne => (Below.heap_setCell w ⟨g, k, none⟩ u i (by
    rintro rfl
    exact hne rfl)).trans (h.block i hi hne)⟩
theorem Only.below {p : Option Addr} {a w : World} {B : Nat} (h : Only p a w) (hB : B ≤ a.heap.size) (hp : ∀ x, p = some x → B ≤ x.block) : Below B a w :=
  ⟨h.os, h.tape, h.output, h.size, fun k hk => h.block k (by omega) (by
    rcases p with _ | x
    · simp
    · intro e
      have := hp x rfl
      have e2 := Option.some.inj e
      simp at e2
      omega)⟩

def VI (a : List Nat) (d k r : Nat) (t : List Nat) : Prop := VInv 4294967296 a d k r t
def DivRel (B : Nat) (w : World) (p : Option Addr) (c : Nat) (a : List Nat) (d : Nat) (v5 v6 : Value) (wr : World) : Prop :=
  ∃ (k r : Nat) (t : List Nat), k ≤ a.length ∧ v6 = .int .i64 ((k : Int) - 1) ∧ v5 = .int .u32 (r : Int) ∧ VI a d k r t ∧ NatO B wr p c t ∧ Only p w wr
/-- divide: the quotient stands where the number stood -/
def DivPost (B : Nat) (w : World) (p : Option Addr) (c : Nat) (a : List Nat) (d : Nat) (e : Ending) (w' : World) : Prop :=
  e = .returned (.int .u32 ((V32 a % d : Nat) : Int)) ∧ (∃ t, V32 t = V32 a / d ∧ t.length = a.length ∧ NatO B w' p c t) ∧ Only p w w'

def EI (a : List Nat) (m c0 i c : Nat) (t : List Nat) : Prop := EInv 4294967296 a m c0 i c t
def ExtRel (B : Nat) (w : World) (p : Option Addr) (cap : Nat) (a : List Nat) (m c0 : Nat) (v7 v14 : Value) (wr : World) : Prop :=
  ∃ (i c : Nat) (t : List Nat), i ≤ a.length ∧ v14 = .int .i64 (i : Int) ∧ v7 = .int .u64 (c : Int) ∧ EI a m c0 i c t ∧ NatO B wr p cap t ∧ Below B w wr
def ExtPost (B : Nat) (w : World) (a : List Nat) (m c0 : Nat) (e : Ending) (w' : World) : Prop :=
  ∃ p' c' t, e = .returned (.slice p' t.length c') ∧ V32 t = V32 a * m + c0 ∧ t.length ≤ a.length + 1 ∧ (nrm a → 1 ≤ m → nrm t) ∧ NatO B w' p' c' t ∧ Below B w w'


/-- slices.Clone of limbs: nil stays nil, else new memory -/
def ClonePost (w : World) (l : List Nat) (e : Ending) (w' : World) : Prop :=
  ∃ p c, e = .returned (.slice p l.length c) ∧ NatO w.heap.size w' p c l ∧ Below w.heap.size w w'
end Go.Proofs.YtgdjnohhofbcnaaDoor
end
section
namespace Go.Proofs.YtgdjnohhofbcnaaDoor
open Go.RowKit NatM

/-- bytes as cells -/
def cells8 (bs : List Nat) : List Value := bs.map fun (b : Nat) => Value.int .u8 (b : Int)
theorem cells8_length (l : List Nat) : (cells8 l).length = l.length := by simp [cells8]
theorem cells8_get {l : List Nat} {j x : Nat} (h : l[j]? = some x) : (cells8 l)[j]? = some (.int .u8 (x : Int)) := by simp [cells8, h]
theorem cells8_set (l : List Nat) (k x : Nat) : cells8 (l.set k x) = (cells8 l).set k (.int .u8 (x : Int)) := by simp [cells8, List.map_set]

def RevRel (w : World) (base g cap : Nat) (xs : List Nat) (v2 v3 : Value) (wr : World) : Prop :=
  ∃ (k : Nat) (zs : List Nat), 2 * k ≤ xs.length ∧ v2 = .int .i64 (k : Int) ∧ v3 = .int .i64 ((xs.length : Int) - 1 - (k : Int)) ∧ RevAt xs zs k ∧ wr.ownsRow base 5 1 (.slice (some ⟨g, 0, none⟩) xs.length cap) xs.length (cells8 zs) ∧ w.grownBy wr (some g)
def RevPost (w : World) (base g cap : Nat) (xs : List Nat) (e : Ending) (w' : World) : Prop :=
  e = .returned (.tuple #[]) ∧ w'.ownsRow base 5 1 (.slice (some ⟨g, 0, none⟩) xs.length cap) xs.length (cells8 xs.reverse) ∧ w.grownBy w' (some g)

theorem info8 : (Tryd.prog.info? 5).map (fun i => (i.zero, i.size, i.bytes)) = some (some (.int .u8 0), 1, 1) := by kernel_rfl
/-- rows of different element types lie in different blocks -/
theorem own_ne {w : World} {b b' : Nat} {e e' : TypeId} {v v' : Value} {n n' : Nat} {xs xs' : List Value} (h : w.ownsRow b e 1 v n xs) (h' : w.ownsRow b' e' 1 v' n' xs') (hne : e ≠ e') : v.ownBlock = none ∨ v.ownBlock ≠ v'.ownBlock := by
  rcases h.2 with ⟨rfl, _⟩ | ⟨g, cap, cur, rfl, _, hh, _⟩
  · exact Or.inl rfl
  · right
    rcases h'.2 with ⟨rfl, _⟩ | ⟨g', cap', cur', rfl, _, hh', _⟩
    · simp [Value.ownBlock]
    · intro hq
      have : g = g' := by simpa [Value.ownBlock] using hq
      subst this
      rw [hh] at hh'
      injection hh' with hh'
      injection hh' with _ ht
      exact hne ht
theorem ownBlock_slice (p : Option Addr) (n c : Nat) : (Value.slice p n c).ownBlock = p.map (·.block) := by cases p <;> rfl

def chars (ds : List Nat) : List Nat := ds.map fun d => 48 + d
theorem chars_snoc (ds : List Nat) (d : Nat) : chars (ds ++ [d]) = chars ds ++ [48 + d] := by simp [chars]
theorem chars_length (ds : List Nat) : (chars ds).length = ds.length := by simp [chars]
theorem cells8_snoc (l : List Nat) (x : Nat) : cells8 (l ++ [x]) = cells8 l ++ [.int .u8 (x : Int)] := by simp [cells8]
/-- the decimal text of a number -/
def textOf (n : Nat) : ByteArray := strOfNums ((decL n).map fun (d : Nat) => ((48 + d : Nat) : Int))

/-- the digits that Text has gathered, the lowest first -/
def DigO (B : Nat) (w : World) (v : Value) (ds : List Nat) : Prop := ∃ pd cd, v = .slice pd ds.length cd ∧ w.ownsRow B 5 1 (.slice pd ds.length cd) ds.length (cells8 (chars ds))
theorem DigO.of {B : Nat} {w : World} {v : Value} {ds : List Nat} (h : w.ownsRow B 5 1 v ds.length (cells8 (chars ds))) : ∃ pd cd, v = .slice pd ds.length cd ∧ w.ownsRow B 5 1 (.slice pd ds.length cd) ds.length (cells8 (chars ds)) := by
  rcases own_shape h with ⟨rfl, h0, _⟩ | ⟨g, cap, rfl, _⟩
  · obtain rfl := List.eq_nil_of_length_eq_zero h0
    exact ⟨none, 0, rfl, h⟩
  · exact ⟨_, _, rfl, h⟩
def TextRel (B : Nat) (w : World) (n : Nat) (p : Option Addr) (c : Nat) (gk : Nat) (v3 v4 : Value) (wr : World) : Prop :=
  ∃ (R : Nat) (ds : List Nat), v3 = .slice p (D32 R).length c ∧ DigO B wr v4 ds ∧ TInv n ds R ∧ NatO B wr p c (D32 R) ∧ Below B w wr ∧ R ≤ gk
def InnerRel (B : Nat) (w : World) (n : Nat) (p : Option Addr) (c R : Nat) (gk : Nat) (v4 v5 v6 : Value) (wr : World) : Prop :=
  ∃ (i chunk : Nat) (ds : List Nat), i ≤ 9 ∧ v6 = .int .i64 (i : Int) ∧ v5 = .int .u32 (chunk : Int) ∧ chunk < 10 ^ (9 - i) ∧ DigO B wr v4 ds ∧ TInv n ds (chunk + 10 ^ (9 - i) * R) ∧ NatO B wr p c (D32 R) ∧ Below B w wr ∧ 9 - i ≤ gk

end Go.Proofs.YtgdjnohhofbcnaaDoor
end
section
namespace Go.Proofs.YtgdjnohhofbcnaaDoor.NatM
/-! ### decimal texts -/
def isDig (b : Nat) : Bool := decide (48 ≤ b) && decide (b ≤ 57)
/-- What is wrong with a text of digits: the place, and the error's number; none: nothing. -/
def parseBad (l : List Nat) : Option (Nat × Nat) :=
  if 1200 < l.length then some (0, 4) else if l.length = 0 then some (0, 6) else
    match l.findIdx? (fun b => !isDig b) with
    | some i => some (i, 6)
    | none => if 1 < l.length ∧ l[0]? = some 48 then some (0, 6) else none
def numOf (l : List Nat) : Nat := l.foldl (fun n b => n * 10 + (b - 48)) 0
theorem numOf_take {l : List Nat} {k b : Nat} (h : l[k]? = some b) : numOf (l.take (k + 1)) = numOf (l.take k) * 10 + (b - 48) := by
  unfold numOf
  rw [take_snoc (get_lt h), List.foldl_append, get_eq h]
  rfl
theorem numOf_nil : numOf [] = 0 := rfl
theorem numOf_lt (l : List Nat) (h : ∀ b ∈ l, isDig b = true) : numOf l < 10 ^ l.length := by
  have key : ∀ (l : List Nat) (a : Nat), (∀ b ∈ l, isDig b = true) → l.foldl (fun n b => n * 10 + (b - 48)) a < (a + 1) * 10 ^ l.length := by
    intro l
    induction l with
    | nil => intro a _; simp
    | cons b l ih =>
      intro a hl
      have hb : b - 48 ≤ 9 := by
        have := hl b List.mem_cons_self
        unfold isDig at this
        simp at this
        omega
      have h1 := ih (a * 10 + (b - 48)) (fun c hc => hl c (List.mem_cons_of_mem _ hc))
      rw [List.foldl_cons, List.length_cons, Nat.pow_succ]
      have h2 : (a * 10 + (b - 48) + 1) * 10 ^ l.length ≤ ((a + 1) * 10) * 10 ^ l.length := Nat.mul_le_mul_right _ (by omega)
      have h3 : (a + 1) * 10 * 10 ^ l.length = (a + 1) * (10 ^ l.length * 10) := by rw [Nat.mul_assoc, Nat.mul_comm 10]
      omega
  have := key l 0 h
  unfold numOf
  omega
/-- The digits of the number are the text's, where the text does not begin with 0. -/
theorem numOf_val (l : List Nat) : numOf l = valB 10 ((l.map (· - 48)).reverse) := by
  have key : ∀ (l : List Nat) (a : Nat), l.foldl (fun n b => n * 10 + (b - 48)) a = valB 10 ((l.map (· - 48)).reverse) + 10 ^ l.length * a := by
    intro l
    induction l with
    | nil => intro a; simp [valB]
    | cons b l ih =>
      intro a
      rw [List.foldl_cons, ih, List.map_cons, List.reverse_cons, valB_snoc, List.length_reverse, List.length_map, List.length_cons, Nat.pow_succ]
      rw [Nat.mul_add, Nat.mul_assoc, Nat.mul_comm a 10]
      omega
  have := key l 0
  unfold numOf
  omega
theorem findIdx_none {l : List Nat} {p : Nat → Bool} (h : l.findIdx? p = none) : ∀ b ∈ l, p b = false := by
  intro b hb
  have := List.findIdx?_eq_none_iff.1 h b hb
  simpa using this
theorem dec_read {l : List Nat} (hd : ∀ b ∈ l, isDig b = true) (hl : 0 < l.length) (hz : ¬ (1 < l.length ∧ l[0]? = some 48)) : (decL (numOf l)).map (48 + ·) = l := by
  have hback : ∀ m : List Nat, (∀ b ∈ m, isDig b = true) → (m.map (· - 48)).map (48 + ·) = m := by
    intro m
    induction m with
    | nil => intro _; rfl
    | cons b m ih =>
      intro h
      have hb := h b List.mem_cons_self
      unfold isDig at hb
      simp at hb
      rw [List.map_cons, List.map_cons, ih (fun c hc => h c (List.mem_cons_of_mem _ hc))]
      congr 1
      omega
  have hok : okB 10 ((l.map (· - 48)).reverse) := by
    intro x hx
    rw [List.mem_reverse, List.mem_map] at hx
    obtain ⟨b, hb, rfl⟩ := hx
    have := hd b hb
    unfold isDig at this
    simp at this
    omega
  by_cases h0 : numOf l = 0
  · have hl1 : l.length = 1 := by
      rcases Nat.lt_or_ge 1 l.length with h1 | h1
      · exfalso
        apply hz
        refine ⟨h1, ?_⟩
        rw [numOf_val] at h0
        match l, hl with
        | b :: t, _ =>
          rw [List.map_cons, List.reverse_cons, valB_snoc] at h0
          have hp : 0 < 10 ^ (t.map (· - 48)).reverse.length := Nat.pow_pos (by omega)
          have h2 : b - 48 = 0 := by
            rcases Nat.eq_zero_or_pos (b - 48) with h3 | h3
            · exact h3
            · have := Nat.mul_pos hp h3; omega
          have := hd b List.mem_cons_self
          unfold isDig at this
          simp at this
          have : b = 48 := by omega
          simp [this]
      · omega
    match l, hl1 with
    | [b], _ =>
      have hb := hd b List.mem_cons_self
      unfold isDig at hb
      simp at hb
      have h2 : b - 48 = 0 := by simpa [numOf] using h0
      rw [h0]
      simp [decL]
      omega
  · unfold decL
    rw [if_neg h0]
    have hn : nrm ((l.map (· - 48)).reverse) := by
      intro x hx
      rw [List.getLast?_reverse] at hx
      match l, hl with
      | b :: t, _ =>
        simp at hx
        rintro rfl
        have hb := hd b List.mem_cons_self
        unfold isDig at hb
        simp at hb
        have hb48 : b = 48 := by omega
        subst hb48
        have h1 : ¬ 1 < (48 :: t).length := fun h => hz ⟨h, rfl⟩
        have ht : t = [] := by
          apply List.eq_nil_of_length_eq_zero
          simp at h1
          simpa using h1
        subst ht
        exact h0 rfl
    have hu := digs_unique (B := 10) (by omega) hok hn (numOf_val l).symm
    rw [hu, List.reverse_reverse]
    exact hback l hd
/-- And the other way: the text of a number is read as the number. -/
theorem dec_back (n : Nat) : numOf ((decL n).map (48 + ·)) = n ∧ (∀ b ∈ (decL n).map (48 + ·), isDig b = true) ∧ 0 < ((decL n).map (48 + ·)).length ∧ ¬ (1 < ((decL n).map (48 + ·)).length ∧ ((decL n).map (48 + ·))[0]? = some 48) := by
  by_cases h0 : n = 0
  · subst h0
    refine ⟨by decide, by decide, by decide, by decide⟩
  · have hm : ((decL n).map (48 + ·)).map (· - 48) = decL n := by
      rw [List.map_map]
      have : ((fun x => x - 48) ∘ (fun x => 48 + x)) = (id : Nat → Nat) := by funext x; simp
      rw [this, List.map_id]
    have hd : decL n = (digs 10 n).reverse := by unfold decL; rw [if_neg h0]
    refine ⟨?_, ?_, ?_, ?_⟩
    · rw [numOf_val, hm, hd, List.reverse_reverse]
      exact valB_digs (by omega) n
    · intro b hb
      rw [List.mem_map] at hb
      obtain ⟨d, hdm, rfl⟩ := hb
      rw [hd, List.mem_reverse] at hdm
      have := digs_ok (B := 10) (by omega) n d hdm
      unfold isDig
      simp
      omega
    · rw [List.length_map, hd, List.length_reverse]
      exact List.length_pos_iff.2 (fun e => h0 ((digs_eq_nil (by omega)).1 e))
    · rintro ⟨_, h1⟩
      rw [hd, List.getElem?_map] at h1
      obtain ⟨d, hd1, hd2⟩ := Option.map_eq_some_iff.1 h1
      have hl : (digs 10 n).getLast? = some d := by
        rw [← List.head?_reverse, List.head?_eq_getElem?]
        exact hd1
      exact digs_nrm (by omega) n d hl (by omega)
end Go.Proofs.YtgdjnohhofbcnaaDoor.NatM
end
section
namespace Go.Proofs.YtgdjnohhofbcnaaDoor
open Go.RowKit Go.Extern.Stop Go.Stop Go.Extern NatM

/-- a string's bytes as numbers -/
def bsOf (s : ByteArray) : List Nat := s.data.toList.map (·.toNat)
theorem bsOf_length (s : ByteArray) : (bsOf s).length = s.size := by
  unfold bsOf
  rw [List.length_map, Array.length_toList]
  rfl
theorem bsOf_get {s : ByteArray} {k : Nat} (h : k < s.size) : (bsOf s)[k]? = some (s[k]).toNat := by
  unfold bsOf
  rw [List.getElem?_map, List.getElem?_eq_getElem (by simpa using h)]
  rfl
theorem isDig_iff {b : Nat} : isDig b = true ↔ 48 ≤ b ∧ b ≤ 57 := by unfold isDig; simp

def natOp : ByteArray := { data := #[110, 97, 116] }
/-- nothing but an error of this package, with its place and its number -/
def ErrPost (w : World) (A : Nat → Addr) (pl : Int) (k : Nat) (e : Ending) (w' : World) : Prop :=
  ∃ b, e = .returned (.tuple #[.slice none 0 0, (Tree.fault b natOp pl (.leaf (A k))).val]) ∧ (Tree.fault b natOp pl (.leaf (A k))).lies w' ∧ Below w.heap.size w w'
/-- a number and no error -/
def OkPost (w : World) (n : Nat) (e : Ending) (w' : World) : Prop :=
  ∃ p c, e = .returned (.tuple #[.slice p (D32 n).length c, .nilIface]) ∧ NatO w.heap.size w' p c (D32 n) ∧ Below w.heap.size w w'

def ParseRel (w : World) (s : ByteArray) (v5 v44 : Value) (wr : World) : Prop :=
  ∃ (k : Nat) (p : Option Addr) (cap : Nat) (t : List Nat), k ≤ s.size ∧ v44 = .int .i64 (k : Int) ∧ v5 = .slice p t.length cap ∧ V32 t = numOf ((bsOf s).take k) ∧ nrm t ∧ t.length ≤ k ∧ NatO w.heap.size wr p cap t ∧ Below w.heap.size w wr

theorem new_err (pl : Int) (n : Nat) (w : World) (A : Nat → Addr) (hr : Roots w A) (hn : 1 ≤ n ∧ n ≤ 11) :
    Calls Tryd.prog 42 #[.string natOp, .int .i64 pl, .int .i64 (n : Int)] w fun e w' => e = .returned (Tree.fault w.heap.size natOp pl (.leaf (A n))).val ∧ Below w.heap.size w w' ∧ (Tree.fault w.heap.size natOp pl (.leaf (A n))).lies w' := by
  have hk : known (n : Int) = n := by unfold known; rw [if_pos (by omega)]; rfl
  refine (new_any natOp pl n w A hr (by omega)).mono fun e w' ⟨he, hb, _, hl⟩ => ?_
  rw [hk] at he hl
  exact ⟨he, hb, hl⟩

theorem findIdx_some {l : List Nat} {p : Nat → Bool} {i : Nat} (h : l.findIdx? p = some i) : ∃ b, l[i]? = some b ∧ p b = true ∧ ∀ j x, j < i → l[j]? = some x → p x = false := by
  obtain ⟨hi, h1, h2⟩ := List.findIdx?_eq_some_iff_getElem.1 h
  refine ⟨l[i], List.getElem?_eq_getElem hi, h1, fun j x hj hx => ?_⟩
  obtain ⟨hjl, rfl⟩ := List.getElem?_eq_some_iff.1 hx
  simpa using h2 j hj

end Go.Proofs.YtgdjnohhofbcnaaDoor
end
section
namespace Go.Proofs.YtgdjnohhofbcnaaDoor.NatM
/-! ### a limb less a limb, with a borrow -/
theorem bit31 {x : Nat} (hx : x < 4294967296) : Nat.testBit x 31 = decide (2147483648 ≤ x) := by
  rw [Nat.testBit_eq_decide_div_mod_eq]
  congr 1
  have : 2 ^ 31 = 2147483648 := by decide
  rw [this]
  apply propext
  omega
theorem div31 {t : Nat} (ht : t < 4294967296) : t / 2147483648 = if Nat.testBit t 31 then 1 else 0 := by
  rw [bit31 ht]
  by_cases h : 2147483648 ≤ t
  · rw [decide_eq_true h, if_pos rfl]; omega
  · rw [decide_eq_false h]; simp; omega
theorem not31 {x : Nat} (hx : x < 4294967296) : Nat.testBit (4294967295 - x) 31 = !Nat.testBit x 31 := by
  have h := Nat.testBit_two_pow_sub_succ (n := 32) hx 31
  have e : 2 ^ 32 - (x + 1) = 4294967295 - x := by omega
  rw [e] at h
  rw [h]
  simp
theorem sub_borrow {x y c d : Nat} (hx : x < 4294967296) (hy : y < 4294967296) (hc : c ≤ 1) (hd : d = (x + 8589934592 - y - c) % 4294967296) :
    (((4294967295 - x) &&& y) ||| ((4294967295 - (x ^^^ y)) &&& d)) / 2147483648 = if x < y + c then 1 else 0 := by
  have hdl : d < 4294967296 := by omega
  have hxy : x ^^^ y < 2 ^ 32 := Nat.xor_lt_two_pow hx hy
  have h1 : (4294967295 - x) &&& y < 2 ^ 32 := Nat.and_lt_two_pow _ hy
  have h2 : (4294967295 - (x ^^^ y)) &&& d < 2 ^ 32 := Nat.and_lt_two_pow _ hdl
  rw [div31 (Nat.or_lt_two_pow h1 h2), Nat.testBit_or, Nat.testBit_and, Nat.testBit_and, not31 hx, not31 hxy, Nat.testBit_xor, bit31 hx, bit31 hy, bit31 hdl]
  by_cases a : 2147483648 ≤ x <;> by_cases b : 2147483648 ≤ y <;> by_cases e : 2147483648 ≤ d <;> by_cases f : x < y + c <;> simp [a, b, e, f] <;> omega
/-- Where a difference stands when k limbs of m have been taken from a. -/
structure DInv (B : Nat) (a m : List Nat) (k c : Nat) (t : List Nat) : Prop where
  ok : okB B t
  len : t.length = a.length
  car : c ≤ 1
  rest : t.drop k = a.drop k
  val : valB B (t.take k) + valB B (m.take k) = valB B (a.take k) + B ^ k * c
theorem DInv.start {B : Nat} {a m : List Nat} (ha : okB B a) : DInv B a m 0 0 a := ⟨ha, rfl, by omega, rfl, by simp [valB]⟩
theorem sub_step {T M A P x y c r q B : Nat} (h1 : T + M = A + P * c) (h2 : r + y + c = x + B * q) : T + P * r + (M + P * y) = A + P * x + P * B * q := by
  have e : P * (r + y + c) = P * (x + B * q) := by rw [h2]
  rw [Nat.mul_add, Nat.mul_add, Nat.mul_add, ← Nat.mul_assoc] at e
  omega
theorem DInv.step {B : Nat} {a m : List Nat} {k c x r q : Nat} {t : List Nat} (h : DInv B a m k c t) (hx : a[k]? = some x) (hr : r < B) (hq : q ≤ 1) (he : r + limbAt m k + c = x + B * q) :
    DInv B a m (k + 1) q (t.set k r) := by
  have hxt : t[k]? = some x := (get_of_drop h.rest).trans hx
  refine ⟨okB_set h.ok hr _, by rw [List.length_set]; exact h.len, hq, by rw [drop_set_succ]; exact drop_succ_of h.rest, ?_⟩
  rw [set_takeq hxt, valB_snoc, List.length_take, Nat.min_eq_left (by have := get_lt hxt; omega), valB_take_limb, valB_takeq B hx, Nat.pow_succ]
  exact sub_step h.val he
/-- While something is left to take away, the number is long enough. -/
theorem DInv.long {B : Nat} (hB : 2 ≤ B) {a m : List Nat} (ha : okB B a) (hmn : nrm m) (hle : valB B m ≤ valB B a) {k c : Nat} {t : List Nat} (h : DInv B a m k c t) (hgo : k < m.length ∨ c ≠ 0) : k < a.length := by
  rcases Nat.lt_or_ge k a.length with h1 | h1
  · exact h1
  · exfalso
    have hv := h.val
    rw [valB_take_all B h1, show t.take k = t by rw [List.take_of_length_le (by rw [h.len]; exact h1)]] at hv
    have h2 := valB_lt (B := B) (by omega) h.ok
    rw [h.len] at h2
    have h3 : B ^ a.length ≤ B ^ k := Nat.pow_le_pow_right (by omega) h1
    rcases Nat.eq_zero_or_pos c with hc | hc
    · have hk : k < m.length := by omega
      have h4 := valB_split B m k (by omega)
      have h5 := valB_pos hB hmn (List.length_pos_iff.1 (by omega))
      have h6 := ge_of_nrm hB hmn (List.length_pos_iff.1 (by omega))
      have h7 : B ^ k ≤ B ^ (m.length - 1) := Nat.pow_le_pow_right (by omega) (by omega)
      have h8 := valB_lt (B := B) (by omega) ha
      omega
    · have h4 := valB_take_le B m k
      have h5 : B ^ k * 1 ≤ B ^ k * c := Nat.mul_le_mul_left _ hc
      omega
theorem DInv.done {B : Nat} {a m : List Nat} {k : Nat} {t : List Nat} (h : DInv B a m k 0 t) (hk : m.length ≤ k) (hka : k ≤ a.length) : valB B t = valB B a - valB B m ∧ valB B m ≤ valB B a := by
  have hv := h.val
  rw [valB_take_all B hk] at hv
  have h1 := valB_split B t k (by rw [h.len]; exact hka)
  have h2 := valB_split B a k hka
  rw [h.rest] at h1
  simp at hv
  omega
end Go.Proofs.YtgdjnohhofbcnaaDoor.NatM
end
section
namespace Go.Proofs.YtgdjnohhofbcnaaDoor
open Go.RowKit Go.Extern.Stop Go.Stop Go.Extern NatM

/-- the borrow of a limb less a limb -/
def bor (x y c : Nat) : Nat := if x < y + c then 1 else 0
theorem bor_le (x y c : Nat) : bor x y c ≤ 1 := by unfold bor; split <;> omega
theorem xor_max {x : Nat} (hx : x < 4294967296) : 4294967295 ^^^ x = 4294967295 - x := by
  apply Nat.eq_of_testBit_eq
  intro i
  have h := Nat.testBit_two_pow_sub_succ (n := 32) hx i
  rw [show 2 ^ 32 - (x + 1) = 4294967295 - x by omega] at h
  rw [h, Nat.testBit_xor, show (4294967295 : Nat) = 2 ^ 32 - 1 by decide, Nat.testBit_two_pow_sub_one]
  by_cases hi : i < 32
  · simp [hi]
  · have : Nat.testBit x i = false := Nat.testBit_lt_two_pow (Nat.lt_of_lt_of_le hx (by
      have : 2 ^ 32 ≤ 2 ^ i := Nat.pow_le_pow_right (by omega) (by omega)
      omega))
    simp [hi, this]
theorem not_u32 (x : Nat) (hx : x < 4294967296) : bits .xor .u32 IntKind.u32.max (x : Int) = ((4294967295 - x : Nat) : Int) := by
  have h := u32_xor_nat 4294967295 x (by omega) hx
  rw [xor_max hx] at h
  exact h
theorem ret_u32s {a b a' b' : Int} (h : a = a') (h' : b = b') : Ending.returned (.tuple #[.int .u32 a, .int .u32 b]) = Ending.returned (.tuple #[.int .u32 a', .int .u32 b']) := by rw [h, h']
theorem bor_eq {x y c : Nat} (hx : x < 4294967296) (hy : y < 4294967296) (hc : c ≤ 1) : (x + 8589934592 - y - c) % 4294967296 + y + c = x + 4294967296 * bor x y c := by
  unfold bor
  split <;> omega

def DI (a m : List Nat) (k c : Nat) (t : List Nat) : Prop := DInv 4294967296 a m k c t
def SubRel (w : World) (p : Option Addr) (cap : Nat) (a m : List Nat) (gk : Nat) (v7 v8 : Value) (wr : World) : Prop :=
  ∃ (k c : Nat) (t : List Nat), k ≤ a.length ∧ v7 = .int .u32 (c : Int) ∧ v8 = .int .i64 (k : Int) ∧ DI a m k c t ∧ NatO w.heap.size wr p cap t ∧ Below w.heap.size w wr ∧ a.length - k ≤ gk

end Go.Proofs.YtgdjnohhofbcnaaDoor
end
section
namespace Go.Proofs.YtgdjnohhofbcnaaDoor
open Go.RowKit NatM

/-- a slice literal of limbs, just laid -/
theorem NatV.laid {w : World} (l : List Nat) (cs : Array Value) (t : TypeId) (hc : cs.toList = cells32 l) (hl : l.length ≤ 1000) (ok : ok32 l) :
    NatV (w.alloc (.cells cs t)).heap.size (w.alloc (.cells cs t)) (some ⟨w.heap.size, 0, none⟩) l.length l := by
  refine ⟨ok, Nat.le_refl _, by unfold maxLen; omega, (fun h => by cases h), fun _ => ⟨w.heap.size, 0, rfl, by simp, fun j x hx => ?_⟩⟩
  rw [Nat.zero_add, cell_alloc_row, ← Array.getElem?_toList, hc]
  exact cells32_get hx
theorem ok_of {l : List Nat} (h : l.all (fun x => decide (x < 4294967296)) = true) : ok32 l := fun x hx => by simpa using List.all_eq_true.1 h x hx
theorem nrm_of {l : List Nat} (h : (l.getLast? == some 0) = false) : nrm l := fun x hx e => by subst e; rw [hx] at h; simp at h
theorem D32_of {l : List Nat} {n : Nat} (ho : l.all (fun x => decide (x < 4294967296)) = true) (hn : (l.getLast? == some 0) = false) (hv : V32 l = n) : D32 n = l := digs_unique (by omega) (ok_of ho) (nrm_of hn) hv
theorem D10_of {l : List Nat} {n : Nat} (ho : l.all (fun x => decide (x < 10)) = true) (hn : (l.getLast? == some 0) = false) (hv : valB 10 l = n) : digs 10 n = l := digs_unique (by omega) (fun x hx => by simpa using List.all_eq_true.1 ho x hx) (nrm_of hn) hv

def bigText : ByteArray := { data := #[52, 50, 57, 52, 57, 54, 55, 50, 57, 54] }
theorem D32_big : D32 4294967296 = [0, 1] := D32_of (by decide) (by decide) (by decide)
theorem D32_15 : D32 15 = [15] := D32_of (by decide) (by decide) (by decide)
theorem text_big : textOf 4294967296 = bigText := by
  unfold textOf decL
  rw [if_neg (by decide), D10_of (l := [6, 9, 2, 7, 6, 9, 4, 9, 2, 4]) (by decide) (by decide) (by decide)]
  rfl
theorem parse_big_none : parseBad (bsOf bigText) = none := by decide +kernel
theorem list_big : (bigText.toList == [52, 50, 57, 52, 57, 54, 55, 50, 57, 54]) = true := by decide +kernel
theorem num_big : numOf (bsOf bigText) = 4294967296 := by decide +kernel


/-- long: is one of them longer than 400 limbs? -/
def longB (L : List Nt) : Bool := L.any fun x => decide (400 < x.2.2.length)
end Go.Proofs.YtgdjnohhofbcnaaDoor
end
section
namespace Go.Proofs.YtgdjnohhofbcnaaDoor.NatM
/-! ### binary digits -/
theorem len2_lt (n : Nat) : n < 2 ^ (digs 2 n).length := by
  have := valB_lt (B := 2) (by omega) (digs_ok (by omega) n)
  rwa [valB_digs (by omega)] at this
theorem len2_ge {n : Nat} (h : 0 < n) : 2 ^ ((digs 2 n).length - 1) ≤ n := by
  have hne : digs 2 n ≠ [] := fun e => by have := (digs_eq_nil (B := 2) (by omega)).1 e; omega
  have := ge_of_nrm (B := 2) (by omega) (digs_nrm (by omega) n) hne
  rwa [valB_digs (by omega)] at this
theorem len2_unique {n k : Nat} (h1 : 2 ^ (k - 1) ≤ n) (h2 : n < 2 ^ k) : (digs 2 n).length = k := by
  have h0 : 0 < n := Nat.lt_of_lt_of_le (Nat.pow_pos (by omega)) h1
  have a := len2_lt n
  have b := len2_ge h0
  rcases Nat.lt_trichotomy (digs 2 n).length k with h | h | h
  · have : 2 ^ (digs 2 n).length ≤ 2 ^ (k - 1) := Nat.pow_le_pow_right (by omega) (by omega)
    omega
  · exact h
  · have : 2 ^ k ≤ 2 ^ ((digs 2 n).length - 1) := Nat.pow_le_pow_right (by omega) (by omega)
    omega
theorem len2_pow (k : Nat) : (digs 2 (2 ^ k)).length = k + 1 := by
  apply len2_unique
  · exact Nat.le_refl _
  · rw [Nat.pow_succ]; have := Nat.pow_pos (n := k) (by omega : 0 < 2); omega
theorem len2_succ {x : Nat} (h : 0 < x) : (digs 2 x).length = 1 + (digs 2 (x / 2)).length := by
  rw [digs_pos (by omega) h, List.length_cons]; omega
/-- The bits of a number are those of its last limb, and b more for each limb below. -/
theorem len2_top (b : Nat) {l : List Nat} (ho : okB (2 ^ b) l) (hn : nrm l) {x : Nat} (hx : l[l.length - 1]? = some x) : (digs 2 (valB (2 ^ b) l)).length = b * (l.length - 1) + (digs 2 x).length := by
  have hl := get_lt hx
  have hx0 : 0 < x := by
    have := hn x (by rw [List.getLast?_eq_getElem?]; exact hx)
    omega
  have h1 := valB_takeq (2 ^ b) hx
  rw [show l.length - 1 + 1 = l.length by omega, List.take_length] at h1
  have h2 := valB_lt (B := 2 ^ b) (Nat.pow_pos (by omega)) (okB_take ho (l.length - 1))
  rw [List.length_take, Nat.min_eq_left (by omega)] at h2
  have h3 := len2_lt x
  have h4 := len2_ge hx0
  have hlen : 0 < (digs 2 x).length := List.length_pos_iff.2 (fun e => by have := (digs_eq_nil (B := 2) (by omega)).1 e; omega)
  have e : (2 ^ b) ^ (l.length - 1) = 2 ^ (b * (l.length - 1)) := (Nat.pow_mul 2 b _).symm
  rw [e] at h1 h2
  apply len2_unique
  · rw [show b * (l.length - 1) + (digs 2 x).length - 1 = b * (l.length - 1) + ((digs 2 x).length - 1) by omega, Nat.pow_add, h1]
    have := Nat.mul_le_mul_left (2 ^ (b * (l.length - 1))) h4
    omega
  · rw [Nat.pow_add, h1]
    have : 2 ^ (b * (l.length - 1)) * (x + 1) ≤ 2 ^ (b * (l.length - 1)) * 2 ^ (digs 2 x).length := Nat.mul_le_mul_left _ h3
    rw [Nat.mul_add] at this
    omega
end Go.Proofs.YtgdjnohhofbcnaaDoor.NatM
end
section
namespace Go.Proofs.YtgdjnohhofbcnaaDoor
open Go.RowKit Go.Extern.Stop Go.Stop Go.Extern NatM

theorem NatO.laid (w : World) (l : List Nat) (cs : Array Value) (n : Nat) (hn : n = l.length) (hc : cs.toList = cells32 l) (hl : l.length ≤ 1000) (ok : ok32 l) : NatO w.heap.size (w.alloc (.cells cs 126)) (some ⟨w.heap.size, 0, none⟩) n l := by
  have hs : cs.size = l.length := by rw [← Array.length_toList, hc, cells32_length]
  subst hn
  refine ⟨⟨by rw [cells32_length, Nat.mul_one], Or.inr ⟨w.heap.size, l.length, cs, rfl, Nat.le_refl _, heap_newN _ _, Nat.le_refl _, by unfold maxLen; omega, by rw [hs, Nat.mul_one], ?_⟩⟩, ok⟩
  rw [hc, Nat.mul_one, List.take_of_length_le (by rw [cells32_length]; exact Nat.le_refl _)]

/-- quotient, rest and no error -/
def OverPost (w : World) (n d : Nat) (e : Ending) (w' : World) : Prop :=
  ∃ p c, e = .returned (.tuple #[.slice p (D32 (n / d)).length c, .int .u32 ((n % d : Nat) : Int), .nilIface]) ∧ NatO w.heap.size w' p c (D32 (n / d)) ∧ Below w.heap.size w w'

/-- nothing, no rest, and an error -/
def OverErr (w : World) (A : Nat → Addr) (e : Ending) (w' : World) : Prop :=
  ∃ b, e = .returned (.tuple #[.slice none 0 0, .int .u32 0, (Tree.fault b natOp 0 (.leaf (A 3))).val]) ∧ (Tree.fault b natOp 0 (.leaf (A 3))).lies w' ∧ Below w.heap.size w w'



def PowRel (w : World) (k : Nat) (n : Nat) (v6 v15 : Value) (wr : World) : Prop :=
  ∃ (i : Nat) (p : Option Addr) (c : Nat) (t : List Nat), i ≤ n ∧ v15 = .int .i64 (i : Int) ∧ v6 = .slice p t.length c ∧ V32 t = k ^ i ∧ t.length ≤ i + 1 ∧ NatO w.heap.size wr p c t ∧ Below w.heap.size w wr
theorem D32_1 : D32 1 = [1] := D32_of (by decide) (by decide) (by decide)

/-- the number of binary digits -/
def bits2 (n : Nat) : Nat := (digs 2 n).length
end Go.Proofs.YtgdjnohhofbcnaaDoor
end
section
namespace Go.Proofs.YtgdjnohhofbcnaaDoor
open Go.RowKit NatM

theorem half_len {l : List Nat} (h : ok32 l) : (D16 (V32 l)).length ≤ 2 * l.length := by
  have e : V16 (half l) = V32 l := half_val l
  have := D16_le (half_ok h)
  rw [e, half_length] at this
  exact this
theorem digs_le_iff {B : Nat} (hB : 2 ≤ B) (n k : Nat) : (digs B n).length ≤ k ↔ n < B ^ k := by
  constructor
  · intro h
    have h1 := valB_lt (B := B) (by omega) (digs_ok hB n)
    rw [valB_digs hB] at h1
    exact Nat.lt_of_lt_of_le h1 (Nat.pow_le_pow_right (by omega) h)
  · exact digs_length_le hB


/-- is the number less than 2^64? -/
def fitsB (n : Nat) : Bool := decide (n < 18446744073709551616)

def FromRel (B : Nat) (w : World) (n : Nat) (v0 v3 : Value) (wr : World) : Prop :=
  ∃ (x : Nat) (t : List Nat) (p : Option Addr) (cap : Nat), v0 = .int .u64 (x : Int) ∧ v3 = .slice p t.length cap ∧ V16 t + 65536 ^ t.length * x = n ∧ okB 65536 t ∧ NatO B wr p cap t ∧ Below B w wr ∧ t.length ≤ 4
end Go.Proofs.YtgdjnohhofbcnaaDoor
end
section
namespace Go.Proofs.YtgdjnohhofbcnaaDoor
open Go.RowKit NatM

theorem lt_of_drop16 {a b : List Nat} {i x y : Nat} (ha : okB 65536 a) (hx : a[i]? = some x) (hy : b[i]? = some y) (hd : a.drop (i + 1) = b.drop (i + 1)) (hlt : x < y) : V16 a < V16 b := lt_atq (by omega) ha hx hy hd hlt
theorem cmp_len16 {m n : Nat} (h : (D16 m).length < (D16 n).length) : m < n := digs_length_lt (by omega) h


/-- modulo 2^64 -/
def lowN (n : Nat) : Nat := n % 18446744073709551616
theorem low16 {n : Nat} : V16 ((D16 n).take 4) = lowN n := by
  have hv : V16 (D16 n) = n := V16_D16 n
  have h1 := valB_lt (B := 65536) (by omega) (okB_take (D16_ok n) 4)
  rcases Nat.lt_or_ge (D16 n).length 4 with h | h
  · rw [List.take_of_length_le (by omega)] at h1 ⊢
    have h2 : 65536 ^ (D16 n).length ≤ 65536 ^ 4 := Nat.pow_le_pow_right (by omega) (by omega)
    rw [show 65536 ^ 4 = 18446744073709551616 by decide] at h2
    change V16 (D16 n) < _ at h1
    rw [hv] at h1 ⊢
    unfold lowN
    omega
  · have hs := valB_split 65536 (D16 n) 4 h
    rw [List.length_take, Nat.min_eq_left h, show 65536 ^ 4 = 18446744073709551616 by decide] at h1
    rw [show 65536 ^ 4 = 18446744073709551616 by decide] at hs
    change V16 (D16 n) = V16 ((D16 n).take 4) + _ at hs
    change V16 ((D16 n).take 4) < _ at h1
    rw [hv] at hs
    unfold lowN
    omega
/-- x, read so far from the top digit down to place j of the lowest four -/
structure LowInv (n j x : Nat) : Prop where
  le : j ≤ 4
  val : x = V16 (((D16 n).take 4).drop j)
theorem LowInv.lt {n j x : Nat} (h : LowInv n j x) : x < 65536 ^ (4 - j) := by
  have h1 := valB_lt (B := 65536) (by omega) (okB_drop (okB_take (D16_ok n) 4) j)
  rw [h.val]
  refine Nat.lt_of_lt_of_le h1 (Nat.pow_le_pow_right (by omega) ?_)
  rw [List.length_drop, List.length_take]; omega
theorem LowInv.start (n : Nat) : LowInv n 4 0 := ⟨Nat.le_refl _, by rw [List.drop_of_length_le (by rw [List.length_take]; omega)]; rfl⟩
theorem LowInv.step {n j x y : Nat} (h : LowInv n (j + 1) x) (hy : (D16 n)[j]? = some y) : LowInv n j (x * 65536 + y) := by
  have hj := h.le
  refine ⟨by omega, ?_⟩
  have hy' : ((D16 n).take 4)[j]? = some y := by rw [List.getElem?_take, if_pos (by omega)]; exact hy
  have := valB_dropq 65536 hy'
  show _ = valB 65536 _
  rw [this, h.val]
  show V16 _ * 65536 + y = y + 65536 * V16 _
  omega
theorem LowInv.over {n j x : Nat} (h : LowInv n (j + 1) x) (hj : (D16 n).length ≤ j) : LowInv n j (x * 65536) := by
  have hle := h.le
  have e : x = 0 := by rw [h.val, List.drop_of_length_le (by rw [List.length_take]; omega)]; rfl
  refine ⟨by omega, ?_⟩
  rw [List.drop_of_length_le (by rw [List.length_take]; omega), e]; rfl
theorem LowInv.done {n x : Nat} (h : LowInv n 0 x) : x = lowN n := by rw [h.val, List.drop_zero, low16]

def LowRel (n : Nat) (w2 : World) (v4 v5 : Value) (wr : World) : Prop :=
  ∃ (j x : Nat), v5 = .int .i64 ((j : Int) - 1) ∧ v4 = .int .u64 (x : Int) ∧ LowInv n j x ∧ w2 = wr
end Go.Proofs.YtgdjnohhofbcnaaDoor
end
section
namespace Go.Proofs.YtgdjnohhofbcnaaDoor
open Go.RowKit NatM

/-- two lists of digits, added so far up to place i -/
structure SInv (a b : List Nat) (i c : Nat) (out : List Nat) : Prop where
  len : out.length = i
  ok : okB 65536 out
  car : c ≤ 1
  val : V16 out + 65536 ^ i * c = V16 (a.take i) + V16 (b.take i)
  bnd : i ≤ max a.length b.length + 1
theorem SInv.start (a b : List Nat) : SInv a b 0 0 [] := ⟨rfl, okB_nil _, by omega, by simp [V16, valB], by omega⟩
theorem SInv.stop {a b : List Nat} {i c : Nat} {out : List Nat} (ha : okB 65536 a) (hb : okB 65536 b) (h : SInv a b i c out) (hi : max a.length b.length < i) : c = 0 := by
  have hv := h.val
  rw [List.take_of_length_le (by omega), List.take_of_length_le (by omega)] at hv
  have h1 := valB_lt (B := 65536) (by omega) ha
  have h2 := valB_lt (B := 65536) (by omega) hb
  have h3 : 65536 ^ a.length ≤ 65536 ^ (i - 1) := Nat.pow_le_pow_right (by omega) (by omega)
  have h4 : 65536 ^ b.length ≤ 65536 ^ (i - 1) := Nat.pow_le_pow_right (by omega) (by omega)
  have h5 : 65536 ^ i = 65536 * 65536 ^ (i - 1) := by rw [Nat.mul_comm, ← Nat.pow_succ]; congr 1; omega
  rcases Nat.eq_zero_or_pos c with h0 | h0
  · exact h0
  · exfalso
    have h6 : 65536 ^ i * 1 ≤ 65536 ^ i * c := Nat.mul_le_mul_left _ h0
    change V16 a < _ at h1
    change V16 b < _ at h2
    omega
theorem SInv.step {a b : List Nat} {i c : Nat} {out : List Nat} (ha : okB 65536 a) (hb : okB 65536 b) (h : SInv a b i c out) (hgo : i < a.length ∨ i < b.length ∨ 0 < c) :
    SInv a b (i + 1) ((c + limbAt a i + limbAt b i) / 65536) (out ++ [(c + limbAt a i + limbAt b i) % 65536]) := by
  have hv := h.val
  have hl := h.len
  have hc := h.car
  have hst := h.stop ha hb
  have hx := limb_lt (B := 65536) (by omega) ha i
  have hy := limb_lt (B := 65536) (by omega) hb i
  refine ⟨by rw [List.length_append, List.length_singleton, hl], okB_snoc h.ok (by omega), by omega, ?_, ?_⟩
  · show valB 65536 _ + _ = valB 65536 _ + valB 65536 _
    rw [valB_snoc, valB_take_limb, valB_take_limb, hl, Nat.pow_succ, Nat.mul_assoc, Nat.add_assoc, ← Nat.mul_add, Nat.mod_add_div, Nat.mul_add, Nat.mul_add]
    change V16 out + _ = (V16 _ + _) + (V16 _ + _)
    omega
  · have hb := h.bnd
    rcases Nat.lt_or_ge (max a.length b.length) i with h1 | h1
    · have := hst h1
      omega
    · omega
theorem SInv.done {a b : List Nat} {i : Nat} {out : List Nat} (h : SInv a b i 0 out) (ha : a.length ≤ i) (hb : b.length ≤ i) : V16 out = V16 a + V16 b := by
  have hv := h.val
  rw [List.take_of_length_le ha, List.take_of_length_le hb] at hv
  omega
theorem ok16_32 {l : List Nat} (h : okB 65536 l) : ok32 l := fun x hx => Nat.lt_of_lt_of_le (h x hx) (by omega)

def AddRel (B : Nat) (w : World) (a b : List Nat) (v7 v8 v9 : Value) (wr : World) : Prop :=
  ∃ (i c : Nat) (t : List Nat) (p : Option Addr) (cap : Nat), v7 = .slice p t.length cap ∧ v8 = .int .u32 (c : Int) ∧ v9 = .int .i64 (i : Int) ∧ SInv a b i c t ∧ NatO B wr p cap t ∧ Below B w wr


end Go.Proofs.YtgdjnohhofbcnaaDoor
end
section
namespace Go.Proofs.YtgdjnohhofbcnaaDoor
open Go.RowKit NatM

def SumRefRel (w : World) (L : List Nt) (v3 v4 : Value) (wr : World) : Prop :=
  ∃ (k : Nat) (p : Option Addr) (cap : Nat), k ≤ L.length ∧ v4 = .int .i64 (k : Int) ∧ v3 = .slice p (D32 (sumV (L.take k))).length cap ∧ NatO w.heap.size wr p cap (D32 (sumV (L.take k))) ∧ Below w.heap.size w wr
end Go.Proofs.YtgdjnohhofbcnaaDoor
end
section
namespace Go.Proofs.YtgdjnohhofbcnaaDoor
open Go.RowKit NatM

/-- a number of edenref02 that is refused: no number, and the error's number k at place pl of package nat -/
def RefErr (w : World) (pl k : Int) (v : Value) (w' : World) : Prop :=
  ∃ po pa, v = .agg #[.int .i64 k, .slice po 1 1, .slice pa 1 1] ∧ WantV w' po pa 1 1 [(natOp, pl)] ∧ Below w.heap.size w w'
def RefErr2 (w : World) (pl k : Int) (e : Ending) (w' : World) : Prop := ∃ v, e = .returned (.tuple #[.slice none 0 0, v]) ∧ RefErr w pl k v w'
def noErr : Value := .agg #[.int .i64 0, .slice none 0 0, .slice none 0 0]
def RefOk2 (w : World) (n : Nat) (e : Ending) (w' : World) : Prop :=
  ∃ p c, e = .returned (.tuple #[.slice p (D32 n).length c, noErr]) ∧ NatO w.heap.size w' p c (D32 n) ∧ Below w.heap.size w w'

/-- an Err of one package is made: its two slices are new memory -/
def RawFresh (w : World) (op : ByteArray) (pl n : Int) (e : Ending) (w' : World) : Prop :=
  ∃ g g', e = .returned (.agg #[.int .i64 n, .slice (some ⟨g, 0, none⟩) 1 1, .slice (some ⟨g', 0, none⟩) 1 1]) ∧ (w.heap.size ≤ g ∧ g < w'.heap.size ∧ w.heap.size ≤ g' ∧ g' < w'.heap.size) ∧ w'.cell? ⟨g, 0, none⟩ = some (.string op) ∧ w'.cell? ⟨g', 0, none⟩ = some (.int .i64 pl) ∧ Below w.heap.size w w'
theorem raw_fresh (op : ByteArray) (pl n : Int) (w : World) :
    Calls Tryd.prog 44 #[.string op, .int .i64 pl, .int .i64 n] w (RawFresh w op pl n) := by
  go_enter Tryd.func44, Tryd.ntmps44
  go_wp2_with fail
  refine bodyPost_ret (v := .agg #[.int .i64 n, .slice (some ⟨w.heap.size + 1, 0, none⟩) 1 1, .slice (some ⟨w.heap.size + 1 + 1, 0, none⟩) 1 1]) (by simp [results, Tryd.results44, go_sem]) rfl ⟨_, _, rfl, ⟨by omega, by simp, by omega, by simp⟩, ?_, ?_, ?_⟩
  · show World.cell? _ ⟨w.heap.size + 1, 0, none⟩ = _
    rw [World.cell?_alloc_lt _ _ ⟨w.heap.size + 1, 0, none⟩ (by simp), cell_alloc_at _ _ _ _ _ (by simp)]
    rfl
  · show World.cell? _ ⟨w.heap.size + 1 + 1, 0, none⟩ = _
    rw [cell_alloc_at _ _ _ _ _ (by simp)]
    rfl
  · exact (((Below.refl _ _).alloc (Nat.le_refl _) _).alloc (by simp) _).alloc (by simp; omega) _
theorem WantV.one {w : World} {g g' : Nat} {op : ByteArray} {pl : Int} (hg : g < w.heap.size) (hg' : g' < w.heap.size) (h : w.cell? ⟨g, 0, none⟩ = some (.string op)) (h' : w.cell? ⟨g', 0, none⟩ = some (.int .i64 pl)) : WantV w (some ⟨g, 0, none⟩) (some ⟨g', 0, none⟩) 1 1 [(op, pl)] :=
  ⟨fun _ => ⟨g, 0, rfl, hg, fun j x hx => by
    match j, hx with
    | 0, hx => simp at hx; subst hx; exact h⟩, fun _ => ⟨g', 0, rfl, hg', fun j x hx => by
    match j, hx with
    | 0, hx => simp at hx; subst hx; exact h'⟩, Nat.le_refl _, Nat.le_refl _, by decide, by decide⟩
/-- the three cells of a result of type Err are set -/
def put3 (w : World) (h : Nat) (a b c : Value) : World := ((w.setCell ⟨h, 0, none⟩ a).setCell ⟨h, 1, none⟩ b).setCell ⟨h, 2, none⟩ c
theorem put3_size (w : World) (h : Nat) (a b c : Value) : (put3 w h a b c).heap.size = w.heap.size := by simp [put3]
theorem put3_cell (w : World) (h : Nat) (a b c : Value) (p : Addr) (hp : p.block ≠ h) : (put3 w h a b c).cell? p = w.cell? p := by
  unfold put3
  have e : ∀ (u : World) (x : Addr) (v : Value), x.block = h → (u.setCell x v).cell? p = u.cell? p := fun u x v hx => World.cell?_of_block (heap_setCell_other u x p.block v (by rw [hx]; exact hp))
  rw [e _ _ _ rfl, e _ _ _ rfl, e _ _ _ rfl]
theorem put3_below {B h : Nat} {w0 w : World} (hb : Below B w0 w) (hB : B ≤ h) (a b c : Value) : Below B w0 (put3 w h a b c) := ((hb.setCell hB _).setCell hB _).setCell hB _
theorem NatO.put3 {base h : Nat} {w : World} {p : Option Addr} {c : Nat} {l : List Nat} (ho : NatO base w p c l) (hh : h < base) (a b d : Value) : NatO base (put3 w h a b d) p c l :=
  ⟨ownsRow_setCell_below (ownsRow_setCell_below (ownsRow_setCell_below ho.own (a := ⟨h, 0, none⟩) hh a) (a := ⟨h, 1, none⟩) hh b) (a := ⟨h, 2, none⟩) hh d, ho.ok⟩
/-- where the three cells of a result lie -/
structure Err3 (w : World) (h : Nat) (a b c : Value) : Prop where
  heap : w.heap[h]? = some (.cells #[a, b, c] 34 (0, 0))
theorem Err3.new (w : World) : Err3 (w.alloc (.cells #[.int .i64 0, .slice none 0 0, .slice none 0 0] 34)) w.heap.size (.int .i64 0) (.slice none 0 0) (.slice none 0 0) := ⟨heap_alloc_new w _⟩
theorem Err3.next {w w' : World} {h : Nat} {a b c : Value} (hb : Below w.heap.size w w') (k : Err3 w h a b c) : Err3 w' h a b c := ⟨by rw [hb.block _ (heap_ltN k.heap)]; exact k.heap⟩
theorem Err3.facts {w : World} {h : Nat} {a b c : Value} (k : Err3 w h a b c) : (w.frozen? ⟨h, 0, none⟩ = false ∧ w.frozen? ⟨h, 1, none⟩ = false ∧ w.frozen? ⟨h, 2, none⟩ = false) ∧ w.cell? ⟨h, 0, none⟩ = some a ∧ w.cell? ⟨h, 1, none⟩ = some b ∧ w.cell? ⟨h, 2, none⟩ = some c := by
  have hh := k.heap
  exact ⟨⟨by simp [World.frozen?, hh], by simp [World.frozen?, hh], by simp [World.frozen?, hh]⟩, cell_of_row w h 0 _ _ _ hh, cell_of_row w h 1 _ _ _ hh, cell_of_row w h 2 _ _ _ hh⟩

end Go.Proofs.YtgdjnohhofbcnaaDoor
end
section
namespace Go.Proofs.YtgdjnohhofbcnaaDoor
open Go.RowKit Go.Extern.Stop Go.Stop Go.Extern WordM RuleM

/-- a rule in a block of its own -/
structure Rul3 (w : World) (h : Nat) (a b c : Value) : Prop where
  heap : w.heap[h]? = some (.cells #[a, b, c] 24 (0, 0))
theorem Rul3.new (w : World) (a b c : Value) : Rul3 (w.alloc (.cells #[a, b, c] 24)) w.heap.size a b c := ⟨heap_newN w _⟩
theorem Rul3.next {w w' : World} {h : Nat} {a b c : Value} (hb : Below w.heap.size w w') (k : Rul3 w h a b c) : Rul3 w' h a b c := ⟨(hb.block h (heap_ltN k.heap)).trans k.heap⟩
theorem Rul3.lt {w : World} {h : Nat} {a b c : Value} (k : Rul3 w h a b c) : h < w.heap.size := heap_ltN k.heap
theorem Rul3.facts {w : World} {h : Nat} {a b c : Value} (k : Rul3 w h a b c) : (w.frozen? ⟨h, 0, none⟩ = false ∧ w.frozen? ⟨h, 1, none⟩ = false ∧ w.frozen? ⟨h, 2, none⟩ = false) ∧ w.cell? ⟨h, 0, none⟩ = some a ∧ w.cell? ⟨h, 1, none⟩ = some b ∧ w.cell? ⟨h, 2, none⟩ = some c :=
  ⟨⟨by simp [World.frozen?, k.heap], by simp [World.frozen?, k.heap], by simp [World.frozen?, k.heap]⟩, cell_of_row w h 0 _ _ _ k.heap, cell_of_row w h 1 _ _ _ k.heap, cell_of_row w h 2 _ _ _ k.heap⟩

theorem strayN_ok {k : Nat} {l : List Int} (h : okW k l) : strayN k l = l.length := by
  unfold strayN
  rw [bad_none.2 h]; rfl
theorem strayN_bad {k : Int} {l : List Int} {i : Nat} (h : l.findIdx? (badAt k) = some i) : strayN k l = i := by
  unfold strayN
  rw [h]; rfl
theorem strayN_lt {k : Int} {l : List Int} {i : Nat} (h : l.findIdx? (badAt k) = some i) : i < l.length := by
  obtain ⟨hil, _⟩ := List.findIdx?_eq_some_iff_getElem.1 h
  exact hil

set_option maxRecDepth 100000 in
set_option maxHeartbeats 1000000 in
theorem rcheck_ok (k r : Nat) (p : Option Addr) (n c : Nat) (t : List Int) (w : World) (hn : n = t.length) (h : IntV w.heap.size w p c t) (ho : OkR k r t) :
    Calls Tryd.prog 47 #[.agg #[.int .i64 (k : Int), .int .i64 (r : Int), .slice p n c]] w (Tells .nilIface w) := by
  have h1 := ho.k1
  have h4 := ho.k4
  have h3 := ho.r3
  obtain ⟨S, hS⟩ : ∃ S, k ^ (2 * r + 1) = S := ⟨_, rfl⟩
  have hsz := size_ok k r
  rw [hS] at hsz
  have hnS : n = S := by rw [hn, ho.len, hS]
  have hst := strayN_ok ho.ok
  rw [← hn] at hst
  have hSle := pow_le (r := r) h4 h3
  rw [hS] at hSle
  subst hnS
  have H := Lib.hid (And.intro h (And.intro hn (And.intro hsz hst)))
  clear h hn ho hS hsz hst
  go_enter Tryd.func47, Tryd.ntmps47
  go_wp2_with fail
  obtain ⟨w0, hw0⟩ : ∃ w0, w0 = w.alloc (.cells #[.int .i64 (k : Int), .int .i64 (r : Int), .slice p n c] 24) := ⟨_, rfl⟩
  have hb0 : Below w.heap.size w w0 := by rw [hw0]; exact (Below.refl _ _).alloc (Nat.le_refl _) _
  have hE0 : Rul3 w0 w.heap.size (.int .i64 (k : Int)) (.int .i64 (r : Int)) (.slice p n c) := by rw [hw0]; exact Rul3.new w _ _ _
  rw [← hw0]
  obtain ⟨⟨hf0, hf1, hf2⟩, hc0, hc1, hc2⟩ := hE0.facts
  have HE := Lib.hid (And.intro hE0 hb0)
  clear hw0 hE0 hb0
  go_wp2_with fail
  refine (H.out.2.2.1 w0 h1 h4 h3).mono ?_
  rintro e w1 ⟨rfl, rfl⟩
  go_wp2_with fail
  refine (stray_any (k : Int) p n c t w0 H.out.2.1 (H.out.1.next HE.out.2)).mono ?_
  rintro e w1 ⟨rfl, rfl⟩
  rw [H.out.2.2.2]
  go_wp2_with fail
  go_ret
  exact ⟨rfl, HE.out.2⟩

set_option maxRecDepth 100000 in
set_option maxHeartbeats 1000000 in
theorem rcheck_bad (k r : Int) (p : Option Addr) (n c : Nat) (t : List Int) (w : World) (A : Nat → Addr) (hr : Roots w A) (hn : n = t.length) (h : IntV w.heap.size w p c t) (i : Nat) (hc : chkR k r t = some i) :
    Calls Tryd.prog 47 #[.agg #[.int .i64 k, .int .i64 r, .slice p n c]] w (Err1 w A ruleOp i 1) := by
  have hle := h.le
  have hcap := h.cap
  unfold maxLen at hcap
  have hn63 : n ≤ 9223372036854775807 := by omega
  have start : ∀ (w0 : World), w0 = w.alloc (.cells #[.int .i64 k, .int .i64 r, .slice p n c] 24) → Below w.heap.size w w0 ∧ Rul3 w0 w.heap.size (.int .i64 k) (.int .i64 r) (.slice p n c) := fun w0 hw0 =>
    ⟨by rw [hw0]; exact (Below.refl _ _).alloc (Nat.le_refl _) _, by rw [hw0]; exact Rul3.new w _ _ _⟩
  have ST := Lib.hid start
  clear start hle hcap
  unfold chkR at hc
  split at hc
  · obtain rfl := Option.some.inj hc
    rename_i hk
    have HR := Lib.hid hr
    clear h hn hc hr
    rcases (by omega : k < 1 ∨ (¬ k < 1 ∧ 4 < k)) with h1 | ⟨h1, h2⟩
    all_goals
      clear hk
      go_enter Tryd.func47, Tryd.ntmps47
      go_wp2_with fail
      obtain ⟨w0, hw0⟩ : ∃ w0, w0 = w.alloc (.cells #[.int .i64 k, .int .i64 r, .slice p n c] 24) := ⟨_, rfl⟩
      rw [← hw0]
      obtain ⟨hb0, hE0⟩ := ST.out w0 hw0
      obtain ⟨⟨hf0, hf1, hf2⟩, hc0, hc1, hc2⟩ := hE0.facts
      have HE := Lib.hid (And.intro hE0 hb0)
      clear hw0 hE0 hb0
      go_wp2_with fail
      refine (new_at ruleOp 0 1 w0 A (HR.out.below HE.out.2) (by omega)).mono ?_
      rintro e w1 ⟨b, rfl, hl1, hb1⟩
      have H := Lib.hid (And.intro hl1 (HE.out.2.trans (hb1.mono HE.out.2.size)))
      clear hl1 hb1
      go_wp2_with fail
      go_ret
      exact ⟨_, rfl, H.out.1, H.out.2⟩
  · rename_i hk
    have h1 : ¬ k < 1 := by omega
    have h4 : ¬ 4 < k := by omega
    split at hc
    · obtain rfl := Option.some.inj hc
      rename_i hrr
      have HR := Lib.hid (And.intro hr hrr)
      clear h hn hc hr hk hrr
      go_enter Tryd.func47, Tryd.ntmps47
      go_wp2_with fail
      obtain ⟨w0, hw0⟩ : ∃ w0, w0 = w.alloc (.cells #[.int .i64 k, .int .i64 r, .slice p n c] 24) := ⟨_, rfl⟩
      rw [← hw0]
      obtain ⟨hb0, hE0⟩ := ST.out w0 hw0
      obtain ⟨⟨hf0, hf1, hf2⟩, hc0, hc1, hc2⟩ := hE0.facts
      have HE := Lib.hid (And.intro hE0 hb0)
      clear hw0 hE0 hb0
      go_wp2_with fail
      refine (size_bad k r w0 A (HR.out.1.below HE.out.2) (Or.inr HR.out.2)).mono ?_
      rintro e w1 ⟨b1, rfl, _, hb1⟩
      have H1 := Lib.hid (HE.out.2.trans (hb1.mono HE.out.2.size))
      clear hb1
      go_wp2_with fail
      refine (new_at ruleOp 1 1 w1 A (HR.out.1.below H1.out) (by omega)).mono ?_
      rintro e w2 ⟨b, rfl, hl2, hb2⟩
      have H := Lib.hid (And.intro hl2 (H1.out.trans (hb2.mono H1.out.size)))
      clear hl2 hb2
      go_wp2_with fail
      go_ret
      exact ⟨_, rfl, H.out.1, H.out.2⟩
    · rename_i hrr
      obtain ⟨K, rfl⟩ : ∃ K : Nat, k = K := ⟨k.toNat, by omega⟩
      obtain ⟨R, rfl⟩ : ∃ R : Nat, r = R := ⟨r.toNat, by omega⟩
      have hk1 : 1 ≤ K := by omega
      have hk4 : K ≤ 4 := by omega
      have hr3 : R ≤ 3 := by omega
      obtain ⟨S, hS⟩ : ∃ S, K ^ (2 * R + 1) = S := ⟨_, rfl⟩
      have hsz := size_ok K R
      rw [hS] at hsz
      have hSle := pow_le (r := R) hk4 hr3
      rw [hS] at hSle
      rw [Int.toNat_natCast, Int.toNat_natCast, hS] at hc
      split at hc
      · obtain rfl := Option.some.inj hc
        rename_i hlen
        have HR := Lib.hid (And.intro hr hsz)
        have hnS : ¬ (n : Int) = (S : Int) := by omega
        have hnS' : ((n : Int) == (S : Int)) = false := by simpa using hnS
        clear h hn hc hr hk hrr hS hsz hlen
        go_enter Tryd.func47, Tryd.ntmps47
        go_wp2_with fail
        obtain ⟨w0, hw0⟩ : ∃ w0, w0 = w.alloc (.cells #[.int .i64 (K : Int), .int .i64 (R : Int), .slice p n c] 24) := ⟨_, rfl⟩
        rw [← hw0]
        obtain ⟨hb0, hE0⟩ := ST.out w0 hw0
        obtain ⟨⟨hf0, hf1, hf2⟩, hc0, hc1, hc2⟩ := hE0.facts
        have HE := Lib.hid (And.intro hE0 hb0)
        clear hw0 hE0 hb0
        go_wp2_with fail
        refine (HR.out.2 w0 hk1 hk4 hr3).mono ?_
        rintro e w1 ⟨rfl, rfl⟩
        go_wp2_with fail
        refine (new_at ruleOp 2 1 w0 A (HR.out.1.below HE.out.2) (by omega)).mono ?_
        rintro e w2 ⟨b, rfl, hl2, hb2⟩
        have H := Lib.hid (And.intro hl2 (HE.out.2.trans (hb2.mono HE.out.2.size)))
        clear hl2 hb2
        go_wp2_with fail
        go_ret
        exact ⟨_, rfl, H.out.1, H.out.2⟩
      · rename_i hlen
        obtain ⟨j, hj, rfl⟩ := Option.map_eq_some_iff.1 hc
        have hjl := strayN_lt hj
        have hst := strayN_bad hj
        have hnS : n = S := by omega
        have hjn : j < n := by omega
        subst hnS
        have H := Lib.hid (And.intro h (And.intro hn (And.intro hsz (And.intro hst hr))))
        clear h hn hc hr hk hrr hS hsz hlen hj hst hjl
        go_enter Tryd.func47, Tryd.ntmps47
        go_wp2_with fail
        obtain ⟨w0, hw0⟩ : ∃ w0, w0 = w.alloc (.cells #[.int .i64 (K : Int), .int .i64 (R : Int), .slice p n c] 24) := ⟨_, rfl⟩
        rw [← hw0]
        obtain ⟨hb0, hE0⟩ := ST.out w0 hw0
        obtain ⟨⟨hf0, hf1, hf2⟩, hc0, hc1, hc2⟩ := hE0.facts
        have HE := Lib.hid (And.intro hE0 hb0)
        clear hw0 hE0 hb0
        go_wp2_with fail
        refine (H.out.2.2.1 w0 hk1 hk4 hr3).mono ?_
        rintro e w1 ⟨rfl, rfl⟩
        go_wp2_with fail
        refine (stray_any (K : Int) p n c t w0 H.out.2.1 (H.out.1.next HE.out.2)).mono ?_
        rintro e w1 ⟨rfl, rfl⟩
        rw [H.out.2.2.2.1]
        go_wp2_with fail
        refine (new_at ruleOp (3 + (j : Int)) 1 w0 A (H.out.2.2.2.2.below HE.out.2) (by omega)).mono ?_
        rintro e w2 ⟨b, rfl, hl2, hb2⟩
        have HF := Lib.hid (And.intro hl2 (HE.out.2.trans (hb2.mono HE.out.2.size)))
        clear hl2 hb2
        go_wp2_with fail
        go_ret
        exact ⟨_, rfl, by have := HF.out.1; rwa [show ((3 + j : Nat) : Int) = 3 + (j : Int) by push_cast; rfl], HF.out.2⟩


/-- the fault of a rule that ought to be small: the place and the number -/
def chkS (k r : Int) (t : List Int) : Option (Nat × Nat) := match chkR k r t with
  | some i => some (i, 1)
  | none => if 256 < t.length then some (0, 4) else none
theorem chkS_none {k r : Int} {t : List Int} (h : chkS k r t = none) : ∃ K R : Nat, k = K ∧ r = R ∧ OkR K R t ∧ t.length ≤ 256 := by
  unfold chkS at h
  split at h
  · cases h
  · rename_i hn
    obtain ⟨K, R, h1, h2, h3⟩ := chkR_none hn
    split at h
    · cases h
    · exact ⟨K, R, h1, h2, h3, by omega⟩
theorem chkS_ok {K R : Nat} {t : List Int} (h : OkR K R t) (hl : t.length ≤ 256) : chkS K R t = none := by
  unfold chkS
  rw [chkR_ok h]
  simp only []
  rw [if_neg (by omega)]

end Go.Proofs.YtgdjnohhofbcnaaDoor
end
section
namespace Go.Proofs.YtgdjnohhofbcnaaDoor
open Go.RowKit Go.Extern.Stop Go.Stop Go.Extern WordM RuleM

def ringOp : ByteArray := { data := #[114, 105, 110, 103] }
theorem box_rule (w : World) (a b c : Value) : ∀ (w0 : World), w0 = w.alloc (.cells #[a, b, c] 24) → Below w.heap.size w w0 ∧ Rul3 w0 w.heap.size a b c := fun w0 hw0 =>
  ⟨by rw [hw0]; exact (Below.refl _ _).alloc (Nat.le_refl _) _, by rw [hw0]; exact Rul3.new w _ _ _⟩
/-- the fault of the rule, or that of the ring -/
def chkG (k r : Int) (t l : List Int) : Option (List (ByteArray × Int) × Nat) := match chkR k r t with
  | some i => some ([(ringOp, 0), (ruleOp, (i : Int))], 1)
  | none => (chkRg k.toNat l).map fun y => ([(ringOp, (y.1 : Int))], y.2)
theorem chkG_none {k r : Int} {t l : List Int} (h : chkG k r t l = none) : ∃ K R : Nat, k = K ∧ r = R ∧ OkR K R t ∧ 0 < l.length ∧ l.length ≤ 4096 ∧ okW K l := by
  unfold chkG at h
  cases hk : chkR k r t with
  | some i => rw [hk] at h; cases h
  | none =>
    rw [hk] at h
    obtain ⟨K, R, rfl, rfl, ho⟩ := chkR_none hk
    have := chkRg_none (Option.map_eq_none_iff.1 h)
    rw [Int.toNat_natCast] at this
    exact ⟨K, R, rfl, rfl, ho, this⟩
theorem chkG_ok {K R : Nat} {t l : List Int} (ho : OkR K R t) (h0 : 0 < l.length) (h4 : l.length ≤ 4096) (hw : okW K l) : chkG K R t l = none := by
  unfold chkG
  rw [chkR_ok ho, Int.toNat_natCast, chkRg_ok h0 h4 hw]; rfl
theorem chkG_num {k r : Int} {t l : List Int} : ∀ y, chkG k r t l = some y → 1 ≤ y.2 ∧ y.2 ≤ 11 := fun y h => by
  unfold chkG at h
  cases hk : chkR k r t with
  | some i => rw [hk] at h; obtain rfl := Option.some.inj h; simp
  | none =>
    rw [hk] at h
    obtain ⟨z, hz, rfl⟩ := Option.map_eq_some_iff.1 h
    unfold chkRg at hz
    split at hz
    · obtain rfl := Option.some.inj hz; simp
    · split at hz
      · obtain rfl := Option.some.inj hz; simp
      · obtain ⟨i, _, rfl⟩ := Option.map_eq_some_iff.1 hz; simp
theorem chkRg_W {K : Nat} {l : List Int} (h1 : 1 ≤ K) (h4 : K ≤ 4) (h0 : l.length ≠ 0) : chkW (K : Int) l = chkRg K l := by
  unfold chkW chkRg
  rw [if_neg (by omega), if_neg h0]

set_option maxRecDepth 100000 in
set_option maxHeartbeats 4000000 in
theorem gcheck_ok (K R : Nat) (p q : Option Addr) (n c m d : Nat) (t l : List Int) (w : World) (hn : n = t.length) (hm : m = l.length) (h : IntV w.heap.size w p c t) (h' : IntV w.heap.size w q d l) (ho : OkR K R t) (h0 : 0 < l.length) (h4 : l.length ≤ 4096) (hw : okW K l) :
    Calls Tryd.prog 31 #[.agg #[.int .i64 (K : Int), .int .i64 (R : Int), .slice p n c], .slice q m d] w (Tells .nilIface w) := by
  have ST := Lib.hid (box_rule w (.int .i64 (K : Int)) (.int .i64 (R : Int)) (.slice p n c))
  have hm0 : 0 < m := by omega
  have H := Lib.hid (And.intro hn (And.intro hm (And.intro h (And.intro h' (And.intro ho (chkW_ok ho.k1 ho.k4 h4 hw))))))
  clear hn hm h h' ho h0 h4 hw
  go_enter Tryd.func31, Tryd.ntmps31
  go_wp2_with fail
  obtain ⟨w0, hw0⟩ : ∃ w0, w0 = w.alloc (.cells #[.int .i64 (K : Int), .int .i64 (R : Int), .slice p n c] 24) := ⟨_, rfl⟩
  rw [← hw0]
  obtain ⟨hb0, hE0⟩ := ST.out w0 hw0
  have HE := Lib.hid (And.intro hE0 hb0)
  obtain ⟨_, hc0, hc1, hc2⟩ := hE0.facts
  clear hw0 hE0 hb0
  go_wp2_with fail
  refine (rcheck_ok K R p n c t w0 H.out.1 (H.out.2.2.1.next HE.out.2) H.out.2.2.2.2.1).mono ?_
  rintro e w1 ⟨rfl, hb1⟩
  have H1 := Lib.hid (And.intro (HE.out.1.next hb1) (HE.out.2.trans (hb1.mono HE.out.2.size)))
  clear hb1 hc0 hc1 hc2
  obtain ⟨_, hc0, hc1, hc2⟩ := H1.out.1.facts
  go_wp2_with fail
  refine (check_ok (K : Int) q m d l w1 H.out.2.1 (H.out.2.2.2.1.next H1.out.2) H.out.2.2.2.2.2).mono ?_
  rintro e w2 ⟨rfl, hb2⟩
  have H2 := Lib.hid (H1.out.2.trans (hb2.mono H1.out.2.size))
  clear hb2 hc0 hc1 hc2
  go_wp2_with fail
  go_ret
  exact ⟨rfl, H2.out⟩
set_option maxRecDepth 100000 in
set_option maxHeartbeats 8000000 in
theorem gcheck_bad (k r : Int) (p q : Option Addr) (n c m d : Nat) (t l : List Int) (w : World) (A : Nat → Addr) (hr : Roots w A) (hT : TypeVar w) (hn : n = t.length) (hm : m = l.length) (h : IntV w.heap.size w p c t) (h' : IntV w.heap.size w q d l) (L : List (ByteArray × Int)) (M : Nat) (hc : chkG k r t l = some (L, M)) :
    Calls Tryd.prog 31 #[.agg #[.int .i64 k, .int .i64 r, .slice p n c], .slice q m d] w (FErr1 w A L M) := by
  unfold chkG at hc
  cases hk : chkR k r t with
  | some i =>
    rw [hk] at hc
    obtain ⟨rfl, rfl⟩ := Prod.mk.inj (Option.some.inj hc)
    have ST := Lib.hid (box_rule w (.int .i64 k) (.int .i64 r) (.slice p n c))
    have H := Lib.hid (And.intro hn (And.intro h (And.intro hr hk)))
    clear hn hm h h' hr hT hk hc
    go_enter Tryd.func31, Tryd.ntmps31
    go_wp2_with fail
    obtain ⟨w0, hw0⟩ : ∃ w0, w0 = w.alloc (.cells #[.int .i64 k, .int .i64 r, .slice p n c] 24) := ⟨_, rfl⟩
    rw [← hw0]
    obtain ⟨hb0, hE0⟩ := ST.out w0 hw0
    have HE := Lib.hid (And.intro hE0 hb0)
    obtain ⟨_, hc0, hc1, hc2⟩ := hE0.facts
    clear hw0 hE0 hb0
    go_wp2_with fail
    refine (rcheck_bad k r p n c t w0 A (H.out.2.2.1.below HE.out.2) H.out.1 (H.out.2.1.next HE.out.2) i H.out.2.2.2).mono ?_
    rintro e w1 ⟨b1, rfl, hl1, hb1⟩
    have H1 := Lib.hid (And.intro (HE.out.2.trans (hb1.mono HE.out.2.size)) (Chn.one hl1))
    clear hb1 hc0 hc1 hc2 hl1
    go_wp2_with fail
    refine (under_chn ringOp 0 b1 _ 1 w1 A H1.out.2).mono ?_
    rintro e w2 ⟨b2, rfl, hl2, hb2⟩
    have H2 := Lib.hid (And.intro (H1.out.1.trans (hb2.mono H1.out.1.size)) hl2)
    clear hb2 hl2
    go_wp2_with fail
    go_ret
    exact ⟨b2, rfl, H2.out.2, H2.out.1⟩
  | none =>
    rw [hk] at hc
    obtain ⟨K, R, rfl, rfl, ho⟩ := chkR_none hk
    rw [Int.toNat_natCast] at hc
    obtain ⟨⟨i, M'⟩, hi, hL⟩ := Option.map_eq_some_iff.1 hc
    obtain ⟨rfl, rfl⟩ := Prod.mk.inj hL
    have ST := Lib.hid (box_rule w (.int .i64 (K : Int)) (.int .i64 (R : Int)) (.slice p n c))
    rcases Nat.eq_zero_or_pos m with h0 | h0
    · subst h0
      have he : chkRg K l = some (0, 3) := by unfold chkRg; rw [if_pos hm.symm]
      rw [he] at hi
      obtain ⟨rfl, rfl⟩ := Prod.mk.inj (Option.some.inj hi)
      have H := Lib.hid (And.intro hn (And.intro h (And.intro hr ho)))
      clear hn hm h h' hr hT hk hc ho hi hL he
      go_enter Tryd.func31, Tryd.ntmps31
      go_wp2_with fail
      obtain ⟨w0, hw0⟩ : ∃ w0, w0 = w.alloc (.cells #[.int .i64 (K : Int), .int .i64 (R : Int), .slice p n c] 24) := ⟨_, rfl⟩
      rw [← hw0]
      obtain ⟨hb0, hE0⟩ := ST.out w0 hw0
      have HE := Lib.hid (And.intro hE0 hb0)
      obtain ⟨_, hc0, hc1, hc2⟩ := hE0.facts
      clear hw0 hE0 hb0
      go_wp2_with fail
      refine (rcheck_ok K R p n c t w0 H.out.1 (H.out.2.1.next HE.out.2) H.out.2.2.2).mono ?_
      rintro e w1 ⟨rfl, hb1⟩
      have H1 := Lib.hid (HE.out.2.trans (hb1.mono HE.out.2.size))
      clear hb1 hc0 hc1 hc2
      go_wp2_with fail
      refine (new_at ringOp 0 3 w1 A (H.out.2.2.1.below H1.out) (by decide)).mono ?_
      rintro e w2 ⟨b2, rfl, hl2, hb2⟩
      have H2 := Lib.hid (And.intro (H1.out.trans (hb2.mono H1.out.size)) hl2)
      clear hb2 hl2
      go_wp2_with fail
      go_ret
      exact ⟨b2, rfl, Chn.one H2.out.2, H2.out.1⟩
    · have hiW : chkW (K : Int) l = some (i, M') := by rw [chkRg_W ho.k1 ho.k4 (by omega)]; exact hi
      have hM : 1 ≤ M' ∧ M' ≤ 11 := chkG_num (k := (K : Int)) (r := (R : Int)) (t := t) (l := l) _ (by unfold chkG; rw [hk, Int.toNat_natCast, hi]; rfl)
      have H := Lib.hid (And.intro hn (And.intro h (And.intro hr (And.intro ho (And.intro hT (And.intro hm (And.intro h' (And.intro hiW hM))))))))
      clear hn hm h h' hr hT hk hc ho hi hL hiW hM
      go_enter Tryd.func31, Tryd.ntmps31
      go_wp2_with fail
      obtain ⟨w0, hw0⟩ : ∃ w0, w0 = w.alloc (.cells #[.int .i64 (K : Int), .int .i64 (R : Int), .slice p n c] 24) := ⟨_, rfl⟩
      rw [← hw0]
      obtain ⟨hb0, hE0⟩ := ST.out w0 hw0
      have HE := Lib.hid (And.intro hE0 hb0)
      obtain ⟨_, hc0, hc1, hc2⟩ := hE0.facts
      clear hw0 hE0 hb0
      go_wp2_with fail
      refine (rcheck_ok K R p n c t w0 H.out.1 (H.out.2.1.next HE.out.2) H.out.2.2.2.1).mono ?_
      rintro e w1 ⟨rfl, hb1⟩
      have H1 := Lib.hid (And.intro (HE.out.1.next hb1) (HE.out.2.trans (hb1.mono HE.out.2.size)))
      clear hb1 hc0 hc1 hc2
      obtain ⟨_, hc0, hc1, hc2⟩ := H1.out.1.facts
      go_wp2_with fail
      refine (check_bad (K : Int) q m d l w1 A (H.out.2.2.1.below H1.out.2) H.out.2.2.2.2.2.1 (H.out.2.2.2.2.2.2.1.next H1.out.2) i M' H.out.2.2.2.2.2.2.2.1).mono ?_
      rintro e w2 ⟨b2, rfl, hl2, hb2⟩
      have H2 := Lib.hid (And.intro (H1.out.2.trans (hb2.mono H1.out.2.size)) hl2)
      clear hb2 hl2 hc0 hc1 hc2
      go_wp2_with fail
      refine (outer_fault b2 wordOp i (A M') w2 (H.out.2.2.2.2.1.below H2.out.1) H2.out.2).mono ?_
      rintro e w3 ⟨rfl, hb3⟩
      have H3 := Lib.hid (And.intro (H2.out.1.trans (hb3.mono H2.out.1.size)) (Tree.lies_below hb3 H2.out.2))
      clear hb3
      go_wp2_with fail
      refine (code_fault b2 wordOp i M' w3 A (H.out.2.2.1.below H3.out.1) H.out.2.2.2.2.2.2.2.2 H3.out.2).mono ?_
      rintro e w4 ⟨rfl, hb4⟩
      have H4 := Lib.hid (H3.out.1.trans (hb4.mono H3.out.1.size))
      clear hb4
      go_wp2_with fail
      refine (new_at ringOp i M' w4 A (H.out.2.2.1.below H4.out) H.out.2.2.2.2.2.2.2.2).mono ?_
      rintro e w5 ⟨b5, rfl, hl5, hb5⟩
      have H5 := Lib.hid (And.intro (H4.out.trans (hb5.mono H4.out.size)) hl5)
      clear hb5 hl5
      go_wp2_with fail
      go_ret
      exact ⟨b5, rfl, Chn.one H5.out.2, H5.out.1⟩
end Go.Proofs.YtgdjnohhofbcnaaDoor
end
