/- Plain mathematics of rules that are sums: digits of numbers, sums of symbols times factors. -/
import Derived.Test.YthafjbegkifekaaDoorB1
namespace Go.Proofs.YthafjbegkifekaaDoor.RuleM
open WordM

/-- the word of n symbols that writes x -/
def digW (k : Nat) : Nat → Nat → List Int
  | 0, _ => []
  | n + 1, x => digW k n (x / k) ++ [((x % k : Nat) : Int)]
theorem digW_length (k : Nat) : ∀ (n x : Nat), (digW k n x).length = n
  | 0, _ => rfl
  | n + 1, x => by unfold digW; rw [List.length_append, digW_length k n]; rfl
theorem digW_ok {k : Nat} (hk : 1 ≤ k) : ∀ (n x : Nat), okW k (digW k n x)
  | 0, _ => okW_nil k
  | n + 1, x => by
    unfold digW
    refine okW_app (digW_ok hk n _) (fun y hy => ?_)
    have hm : x % k < k := Nat.mod_lt _ hk
    simp at hy
    omega
theorem digW_val {k : Nat} (hk : 1 ≤ k) : ∀ (n x : Nat), x < k ^ n → valW k (digW k n x) = x
  | 0, x, h => by simp at h; subst h; rfl
  | n + 1, x, h => by
    unfold digW
    rw [valW_snoc, digW_val hk n (x / k) ((Nat.div_lt_iff_lt_mul hk).2 (by rw [← Nat.pow_succ]; exact h)), Int.toNat_natCast]
    have := Nat.div_add_mod x k
    rw [Nat.mul_comm] at this
    exact this
theorem digW_of {k : Nat} (hk : 1 ≤ k) {X : List Int} (h : okW k X) : digW k X.length (valW k X) = X :=
  valW_inj (by rw [digW_length]) (digW_ok hk _ _) h (digW_val hk _ _ (valW_lt h))

def symN (X : List Int) (j : Nat) : Nat := (X.getD j 0).toNat
/-- the first J symbols times the factors, added up -/
def dotN (fm : Nat → Nat) (X : List Int) : Nat → Nat
  | 0 => 0
  | j + 1 => dotN fm X j + symN X j * fm j
theorem dot_add {fm : Nat → Nat} {A B C : List Int} {K : Nat} : ∀ {J : Nat}, (∀ j, j < J → symN C j = (symN A j + symN B j) % K) → dotN fm C J % K = (dotN fm A J % K + dotN fm B J % K) % K
  | 0, _ => by simp [dotN]
  | J + 1, h => by
    have ih := dot_add (fm := fm) (J := J) (fun j hj => h j (by omega))
    have hj := h J (by omega)
    unfold dotN
    rw [← Nat.add_mod] at ih
    have e1 : ((symN A J + symN B J) % K * fm J) % K = ((symN A J + symN B J) * fm J) % K := by rw [Nat.mul_mod, Nat.mod_mod, ← Nat.mul_mod]
    rw [hj, ← Nat.add_mod, Nat.add_mod (dotN fm C J), ih, e1, ← Nat.add_mod]
    congr 1
    rw [Nat.add_mul]
    omega
/-- the table of a sum -/
def sumT (K L S : Nat) (fm : Nat → Nat) (J : Nat) : List Int := (List.range S).map fun i => ((dotN fm (digW K L i) J % K : Nat) : Int)
theorem sumT_length (K L S : Nat) (fm : Nat → Nat) (J : Nat) : (sumT K L S fm J).length = S := by unfold sumT; simp
theorem sumT_get {K L S : Nat} {fm : Nat → Nat} {J i : Nat} (h : i < S) : (sumT K L S fm J)[i]? = some ((dotN fm (digW K L i) J % K : Nat) : Int) := by
  unfold sumT
  rw [List.getElem?_map, List.getElem?_range h]; rfl
theorem sumT_ok {K L S : Nat} {fm : Nat → Nat} {J : Nat} (hk : 1 ≤ K) : okW K (sumT K L S fm J) := fun x hx => by
  unfold sumT at hx
  obtain ⟨i, _, rfl⟩ := List.mem_map.1 hx
  have : dotN fm (digW K L i) J % K < K := Nat.mod_lt _ hk
  omega
theorem sumT_ent {K R : Nat} {fm : Nat → Nat} {J : Nat} (hk : 1 ≤ K) {X : List Int} (ho : okW K X) (hl : X.length = 2 * R + 1) : ent (sumT K (2 * R + 1) (K ^ (2 * R + 1)) fm J) (valW K X) = ((dotN fm X J % K : Nat) : Int) := by
  have hlt := valW_lt ho
  rw [hl] at hlt
  have h1 := ent_get (t := sumT K (2 * R + 1) (K ^ (2 * R + 1)) fm J) (i := valW K X) (by rw [sumT_length]; exact hlt)
  have hd := digW_of hk ho
  rw [hl] at hd
  rw [sumT_get hlt, hd] at h1
  exact (Option.some.inj h1).symm
theorem symN_win {w : List Int} {i n j : Nat} (h : j < n) : symN (win w i n) j = symN w (i + j) := by
  unfold symN win
  congr 1
  rw [List.getD_eq_getElem?_getD, List.getD_eq_getElem?_getD, List.getElem?_take, if_pos h, List.getElem?_drop]
/-- images of sums are sums of images -/
theorem img_sum {K R : Nat} {fm : Nat → Nat} {J : Nat} (hk : 1 ≤ K) (hJ : J ≤ 2 * R + 1) {a b c : List Int} (ha : okW K a) (hb : okW K b) (hc : okW K c) (hab : a.length = c.length) (hbc : b.length = c.length) (h : ∀ j, symN c j = (symN a j + symN b j) % K) {i : Nat} (hi : i < c.length - 2 * R) :
    ∃ x y z : Nat, (imgW K R (sumT K (2 * R + 1) (K ^ (2 * R + 1)) fm J) a)[i]? = some (x : Int) ∧ (imgW K R (sumT K (2 * R + 1) (K ^ (2 * R + 1)) fm J) b)[i]? = some (y : Int) ∧ (imgW K R (sumT K (2 * R + 1) (K ^ (2 * R + 1)) fm J) c)[i]? = some (z : Int) ∧ x < K ∧ y < K ∧ z = (x + y) % K := by
  refine ⟨dotN fm (win a i (2 * R + 1)) J % K, dotN fm (win b i (2 * R + 1)) J % K, dotN fm (win c i (2 * R + 1)) J % K, ?_, ?_, ?_, Nat.mod_lt _ hk, Nat.mod_lt _ hk, ?_⟩
  · rw [imgW_get (by omega), sumT_ent hk (win_ok ha _ _) (win_length (by omega))]
  · rw [imgW_get (by omega), sumT_ent hk (win_ok hb _ _) (win_length (by omega))]
  · rw [imgW_get (by omega), sumT_ent hk (win_ok hc _ _) (win_length (by omega))]
  · refine dot_add (fun j hj => ?_)
    rw [symN_win (by omega), symN_win (by omega), symN_win (by omega)]
    exact h (i + j)
end Go.Proofs.YthafjbegkifekaaDoor.RuleM
