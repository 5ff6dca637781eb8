/- Plain mathematics: the way back of a permutation, written place by place. -/
import Derived.Test.YtienaogmljlmlaaDoorBFormQ
namespace Go.Proofs.YtienaogmljlmlaaDoor.RuleM
open WordM
/-- the way back, as far as it was written -/
def backT (k : Nat) (P : List Int) (j : Nat) : List Int := tabN k fun y => if fstI P y < j then (fstI P y : Int) else 0
theorem backT_zero (k : Nat) (P : List Int) : backT k P 0 = List.replicate k 0 := by
  apply List.ext_getElem?
  intro i
  by_cases hi : i < k
  · unfold backT
    rw [tabN_get hi, List.getElem?_replicate, if_pos hi, if_neg (by omega)]
  · rw [List.getElem?_eq_none (by unfold backT; rw [tabN_length]; omega), List.getElem?_eq_none (by rw [List.length_replicate]; omega)]
theorem fst_own {P : List Int} (h : P.Nodup) {j : Nat} (hj : j < P.length) : fstI P (ent P j) = j := by
  have hm : ent P j ∈ P := List.mem_of_getElem? (ent_get hj)
  exact nodup_get h (fst_lt hm) hj (fst_get hm)
theorem backT_step {k : Nat} {P : List Int} (h : permOf k P) {j : Nat} (hj : j < k) : (backT k P j).set (ent P j).toNat (j : Int) = backT k P (j + 1) := by
  have hl := h.1
  have ho := ent_ok (perm_okW h) (i := j) (by omega)
  have hf := fst_own (perm_nodup h) (j := j) (by omega)
  apply List.ext_getElem?
  intro i
  by_cases hi : i < k
  · unfold backT
    rw [List.getElem?_set, tabN_length, tabN_get hi, tabN_get hi]
    by_cases he : (ent P j).toNat = i
    · rw [if_pos he, if_pos (by omega)]
      have e : ((i : Nat) : Int) = ent P j := by omega
      rw [e, hf, if_pos (Nat.lt_succ_self j)]
    · rw [if_neg he]
      have hne : fstI P (i : Int) ≠ j := fun e => he (by
        have := fst_get (h.2 i hi)
        rw [e] at this
        omega)
      by_cases h1 : fstI P (i : Int) < j
      · rw [if_pos h1, if_pos (by omega)]
      · rw [if_neg h1, if_neg (by omega)]
  · rw [List.getElem?_eq_none (by unfold backT; rw [List.length_set, tabN_length]; omega), List.getElem?_eq_none (by unfold backT; rw [tabN_length]; omega)]
theorem backT_full {k : Nat} {P : List Int} (h : permOf k P) : backT k P k = invL k P := by
  unfold backT invL
  refine tabN_ext fun i hi => ?_
  have := fst_lt (h.2 i hi)
  rw [if_pos (by rw [← h.1]; exact this)]
theorem backT_length (k : Nat) (P : List Int) (j : Nat) : (backT k P j).length = k := tabN_length _ _
theorem inv_perm {k : Nat} {P : List Int} (h : permOf k P) : permOf k (invL k P) := perm_of_R (perm_inv h).swap
theorem inv_inv {k : Nat} {P : List Int} (h : permOf k P) : invL k (invL k P) = P := permR_unique (perm_inv (inv_perm h)) (perm_inv h).swap
theorem nmW_take (P l : List Int) (j : Nat) (h : j < l.length) : (nmW P l).take (j + 1) = (nmW P l).take j ++ [ent P (ent l j).toNat] := by
  have : (nmW P l)[j]? = some (ent P (ent l j).toNat) := by
    unfold nmW
    rw [List.getElem?_map, ent_get h]; rfl
  rw [List.take_add_one, this]; rfl
theorem nmW_ent {P l : List Int} {j : Nat} (h : j < l.length) : ent (nmW P l) j = ent P (ent l j).toNat := by
  have h1 := ent_get (t := nmW P l) (i := j) (by rw [nmW_length]; exact h)
  unfold nmW at h1 ⊢
  rw [List.getElem?_map, ent_get h] at h1
  exact (Option.some.inj h1).symm
end Go.Proofs.YtienaogmljlmlaaDoor.RuleM
