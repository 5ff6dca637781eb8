/- Bytes of texts as numbers, and back. -/
import Derived.Test.YthhighljfjeooaaDoorNatG
import Derived.Laws.BytesArg
namespace Go.Proofs.YthhighljfjeooaaDoor
open Go.RowKit NatM

theorem bsOf_strOfNums {l : List Nat} (h : ∀ x ∈ l, x < 256) : bsOf (strOfNums (l.map fun (d : Nat) => (d : Int))) = l := by
  unfold bsOf
  rw [strOfNums_data, List.map_map, List.map_map]
  conv => rhs; rw [← List.map_id l]
  apply List.map_congr_left
  intro x hx
  have := h x hx
  simp [UInt8.toNat_ofNat']
  omega
theorem strOfNums_bsOf (s : ByteArray) : strOfNums ((bsOf s).map fun (d : Nat) => (d : Int)) = s := by
  have h : (strOfNums ((bsOf s).map fun (d : Nat) => (d : Int))).data.toList = s.data.toList := by
    rw [strOfNums_data]
    unfold bsOf
    rw [List.map_map, List.map_map]
    conv => rhs; rw [← List.map_id s.data.toList]
    apply List.map_congr_left
    intro x _
    simp
  cases s with
  | mk d =>
    have := congrArg List.toArray h
    simp at this
    exact congrArg ByteArray.mk this
end Go.Proofs.YthhighljfjeooaaDoor
