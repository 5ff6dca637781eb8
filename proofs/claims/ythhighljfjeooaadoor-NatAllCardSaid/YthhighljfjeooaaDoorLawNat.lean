/- An argument that is a list of limbs, opened: it reads a list of numbers below 2^32. -/
import Derived.Test.YthhighljfjeooaaDoorNatA
import Derived.Test.YthhighljfjeooaaDoorLawPost
import Derived.ChangeSlices
namespace Go.Proofs.YthhighljfjeooaaDoor
open Go.ChangeShapes Go.WideShapes Go.ChangeAt Go.RowKit NatM

theorem cells32_1 : Tryd.prog.cellsOf 27 = 1 := by kernel_rfl
theorem wf_u32 {n : Int} (h : (Lit.int .u32 n).wf = true) : 0 ≤ n ∧ n < 4294967296 := by
  have := bounds_u32 h
  omega
theorem open_nat {H : Type} {enc : TypeId × Value → H} {W : World} {v : Value} {d : DataW H} {p : List MemPlace} (hok : ∃ a len cap, v = .slice a len cap)
    (h : DataW.Trod enc Tryd.prog W 0 (fun _ => true) true 25 v d p) (hlt : ∀ x ∈ p, x.block < W.heap.size) :
    ∃ (a : Option Addr) (cap : Nat) (l : List Nat), v = .slice a l.length cap ∧ NatV W.heap.size W a cap l := by
  obtain ⟨a0, len, cap, rfl⟩ := hok
  obtain ⟨fuel, hf⟩ := h
  rcases open_ints Tryd.underlying25 Tryd.underlying27 cells32_1 hf with ⟨hcs, _⟩ | ⟨a, len', cap', zs, hcs, _, hl, hm, hz, hx, hcell, hwf⟩
  · simp [Value.cells] at hcs
    obtain ⟨rfl, rfl, rfl⟩ := hcs
    exact ⟨none, 0, [], rfl, okB_nil _, Nat.le_refl _, Nat.zero_le _, fun _ => rfl, fun h => absurd rfl h⟩
  · simp [Value.cells] at hcs
    obtain ⟨rfl, rfl, rfl⟩ := hcs
    simp only [if_true] at hz
    obtain ⟨rfl, rfl⟩ := Prod.mk.inj hx
    have hlen : ((zs.take len).map Int.toNat).length = len := by rw [List.length_map, List.length_take]; omega
    refine ⟨some a, cap, (zs.take len).map Int.toNat, by rw [hlen], ?_, by rw [hlen]; exact hl, hm, (fun h => by cases h), fun hn => ?_⟩
    · intro x hx
      obtain ⟨z, hz, rfl⟩ := List.mem_map.1 hx
      have := wf_u32 (hwf z (List.mem_of_mem_take hz))
      omega
    · obtain ⟨b, off, spot⟩ := a
      have h0 : 0 < zs.length := by
        have := List.length_pos_iff.2 hn
        rw [hlen] at this
        omega
      have hspot : spot = none := by simpa [Addr.add] using World.cell?_spot (hcell 0 h0)
      subst hspot
      refine ⟨b, off, rfl, hlt (.cell b off) (MemPlace.mem_row.2 ⟨0, h0, by simp⟩), fun j x hx => ?_⟩
      have hj := get_lt hx
      rw [hlen] at hj
      have hjz : j < zs.length := by omega
      have hc := hcell j hjz
      have hw := wf_u32 (hwf _ (List.getElem_mem hjz))
      have e : zs.getD j 0 = (x : Int) := by
        rw [List.getElem?_map, List.getElem?_take, if_pos hj, List.getElem?_eq_getElem hjz] at hx
        have := Option.some.inj hx
        rw [List.getD_eq_getElem?_getD, List.getElem?_eq_getElem hjz]
        show zs[j] = _
        omega
      rw [e, add_plain] at hc
      exact hc
end Go.Proofs.YthhighljfjeooaaDoor
