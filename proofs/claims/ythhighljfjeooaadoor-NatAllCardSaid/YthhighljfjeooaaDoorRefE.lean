/- The document's own package of numbers by its contracts, fifth part: Sum. -/
import Derived.Test.YthhighljfjeooaaDoorRefD
namespace Go.Proofs.YthhighljfjeooaaDoor
open Go.RowKit NatM

def SumRefRel (w : World) (L : List Nt) (v3 v4 : Value) (wr : World) : Prop :=
  ∃ (k : Nat) (p : Option Addr) (cap : Nat), k ≤ L.length ∧ v4 = .int .i64 (k : Int) ∧ v3 = .slice p (D32 (sumV (L.take k))).length cap ∧ NatO w.heap.size wr p cap (D32 (sumV (L.take k))) ∧ Below w.heap.size w wr
set_option maxRecDepth 100000 in
set_option maxHeartbeats 4000000 in
theorem sum_ref (q : Option Addr) (n c : Nat) (L : List Nt) (w : World) (hn : n = L.length) (h : NatsV w.heap.size w q c L) (hl : L.length ≤ 1000) (hle : ∀ x : Nt, x ∈ L → x.2.2.length ≤ 100000) :
    Calls Tryd.prog 63 #[.slice q n c] w (NatPost w (sumV L)) := by
  subst hn
  have hlc := h.le
  have hcap := h.cap
  unfold maxLen at hcap
  have hall : ∀ k, ∀ x : Nt, x ∈ L.take k → ok32 x.2.2 ∧ x.2.2.length ≤ 100000 := fun k x hx => ⟨(h.each x (List.mem_of_mem_take hx)).ok, hle x (List.mem_of_mem_take hx)⟩
  have H := Lib.hid (And.intro h hall)
  have HLE := Lib.hid hle
  clear h hall hle
  go_enter Tryd.func63, Tryd.ntmps63
  go_wp2_with fail
  go_loopw [3, 4] (fun v3 v4 wr => SumRefRel w L v3 v4 wr) (fun _ i _ => L.length - (intOf i).toNat)
  case atStart =>
    have hz : D32 (sumV (L.take 0)) = [] := D32_nil.2 (by simp [sumV])
    refine ⟨0, none, 0, Nat.zero_le _, rfl, by rw [hz]; rfl, ?_, Below.refl _ _⟩
    rw [hz]
    exact NatO.nothing _ _
  case round =>
    obtain ⟨k, p, cap, hk, rfl, rfl, ho, hb⟩ := hrel
    have HO := Lib.hid (And.intro ho hb)
    by_cases hlt : k < L.length
    · obtain ⟨x, hx⟩ : ∃ x, L[k]? = some x := ⟨_, List.getElem?_eq_getElem hlt⟩
      have hmem : x ∈ L := List.mem_of_getElem? hx
      have hV := H.out.1.below hb
      obtain ⟨bl, off, rfl, hbl, hcl⟩ := hV.cell (by rintro rfl; simp at hlt)
      have hcx := hcl k x hx
      have hxv := hV.each x hmem
      have hxl := HLE.out x hmem
      have hs := sumV_take hx
      obtain ⟨xa, xc, xl⟩ := x
      have hcx : wr.cell? ⟨bl, off + k, none⟩ = some (.slice xa xl.length xc) := hcx
      have hxv : NatV w.heap.size wr xa xc xl := hxv
      have hs : sumV (L.take (k + 1)) = sumV (L.take k) + V32 xl := hs
      have hsl : (D32 (sumV (L.take k))).length ≤ 100001 := sumV_len (H.out.2 k) (by rw [List.length_take]; omega)
      have hxl : xl.length ≤ 100000 := hxl
      have hwb := hb.size
      have ha := add_ref _ _ _ _ _ _ wr ho.toV (hxv.mono hwb) (by omega) (by omega)
      rw [V32_D32] at ha
      have HS := Lib.hid hs
      clear hx hmem hV hcl hxv hs ho hb hxl hsl
      go_wp2_with fail
      refine ha.mono ?_
      rintro e w1 ⟨p1, c1, rfl, ho1, hb1⟩
      have HA := Lib.hid (And.intro ho1 hb1)
      clear ha ho1 hb1
      go_wp2_with fail
      go_roundw
      case rel => exact ⟨k + 1, p1, c1, by omega, by go_num, by rw [HS.out], by rw [HS.out]; exact HA.out.1.base hwb, HO.out.2.trans (HA.out.2.mono hwb)⟩
      case measure => simp [intOf]; omega
    · obtain rfl : k = L.length := by omega
      rw [List.take_length] at HO ⊢
      clear ho hb
      go_wp2_with fail
      go_ret
      exact ⟨p, cap, rfl, HO.out.1, HO.out.2⟩
end Go.Proofs.YthhighljfjeooaaDoor
