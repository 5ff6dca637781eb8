/- edenraw.LentNat, KeptNat and CopyNat, by contracts. -/
import Derived.Test.YthhighljfjeooaaDoorNatI
import Derived.Test.YthhighljfjeooaaDoorNatK
import Derived.Laws.CopyOwn
import Derived.Laws.AppendOwnNone
namespace Go.Proofs.YthhighljfjeooaaDoor
open Go.RowKit NatM

/-- a lent list: its block holds it, and the two marks behind -/
def LentB (w : World) (g : Nat) (l : List Nat) : Prop := w.heap[g]? = some (.cells (cells32 (l ++ [7001, 7002])).toArray 27 (0, 0))
theorem LentB.lt {w : World} {g : Nat} {l : List Nat} (h : LentB w g l) : g < w.heap.size := heap_ltN h
theorem LentB.cell {w : World} {g : Nat} {l : List Nat} (h : LentB w g l) {j x : Nat} (hx : (l ++ [7001, 7002])[j]? = some x) : w.cell? ⟨g, j, none⟩ = some (.int .u32 (x : Int)) := by
  rw [cell_of_row w g j _ _ _ h, List.getElem?_toArray]
  exact cells32_get hx
theorem LentB.block {w w' : World} {g : Nat} {l : List Nat} (hb : w'.heap[g]? = w.heap[g]?) (h : LentB w g l) : LentB w' g l := hb.trans h
theorem LentB.below {w w' : World} {g : Nat} {l : List Nat} (hb : Below w.heap.size w w') (h : LentB w g l) : LentB w' g l := h.block (hb.block g h.lt)
theorem LentB.own {w : World} {g base : Nat} {l : List Nat} (hB : base ≤ g) (ok : ok32 l) (hl : l.length ≤ 100000) (h : LentB w g l) : NatO base w (some ⟨g, 0, none⟩) (l.length + 2) l := by
  refine ⟨⟨by rw [cells32_length, Nat.mul_one], Or.inr ⟨g, l.length + 2, _, rfl, hB, h, by omega, by unfold maxLen; omega, by simp [cells32], ?_⟩⟩, ok⟩
  rw [List.toList_toArray, Nat.mul_one]
  unfold cells32
  rw [List.map_append, List.take_left' (by simp)]
theorem LentB.of_own {w : World} {g base : Nat} {l : List Nat} (h : NatO base w (some ⟨g, 0, none⟩) l.length l) (hfull : ∃ m, l = m ++ [7001, 7002]) : ∃ m, l = m ++ [7001, 7002] ∧ LentB w g m := by
  obtain ⟨m, rfl⟩ := hfull
  refine ⟨m, rfl, ?_⟩
  obtain ⟨hx, h1 | ⟨g', cap, cur, hv, hg, hh, hc, hm, hs, ht⟩⟩ := h.own
  · simp at h1
  · obtain ⟨rfl, rfl⟩ : g = g' ∧ (m ++ [7001, 7002]).length = cap := by simpa using hv
    unfold LentB
    rw [hh]
    congr 2
    rw [← Array.toList_inj, List.toList_toArray, ← ht, Nat.mul_one, List.take_of_length_le (by rw [Array.length_toList]; omega)]

def LentPost (w : World) (l : List Nat) (e : Ending) (w' : World) : Prop :=
  e = .returned (.slice (some ⟨w.heap.size, 0, none⟩) l.length (l.length + 2)) ∧ LentB w' w.heap.size l ∧ Below w.heap.size w w'
theorem splice_zero (cs : List Value) (n : Nat) (v : Value) : splice (List.replicate n v) 0 cs = cs ++ List.replicate (n - cs.length) v := by
  unfold splice
  simp
theorem size32 : (Tryd.prog.info? 27).map (·.size) = some 1 := by kernel_rfl

set_option maxRecDepth 100000 in
set_option maxHeartbeats 1000000 in
theorem lent_any (p : Option Addr) (cap : Nat) (l : List Nat) (w : World) (h : NatV w.heap.size w p cap l) (hl : l.length ≤ 1000) :
    Calls Tryd.prog 12 #[.slice p l.length cap] w (LentPost w l) := by
  obtain ⟨n, hn⟩ : ∃ n, n = l.length + 2 := ⟨_, rfl⟩
  have hmk := make32 n (by omega)
  have hn2 : (l.length : Int) + 2 = (n : Int) := by omega
  have H := Lib.hid (And.intro h hn)
  have hln : l.length < n := by omega
  have hln1 : l.length + 1 < n := by omega
  have hnb : n ≤ 1002 := by omega
  clear h hn
  go_enter Tryd.func12, Tryd.ntmps12
  have hB1 : Below w.heap.size w (w.alloc (.cells (madeCells #[.int .u32 0] n) 27)) := (Below.refl _ _).alloc (Nat.le_refl _) _
  have HB1 := Lib.hid hB1
  have hh : (w.alloc (.cells (madeCells #[.int .u32 0] n) 27)).heap[w.heap.size]? = some (.cells (List.replicate n (Value.int .u32 0)).toArray 27 (0, 0)) := by
    rw [heap_newN, ← madeCells_list]
  have HHH := Lib.hid hh
  clear hB1 hh
  go_wp2_with (with_reducible refine wpList_copy_splice rfl (.tmp 8) (.tmp 9) 25 25 rfl 27 Tryd.underlying25 size32 (some ⟨w.heap.size, 0, none⟩) p n n l.length cap rfl rfl w.heap.size 0 (List.replicate n (Value.int .u32 0)) 27 HHH.out (cells32 l) ?k1 ?k2 ?k3 ?k4 w.heap.size w HB1.out (Nat.le_refl _) ?_)
  case k1 => rw [cells32_length]; exact (Nat.min_eq_left (by omega)).symm
  case k2 =>
    intro hpos
    rw [cells32_length] at hpos
    obtain ⟨b, off, rfl, hb, hc⟩ := H.out.1.cell (List.length_pos_iff.1 hpos)
    refine ⟨_, rfl, fun j v hv => ?_⟩
    rw [add_off]
    unfold cells32 at hv
    rw [List.getElem?_map] at hv
    obtain ⟨x, hx, rfl⟩ := Option.map_eq_some_iff.1 hv
    exact (HB1.out.cell (p := ⟨b, off + j, none⟩) hb).trans (hc j x hx)
  case k3 => rw [cells32_length, List.length_replicate]; omega
  case k4 =>
    intro v hv
    unfold cells32 at hv
    obtain ⟨x, _, rfl⟩ := List.mem_map.1 hv
    rfl
  intro w1 hw1 hb1
  have hn0 : n = l.length + 2 := H.out.2
  have hw2 : w1.heap[w.heap.size]? = some (.cells (cells32 l ++ [Value.int .u32 0, Value.int .u32 0]).toArray 27 (0, 0)) := by
    have h := hw1.out
    rw [splice_zero, cells32_length, show n - l.length = 2 by omega] at h
    exact h
  have hc1 : w1.cell? ⟨w.heap.size, l.length, none⟩ = some (.int .u32 0) := by
    rw [cell_of_row w1 _ _ _ _ _ hw2, List.getElem?_toArray, List.getElem?_append_right (by rw [cells32_length]; exact Nat.le_refl _), cells32_length, Nat.sub_self]
    rfl
  have hc2 : w1.cell? ⟨w.heap.size, l.length + 1, none⟩ = some (.int .u32 0) := by
    rw [cell_of_row w1 _ _ _ _ _ hw2, List.getElem?_toArray, List.getElem?_append_right (by rw [cells32_length]; omega), cells32_length, show l.length + 1 - l.length = 1 by omega]
    rfl
  have hf1 : ∀ j, w1.frozen? ⟨w.heap.size, j, none⟩ = false := fun j => frozen_of_row w1 w.heap.size j _ _ hw2
  have hff1 := hf1 l.length
  have hff2 := hf1 (l.length + 1)
  have hnn : n ≤ l.length + 2 := by omega
  have hB2 : Below w.heap.size w ((w1.setCell ⟨w.heap.size, l.length, none⟩ (.int .u32 7001)).setCell ⟨w.heap.size, l.length + 1, none⟩ (.int .u32 7002)) := (hb1.setCell (p := ⟨w.heap.size, l.length, none⟩) (Nat.le_refl _) _).setCell (p := ⟨w.heap.size, l.length + 1, none⟩) (Nat.le_refl _) _
  have hL : LentB ((w1.setCell ⟨w.heap.size, l.length, none⟩ (.int .u32 7001)).setCell ⟨w.heap.size, l.length + 1, none⟩ (.int .u32 7002)) w.heap.size l := by
    unfold LentB
    rw [heap_setCell_same _ w.heap.size (l.length + 1) _ _ _ (heap_setCell_same w1 w.heap.size l.length _ _ _ hw2)]
    congr 2
    rw [← Array.toList_inj]
    simp only [Array.toList_setIfInBounds]
    rw [List.set_append_right _ _ (by rw [cells32_length]; exact Nat.le_refl _), List.set_append_right _ _ (by rw [cells32_length]; omega), cells32_length, Nat.sub_self, show l.length + 1 - l.length = 1 by omega]
    simp [cells32]
  have HF := Lib.hid (And.intro hL hB2)
  clear hw1 hb1 hw2 hf1 hn0 hL hB2 hmk HB1 HHH
  go_wp2_with fail
  go_ret
  exact ⟨by rw [H.out.2]; rfl, HF.out.1, HF.out.2⟩
set_option maxRecDepth 100000 in
set_option maxHeartbeats 1000000 in
theorem kept_any (g : Nat) (p : Option Addr) (n m c : Nat) (l : List Nat) (w : World) (hg : LentB w g l) (h : NatV w.heap.size w p c l) (hl : l.length ≤ 1000) (hn : n = l.length) (hm : m = l.length + 2) :
    Calls Tryd.prog 14 #[.slice (some ⟨g, 0, none⟩) n m, .slice p l.length c] w (Tells (.bool true) w) := by
  subst hn hm
  have hcap := h.cap
  unfold maxLen at hcap
  have hle := h.le
  have hsame := nats_same (some ⟨g, 0, none⟩) p (l.length + 2) c l w ((LentB.own (base := 0) (Nat.zero_le _) h.ok (by omega) hg).toV) h
  have HG := Lib.hid hg
  clear hg h
  go_enter Tryd.func14, Tryd.ntmps14
  go_wp2_with fail
  refine hsame.mono ?_
  clear hsame
  rintro e w1 ⟨rfl, hb1⟩
  have hc1 : w1.cell? ⟨g, l.length, none⟩ = some (.int .u32 7001) := (HG.out.below hb1).cell (by simp)
  have hc2 : w1.cell? ⟨g, l.length + 1, none⟩ = some (.int .u32 7002) := (HG.out.below hb1).cell (by rw [List.getElem?_append_right (by omega), show l.length + 1 - l.length = 1 by omega]; rfl)
  have HB := Lib.hid hb1
  clear hb1
  go_wp2_with fail
  go_ret
  exact ⟨rfl, HB.out⟩

end Go.Proofs.YthhighljfjeooaaDoor
