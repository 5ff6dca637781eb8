/- The document's own package of words by its contracts, first part: Back. -/
import Derived.Test.YthhighljfjeooaaDoorWordB
namespace Go.Proofs.YthhighljfjeooaaDoor
open Go.RowKit WordM

theorem set_frontI {x : List Int} {j : Nat} {v : Int} : (List.replicate (j + 1) (0 : Int) ++ x).set j v = List.replicate j 0 ++ v :: x := by
  rw [List.replicate_succ', List.append_assoc, List.set_append_right _ _ (by simp), List.length_replicate, Nat.sub_self]
  rfl
def BackRel (w : World) (l : List Int) (n g : Nat) (v : Value) (wr : World) : Prop :=
  ∃ i : Nat, i ≤ n ∧ v = .int .i64 (i : Int) ∧ IntO w.heap.size wr (some ⟨g, 0, none⟩) n (List.replicate (n - i) 0 ++ (l.take i).reverse) ∧ Below w.heap.size w wr
set_option maxRecDepth 100000 in
set_option maxHeartbeats 4000000 in
theorem back_ref (p : Option Addr) (n c : Nat) (l : List Int) (w : World) (hn : n = l.length) (h : IntV w.heap.size w p c l) (hl : l.length ≤ 17592186044000) :
    Calls Tryd.prog 45 #[.slice p n c] w (IntPost w l.reverse) := by
  have hle := h.le
  have hcap := h.cap
  unfold maxLen at hcap
  have hnc : n ≤ c := by omega
  have hnl : n ≤ 17592186044000 := by omega
  have hmk := makeI n hnl w
  have H := Lib.hid (And.intro h hn)
  clear h hn hl hle
  go_enter Tryd.func45, Tryd.ntmps45
  go_wp2_with fail
  clear hmk
  have ho0 := IntO.made w n hnl
  have hb0 : Below w.heap.size w (w.alloc (.cells (madeCells #[.int .i64 0] n) 3)) := (Below.refl _ _).alloc (Nat.le_refl _) _
  have HO := Lib.hid (And.intro ho0 hb0)
  clear ho0 hb0
  go_loopw [4] (fun v wr => BackRel w l n w.heap.size v wr) (fun v _ => n - (intOf v).toNat)
  case atStart => exact ⟨0, Nat.zero_le _, rfl, by rw [List.take_zero, List.reverse_nil, List.append_nil, Nat.sub_zero]; exact HO.out.1, HO.out.2⟩
  case round =>
    obtain ⟨i, hi, rfl, ho, hb⟩ := hrel
    by_cases hlt : i < n
    · have hnl' := H.out.2
      obtain ⟨b, off, rfl, hbb, hcc⟩ := (H.out.1.next hb).cell (by rintro rfl; simp at hnl'; omega)
      obtain ⟨x, hx⟩ := getI (l := l) (k := i) (by omega)
      have hcx := hcc i x hx
      obtain ⟨j, hj⟩ : ∃ j, n - i = j + 1 := ⟨n - i - 1, by omega⟩
      have e1 : ((n : Int) - 1 - (i : Int)) = (j : Int) := by omega
      have hjn : j < n := by omega
      have hrv : (l.take (i + 1)).reverse = x :: (l.take i).reverse := by rw [List.take_add_one, hx]; simp
      have hlen : (List.replicate (n - i) (0 : Int) ++ (l.take i).reverse).length = n := by simp; omega
      have hown : wr.ownsRow w.heap.size 3 1 (.slice (some ⟨w.heap.size, 0, none⟩) n n) n (cI (List.replicate (n - i) 0 ++ (l.take i).reverse)) := by
        unfold IntO at ho
        rwa [hlen] at ho
      rw [hj] at hown
      obtain ⟨y, hy⟩ := getI (l := List.replicate (j + 1) (0 : Int) ++ (l.take i).reverse) (k := j) (by simp; omega)
      have hcy : wr.cell? ⟨w.heap.size, j, none⟩ = some (.int .i64 y) := (hown.cellAt j (by omega)).trans (cI_get hy)
      have hfy : wr.frozen? ⟨w.heap.size, j, none⟩ = false := hown.frozenAt j
      obtain ⟨s1, t1⟩ := hown.stored j (.int .i64 x)
      rw [← cI_set, set_frontI, ← hrv] at s1
      have hb1 : Below w.heap.size w (wr.setCell ⟨w.heap.size, j, none⟩ (.int .i64 x)) := hb.setCell (p := ⟨w.heap.size, j, none⟩) (Nat.le_refl _) _
      have HS := Lib.hid (And.intro s1 (And.intro hb1 hj))
      clear hcc hx hj hrv hlen hown hy s1 t1 hb1 ho hb hnl'
      go_wp2_with fail
      go_roundw
      case rel =>
        refine ⟨i + 1, by omega, by go_num, ?_, HS.out.2.1⟩
        have e : n - (i + 1) = j := by have := HS.out.2.2; omega
        rw [e]
        unfold IntO
        have hlen2 : (List.replicate j (0 : Int) ++ (l.take (i + 1)).reverse).length = n := by have := HS.out.2.2; have := H.out.2; simp; omega
        rw [hlen2]; exact HS.out.1
      case measure => simp [intOf]; omega
    · obtain rfl : i = n := by omega
      have he : List.replicate (i - i) (0 : Int) ++ (l.take i).reverse = l.reverse := by rw [Nat.sub_self, H.out.2, List.take_length]; rfl
      rw [he] at ho
      have HF := Lib.hid (And.intro ho hb)
      clear ho hb he
      go_wp2_with fail
      go_ret
      exact ⟨_, _, by rw [List.length_reverse, H.out.2]; rfl, HF.out.1, HF.out.2⟩
end Go.Proofs.YthhighljfjeooaaDoor
