/- The document's own package of numbers by its contracts, seventh part: Sub where it is told. -/
import Derived.Test.YthafjbegkifekaaDoorB3
import Derived.Test.YthafjbegkifekaaDoorB2
namespace Go.Proofs.YthafjbegkifekaaDoor
open Go.RowKit NatM

/-- the difference of two lists of digits, up to place k, in a list of its own -/
structure BInv (a b : List Nat) (k c : Nat) (t : List Nat) : Prop where
  ok : okB 65536 t
  len : t.length = a.length
  car : c ≤ 1
  val : V16 (t.take k) + V16 (b.take k) = V16 (a.take k) + 65536 ^ k * c
theorem BInv.start (a b : List Nat) : BInv a b 0 0 (List.replicate a.length 0) := ⟨okB_replicate (by omega) _, by simp, by omega, by simp [V16, valB]⟩
theorem BInv.step {a b : List Nat} {k c x D : Nat} {t : List Nat} (hb : okB 65536 b) (h : BInv a b k c t) (hx : a[k]? = some x) (hxl : x < 65536) (hD : D + c + limbAt b k = x + 65536) : BInv a b (k + 1) (1 - D / 65536) (t.set k (D % 65536)) := by
  have hk := get_lt hx
  obtain ⟨z, hz⟩ := some_get (l := t) (k := k) (by rw [h.len]; exact hk)
  have hy := limb_lt (B := 65536) (by omega) hb k
  have hc := h.car
  refine ⟨okB_set h.ok (by omega) _, by rw [List.length_set]; exact h.len, by omega, ?_⟩
  show valB 65536 _ + valB 65536 _ = valB 65536 _ + _
  rw [set_takeq hz, valB_snoc, List.length_take, Nat.min_eq_left (by have := h.len; omega), valB_take_limb, valB_takeq 65536 hx, Nat.pow_succ]
  exact sub_step h.val (by omega)
theorem BInv.done {a b : List Nat} {c : Nat} {t : List Nat} (hbl : b.length ≤ a.length) (hle : V16 b ≤ V16 a) (h : BInv a b a.length c t) : V16 t = V16 a - V16 b := by
  have hv := h.val
  have hl := h.len
  have hc := h.car
  rw [List.take_of_length_le (by omega), List.take_of_length_le hbl, List.take_of_length_le (Nat.le_refl _)] at hv
  have h1 := valB_lt (B := 65536) (by omega) h.ok
  rw [hl] at h1
  change V16 t < _ at h1
  rcases (show c = 0 ∨ c = 1 by omega) with rfl | rfl
  · omega
  · omega

theorem make32u (n : Nat) (hn : n ≤ 1099511627776) (w : World) :
    (Instr.makeSlice 51 (.int .i64 (n : Int)) (.int .i64 (n : Int))).run Tryd.prog w = .ok (.slice (some ⟨w.heap.size, 0, none⟩) n n) (w.alloc (.cells (madeCells #[.int .u32 0] n) 83)) := by
  obtain ⟨i0, hi, hz0, hz1, hz2⟩ := info_parts info32
  have h := run_make (P := Tryd.prog) w 51 83 i0 (.int .u32 0) Tryd.underlying51 hi hz0 .i64 .i64 n n (by omega) (by omega) (by rw [hz2]; omega) (by omega)
  rw [hz1] at h
  simpa [Value.cells] using h
def SubRefRel (B : Nat) (w3 : World) (a b : List Nat) (p : Option Addr) (cap : Nat) (v9 v10 : Value) (wr : World) : Prop :=
  ∃ (i c : Nat) (t : List Nat), i ≤ a.length ∧ v9 = .int .u32 (c : Int) ∧ v10 = .int .i64 (i : Int) ∧ BInv a b i c t ∧ NatO B wr p cap t ∧ Below B w3 wr

end Go.Proofs.YthafjbegkifekaaDoor
