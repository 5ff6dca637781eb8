/- The document's own package of numbers by its contracts, tenth part: Pow. -/
import Derived.Test.YthafjbegkifekaaDoorBRefI
namespace Go.Proofs.YthafjbegkifekaaDoor
open Go.RowKit NatM

set_option maxRecDepth 100000 in
set_option maxHeartbeats 2000000 in
theorem pow_ref_neg (k n : Int) (w : World) (hn : n < 0) :
    Calls Tryd.prog 57 #[.int .u32 k, .int .i64 n] w (RefErr2 w 0 3) := by
  go_enter Tryd.func57, Tryd.ntmps57
  go_wp2_with fail
  obtain ⟨w0, hw0⟩ : ∃ w0, w0 = w.alloc (.cells #[.int .i64 0, .slice none 0 0, .slice none 0 0] 33) := ⟨_, rfl⟩
  rw [← hw0]
  have hb0 : Below w.heap.size w w0 := by rw [hw0]; exact (Below.refl _ _).alloc (Nat.le_refl _) _
  have hs0 : w.heap.size < w0.heap.size := by rw [hw0]; simp
  have hE0 : Err3 w0 w.heap.size (.int .i64 0) (.slice none 0 0) (.slice none 0 0) := by rw [hw0]; exact Err3.new w
  clear hw0
  refine (raw_fresh natOp 0 3 w0).mono ?_
  rintro e w2 ⟨g, g', rfl, ⟨hg1, hg2, hg3, hg4⟩, hcg, hcg', hb2⟩
  obtain ⟨⟨hf0, hf1, hf2⟩, hc0, hc1, hc2⟩ := (hE0.next hb2).facts
  have HB2 := Lib.hid (And.intro hcg (And.intro hcg' (hb0.trans (hb2.mono (by omega)))))
  clear hb2 hcg hcg' hb0 hE0
  go_wp2_with fail
  refine bodyPost_ret (v := .tuple #[.slice none 0 0, .agg #[.int .i64 3, .slice (some ⟨g, 0, none⟩) 1 1, .slice (some ⟨g', 0, none⟩) 1 1]]) (by simp [results, Tryd.results57, go_sem, hc0, hc1, hc2]) rfl ⟨_, rfl, _, _, rfl, ?_, ?_⟩
  · exact WantV.one (by simp; omega) (by simp; omega) ((put3_cell w2 w.heap.size _ _ _ _ (by simp; omega)).trans HB2.out.1) ((put3_cell w2 w.heap.size _ _ _ _ (by simp; omega)).trans HB2.out.2.1)
  · exact put3_below HB2.out.2.2 (Nat.le_refl _) _ _ _
set_option maxRecDepth 100000 in
set_option maxHeartbeats 2000000 in
theorem pow_ref_big (k n : Int) (w : World) (hn : 1024 < n) (h0 : ¬ n < 0) :
    Calls Tryd.prog 57 #[.int .u32 k, .int .i64 n] w (RefErr2 w 0 4) := by
  go_enter Tryd.func57, Tryd.ntmps57
  go_wp2_with fail
  obtain ⟨w0, hw0⟩ : ∃ w0, w0 = w.alloc (.cells #[.int .i64 0, .slice none 0 0, .slice none 0 0] 33) := ⟨_, rfl⟩
  rw [← hw0]
  have hb0 : Below w.heap.size w w0 := by rw [hw0]; exact (Below.refl _ _).alloc (Nat.le_refl _) _
  have hs0 : w.heap.size < w0.heap.size := by rw [hw0]; simp
  have hE0 : Err3 w0 w.heap.size (.int .i64 0) (.slice none 0 0) (.slice none 0 0) := by rw [hw0]; exact Err3.new w
  clear hw0
  refine (raw_fresh natOp 0 4 w0).mono ?_
  rintro e w2 ⟨g, g', rfl, ⟨hg1, hg2, hg3, hg4⟩, hcg, hcg', hb2⟩
  obtain ⟨⟨hf0, hf1, hf2⟩, hc0, hc1, hc2⟩ := (hE0.next hb2).facts
  have HB2 := Lib.hid (And.intro hcg (And.intro hcg' (hb0.trans (hb2.mono (by omega)))))
  clear hb2 hcg hcg' hb0 hE0
  go_wp2_with fail
  refine bodyPost_ret (v := .tuple #[.slice none 0 0, .agg #[.int .i64 4, .slice (some ⟨g, 0, none⟩) 1 1, .slice (some ⟨g', 0, none⟩) 1 1]]) (by simp [results, Tryd.results57, go_sem, hc0, hc1, hc2]) rfl ⟨_, rfl, _, _, rfl, ?_, ?_⟩
  · exact WantV.one (by simp; omega) (by simp; omega) ((put3_cell w2 w.heap.size _ _ _ _ (by simp; omega)).trans HB2.out.1) ((put3_cell w2 w.heap.size _ _ _ _ (by simp; omega)).trans HB2.out.2.1)
  · exact put3_below HB2.out.2.2 (Nat.le_refl _) _ _ _

theorem D32_pow {k i : Nat} (hk : k < 4294967296) : (D32 (k ^ i)).length ≤ i + 1 := by
  refine D32_len ?_
  have h1 : k ^ i ≤ 4294967296 ^ i := Nat.pow_le_pow_left (by omega) i
  have h2 : 4294967296 ^ i < 4294967296 ^ (i + 1) := Nat.pow_lt_pow_right (by omega) (by omega)
  omega
def PowRefRel (B : Nat) (w0 : World) (k n : Nat) (v6 v7 : Value) (wr : World) : Prop :=
  ∃ (i : Nat) (p : Option Addr) (c : Nat), i ≤ n ∧ v7 = .int .i64 (i : Int) ∧ v6 = .slice p (D32 (k ^ i)).length c ∧ NatO B wr p c (D32 (k ^ i)) ∧ Below B w0 wr
theorem NatO.one (w : World) (x : Nat) (hx : x < 4294967296) : NatO w.heap.size (w.alloc (.cells #[.int .u32 (x : Int)] 83)) (some ⟨w.heap.size, 0, none⟩) 1 [x] :=
  NatO.laid w [x] #[.int .u32 (x : Int)] 1 rfl rfl (by simp) (okB_one hx)
theorem V32_one (x : Nat) : V32 [x] = x := by simp [V32, valB]
set_option maxRecDepth 100000 in
set_option maxHeartbeats 2000000 in
theorem pow_ref (k n : Nat) (hk : k < 4294967296) (hn : n ≤ 1024) (w : World) :
    Calls Tryd.prog 57 #[.int .u32 (k : Int), .int .i64 (n : Int)] w (RefOk2 w (k ^ n)) := by
  go_enter Tryd.func57, Tryd.ntmps57
  go_wp2_with fail
  obtain ⟨w0, hw0⟩ : ∃ w0, w0 = w.alloc (.cells #[.int .i64 0, .slice none 0 0, .slice none 0 0] 33) := ⟨_, rfl⟩
  have hs1 : w.heap.size + 1 = w0.heap.size := by rw [hw0]; simp
  rw [← hw0]
  try rw [hs1]
  have hb0 : Below w.heap.size w w0 := by rw [hw0]; exact (Below.refl _ _).alloc (Nat.le_refl _) _
  have hE0 : Err3 w0 w.heap.size (.int .i64 0) (.slice none 0 0) (.slice none 0 0) := by rw [hw0]; exact Err3.new w
  have ho1 : NatO w0.heap.size (w0.alloc (.cells #[.int .u32 1] 83)) (some ⟨w0.heap.size, 0, none⟩) 1 (D32 1) := by rw [D32_1]; exact NatO.one w0 1 (by omega)
  have hb1 : Below w0.heap.size w0 (w0.alloc (.cells #[.int .u32 1] 83)) := (Below.refl _ _).alloc (Nat.le_refl _) _
  have H0 := Lib.hid (And.intro hE0 (And.intro hb0 (And.intro ho1 hb1)))
  clear hw0 hb0 hE0 ho1 hb1
  go_loopw [6, 7] (fun v6 v7 wr => PowRefRel w0.heap.size w0 k n v6 v7 wr) (fun _ v _ => n - (intOf v).toNat)
  case atStart => exact ⟨0, some ⟨w0.heap.size, 0, none⟩, 1, Nat.zero_le _, rfl, by rw [Nat.pow_zero, D32_1]; rfl, by rw [Nat.pow_zero]; exact H0.out.2.2.1, H0.out.2.2.2⟩
  case round =>
    obtain ⟨i, p, c, hi, rfl, rfl, ho, hb⟩ := hrel
    have hwB : w0.heap.size ≤ wr.heap.size := hb.size
    have hlen := D32_pow (i := i) hk
    by_cases hlt : i < n
    · have hw1 : Below wr.heap.size wr (wr.alloc (.cells #[.int .u32 (k : Int)] 83)) := (Below.refl _ _).alloc (Nat.le_refl _) _
      have hk1 := NatO.one wr k hk
      have hws : (wr.alloc (.cells #[.int .u32 (k : Int)] 83)).heap.size = wr.heap.size + 1 := by simp
      have hm := mul_ref p (some ⟨wr.heap.size, 0, none⟩) c 1 (D32 (k ^ i)) [k] (wr.alloc (.cells #[.int .u32 (k : Int)] 83)) (ho.next hw1).toV hk1.toV (by omega) (by simp)
      rw [V32_D32, V32_one, ← Nat.pow_succ] at hm
      have HB := Lib.hid (hb.trans (hw1.mono hwB))
      clear ho hb hlen hw1 hk1
      go_wp2_with fail
      refine hm.mono ?_
      rintro e w2 ⟨p2, c2, rfl, ho2, hb2⟩
      have H2 := Lib.hid (And.intro ho2 hb2)
      clear hm ho2 hb2
      go_wp2_with fail
      go_roundw
      case rel => exact ⟨i + 1, p2, c2, by omega, by go_num, rfl, H2.out.1.base (by omega), HB.out.trans (H2.out.2.mono (by omega))⟩
      case measure => simp [intOf]; omega
    · obtain rfl : i = n := by omega
      obtain ⟨⟨hf0, hf1, hf2⟩, hk0, hk1, hk2⟩ := (H0.out.1.next hb).facts
      have HW := Lib.hid (And.intro ho (H0.out.2.1.trans (hb.mono (by omega))))
      clear ho hb hlen
      go_wp2_with fail
      refine bodyPost_ret (v := .tuple #[.slice p (D32 (k ^ i)).length c, noErr]) (by simp [results, Tryd.results57, go_sem, hk0, hk1, hk2, noErr]) rfl ⟨_, _, rfl, ?_, ?_⟩
      · exact (HW.out.1.put3 (by omega) _ _ _).base (by omega)
      · exact put3_below HW.out.2 (Nat.le_refl _) _ _ _
end Go.Proofs.YthafjbegkifekaaDoor
