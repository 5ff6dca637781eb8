/- The document's own package of numbers by its contracts, eleventh part: Parse where it refuses (printed by tools/gen_refparse.py). -/
import Derived.Test.YthhighljfjeooaaDoorRefJ
import Derived.Test.YthhighljfjeooaaDoorNatG
namespace Go.Proofs.YthhighljfjeooaaDoor
open Go.RowKit NatM

theorem str_nil {s : ByteArray} (h : s.size = 0) : s = ⟨#[]⟩ := by
  cases s with
  | mk d =>
    have : d.size = 0 := h
    rw [Array.eq_empty_of_size_eq_zero this]
theorem str_ne_nil {s : ByteArray} (h : 0 < s.size) : s.toList.isEmpty = false := by
  have : s.toList.length = s.size := by rw [ByteArray.toList_eq, Array.length_toList]; rfl
  cases hl : s.toList with
  | nil => rw [hl] at this; simp at this; omega
  | cons a t => rfl
set_option maxRecDepth 100000 in
set_option maxHeartbeats 4000000 in
theorem parse_ref_big (s : ByteArray) (w : World) (hs : 1200 < s.size) :
    Calls Tryd.prog 61 #[.string s] w (RefErr2 w 0 4) := by
  go_enter Tryd.func61, Tryd.ntmps61
  go_wp2_with fail
  obtain ⟨w0, hw0⟩ : ∃ w0, w0 = w.alloc (.cells #[.int .i64 0, .slice none 0 0, .slice none 0 0] 72) := ⟨_, rfl⟩
  have hb0 : Below w.heap.size w w0 := by rw [hw0]; exact (Below.refl _ _).alloc (Nat.le_refl _) _
  have hs0 : w.heap.size < w0.heap.size := by rw [hw0]; simp
  have hE0 : Err3 w0 w.heap.size (.int .i64 0) (.slice none 0 0) (.slice none 0 0) := by rw [hw0]; exact Err3.new w
  rw [← hw0]
  have HE := Lib.hid (And.intro hE0 hb0)
  clear hw0 hE0 hb0
  refine (raw_fresh natOp 0 4 w0).mono ?_
  rintro e w2 ⟨g, g', rfl, ⟨hg1, hg2, hg3, hg4⟩, hcg, hcg', hb2⟩
  obtain ⟨⟨hf0, hf1, hf2⟩, hc0, hc1, hc2⟩ := (HE.out.1.next hb2).facts
  have HB2 := Lib.hid (And.intro hcg (And.intro hcg' (HE.out.2.trans (hb2.mono (by omega)))))
  clear hb2 hcg hcg'
  go_wp2_with fail
  refine bodyPost_ret (v := .tuple #[.slice none 0 0, .agg #[.int .i64 4, .slice (some ⟨g, 0, none⟩) 1 1, .slice (some ⟨g', 0, none⟩) 1 1]]) (by simp [results, Tryd.results61, go_sem, hc0, hc1, hc2]) rfl ⟨_, rfl, _, _, rfl, ?_, ?_⟩
  · exact WantV.one (by simp; omega) (by simp; omega) ((put3_cell w2 w.heap.size _ _ _ _ (by simp; omega)).trans HB2.out.1) ((put3_cell w2 w.heap.size _ _ _ _ (by simp; omega)).trans HB2.out.2.1)
  · exact put3_below HB2.out.2.2 (Nat.le_refl _) _ _ _
set_option maxRecDepth 100000 in
set_option maxHeartbeats 4000000 in
theorem parse_ref_none (s : ByteArray) (w : World) (hs : s = ⟨#[]⟩) :
    Calls Tryd.prog 61 #[.string s] w (RefErr2 w 0 6) := by
  subst hs
  go_enter Tryd.func61, Tryd.ntmps61
  go_wp2_with fail
  obtain ⟨w0, hw0⟩ : ∃ w0, w0 = w.alloc (.cells #[.int .i64 0, .slice none 0 0, .slice none 0 0] 72) := ⟨_, rfl⟩
  have hb0 : Below w.heap.size w w0 := by rw [hw0]; exact (Below.refl _ _).alloc (Nat.le_refl _) _
  have hs0 : w.heap.size < w0.heap.size := by rw [hw0]; simp
  have hE0 : Err3 w0 w.heap.size (.int .i64 0) (.slice none 0 0) (.slice none 0 0) := by rw [hw0]; exact Err3.new w
  rw [← hw0]
  have HE := Lib.hid (And.intro hE0 hb0)
  clear hw0 hE0 hb0
  refine (raw_fresh natOp 0 6 w0).mono ?_
  rintro e w2 ⟨g, g', rfl, ⟨hg1, hg2, hg3, hg4⟩, hcg, hcg', hb2⟩
  obtain ⟨⟨hf0, hf1, hf2⟩, hc0, hc1, hc2⟩ := (HE.out.1.next hb2).facts
  have HB2 := Lib.hid (And.intro hcg (And.intro hcg' (HE.out.2.trans (hb2.mono (by omega)))))
  clear hb2 hcg hcg'
  go_wp2_with fail
  refine bodyPost_ret (v := .tuple #[.slice none 0 0, .agg #[.int .i64 6, .slice (some ⟨g, 0, none⟩) 1 1, .slice (some ⟨g', 0, none⟩) 1 1]]) (by simp [results, Tryd.results61, go_sem, hc0, hc1, hc2]) rfl ⟨_, rfl, _, _, rfl, ?_, ?_⟩
  · exact WantV.one (by simp; omega) (by simp; omega) ((put3_cell w2 w.heap.size _ _ _ _ (by simp; omega)).trans HB2.out.1) ((put3_cell w2 w.heap.size _ _ _ _ (by simp; omega)).trans HB2.out.2.1)
  · exact put3_below HB2.out.2.2 (Nat.le_refl _) _ _ _
set_option maxRecDepth 100000 in
set_option maxHeartbeats 4000000 in
theorem parse_ref_letter (s : ByteArray) (w : World) (hs : s.size ≤ 1200) (i : Nat) (hi : (bsOf s).findIdx? (fun b => !isDig b) = some i) :
    Calls Tryd.prog 61 #[.string s] w (RefErr2 w i 6) := by
  obtain ⟨b, hb, hbad, hall⟩ := findIdx_some hi
  have hil : i < s.size := by have := get_lt hb; rwa [bsOf_length] at this
  have hbs : b = (s[i]).toNat := by rw [bsOf_get hil] at hb; exact (Option.some.inj hb).symm
  have HI := Lib.hid (And.intro hbad (And.intro hall hbs))
  have hse : s.toList.isEmpty = false := str_ne_nil (by omega)
  clear hi hb hbad hall hbs
  go_enter Tryd.func61, Tryd.ntmps61
  go_wp2_with fail
  obtain ⟨w0, hw0⟩ : ∃ w0, w0 = w.alloc (.cells #[.int .i64 0, .slice none 0 0, .slice none 0 0] 72) := ⟨_, rfl⟩
  have hb0 : Below w.heap.size w w0 := by rw [hw0]; exact (Below.refl _ _).alloc (Nat.le_refl _) _
  have hs0 : w.heap.size < w0.heap.size := by rw [hw0]; simp
  have hE0 : Err3 w0 w.heap.size (.int .i64 0) (.slice none 0 0) (.slice none 0 0) := by rw [hw0]; exact Err3.new w
  rw [← hw0]
  have HE := Lib.hid (And.intro hE0 hb0)
  clear hw0 hE0 hb0
  go_loop [4] (fun v => ∃ k : Nat, k ≤ i ∧ v = .int .i64 (k : Int)) (fun v => s.size - (intOf v).toNat)
  case atStart => exact ⟨0, Nat.zero_le _, rfl⟩
  case round =>
    obtain ⟨k, hk, rfl⟩ := hrel
    by_cases hlt : k < i
    · have hks : k < s.size := by omega
      have hg : isDig (s[k]).toNat = true := by simpa using HI.out.2.1 k _ hlt (bsOf_get hks)
      have hb := isDig_iff.1 hg
      have h1 : ¬ ((s[k].toNat : Int) < 48) := by omega
      have h2 : ¬ ((57 : Int) < (s[k].toNat : Int)) := by omega
      clear hb hg
      go_wp2_with fail
      go_round
      case rel => exact ⟨k + 1, by omega, by go_num⟩
      case measure => simp [intOf]; omega
    · obtain rfl : k = i := by omega
      have hnd : ¬ (48 ≤ (s[k]).toNat ∧ (s[k]).toNat ≤ 57) := by
        intro h
        have h1 := isDig_iff.2 h
        have h2 := HI.out.1
        rw [HI.out.2.2, h1] at h2
        cases h2
      rcases Nat.lt_or_ge (s[k]).toNat 48 with h1 | h1
      · have h1' : ((s[k].toNat : Int) < 48) := by omega
        clear hnd
        go_wp2_with fail
        refine (raw_fresh natOp k 6 w0).mono ?_
        rintro e w2 ⟨g, g', rfl, ⟨hg1, hg2, hg3, hg4⟩, hcg, hcg', hb2⟩
        obtain ⟨⟨hf0, hf1, hf2⟩, hc0, hc1, hc2⟩ := (HE.out.1.next hb2).facts
        have HB2 := Lib.hid (And.intro hcg (And.intro hcg' (HE.out.2.trans (hb2.mono (by omega)))))
        clear hb2 hcg hcg'
        go_wp2_with fail
        refine bodyPost_ret (v := .tuple #[.slice none 0 0, .agg #[.int .i64 6, .slice (some ⟨g, 0, none⟩) 1 1, .slice (some ⟨g', 0, none⟩) 1 1]]) (by simp [results, Tryd.results61, go_sem, hc0, hc1, hc2]) rfl ⟨_, rfl, _, _, rfl, ?_, ?_⟩
        · exact WantV.one (by simp; omega) (by simp; omega) ((put3_cell w2 w.heap.size _ _ _ _ (by simp; omega)).trans HB2.out.1) ((put3_cell w2 w.heap.size _ _ _ _ (by simp; omega)).trans HB2.out.2.1)
        · exact put3_below HB2.out.2.2 (Nat.le_refl _) _ _ _
      · have h2' : ((57 : Int) < (s[k].toNat : Int)) := by omega
        clear hnd
        go_wp2_with fail
        refine (raw_fresh natOp k 6 w0).mono ?_
        rintro e w2 ⟨g, g', rfl, ⟨hg1, hg2, hg3, hg4⟩, hcg, hcg', hb2⟩
        obtain ⟨⟨hf0, hf1, hf2⟩, hc0, hc1, hc2⟩ := (HE.out.1.next hb2).facts
        have HB2 := Lib.hid (And.intro hcg (And.intro hcg' (HE.out.2.trans (hb2.mono (by omega)))))
        clear hb2 hcg hcg'
        go_wp2_with fail
        refine bodyPost_ret (v := .tuple #[.slice none 0 0, .agg #[.int .i64 6, .slice (some ⟨g, 0, none⟩) 1 1, .slice (some ⟨g', 0, none⟩) 1 1]]) (by simp [results, Tryd.results61, go_sem, hc0, hc1, hc2]) rfl ⟨_, rfl, _, _, rfl, ?_, ?_⟩
        · exact WantV.one (by simp; omega) (by simp; omega) ((put3_cell w2 w.heap.size _ _ _ _ (by simp; omega)).trans HB2.out.1) ((put3_cell w2 w.heap.size _ _ _ _ (by simp; omega)).trans HB2.out.2.1)
        · exact put3_below HB2.out.2.2 (Nat.le_refl _) _ _ _
set_option maxRecDepth 100000 in
set_option maxHeartbeats 4000000 in
theorem parse_ref_zero (s : ByteArray) (w : World) (hs : s.size ≤ 1200) (hd : ∀ b ∈ bsOf s, isDig b = true) (h1 : 1 < s.size) (hz : (bsOf s)[0]? = some 48) :
    Calls Tryd.prog 61 #[.string s] w (RefErr2 w 0 6) := by
  have HD := Lib.hid hd
  have hz0 : (s[0]'(by omega)).toNat = 48 := by rw [bsOf_get (by omega)] at hz; exact Option.some.inj hz
  have HZ := Lib.hid hz0
  have hse : s.toList.isEmpty = false := str_ne_nil (by omega)
  clear hd hz hz0
  go_enter Tryd.func61, Tryd.ntmps61
  go_wp2_with fail
  obtain ⟨w0, hw0⟩ : ∃ w0, w0 = w.alloc (.cells #[.int .i64 0, .slice none 0 0, .slice none 0 0] 72) := ⟨_, rfl⟩
  have hb0 : Below w.heap.size w w0 := by rw [hw0]; exact (Below.refl _ _).alloc (Nat.le_refl _) _
  have hs0 : w.heap.size < w0.heap.size := by rw [hw0]; simp
  have hE0 : Err3 w0 w.heap.size (.int .i64 0) (.slice none 0 0) (.slice none 0 0) := by rw [hw0]; exact Err3.new w
  rw [← hw0]
  have HE := Lib.hid (And.intro hE0 hb0)
  clear hw0 hE0 hb0
  go_loop [4] (fun v => ∃ k : Nat, k ≤ s.size ∧ v = .int .i64 (k : Int)) (fun v => s.size - (intOf v).toNat)
  case atStart => exact ⟨0, Nat.zero_le _, rfl⟩
  case round =>
    obtain ⟨k, hk, rfl⟩ := hrel
    by_cases hlt : k < s.size
    · have hb := isDig_iff.1 (HD.out _ (List.mem_of_getElem? (bsOf_get hlt)))
      have h1 : ¬ ((s[k].toNat : Int) < 48) := by omega
      have h2 : ¬ ((57 : Int) < (s[k].toNat : Int)) := by omega
      clear hb
      go_wp2_with fail
      go_round
      case rel => exact ⟨k + 1, by omega, by go_num⟩
      case measure => simp [intOf]; omega
    · obtain rfl : k = s.size := by omega
      have hz2 : (((s[0]'(by omega)).toNat : Int) == 48) = true := by rw [beq_iff_eq]; have := HZ.out; omega
      go_wp2_with fail
      refine (raw_fresh natOp 0 6 w0).mono ?_
      rintro e w2 ⟨g, g', rfl, ⟨hg1, hg2, hg3, hg4⟩, hcg, hcg', hb2⟩
      obtain ⟨⟨hf0, hf1, hf2⟩, hc0, hc1, hc2⟩ := (HE.out.1.next hb2).facts
      have HB2 := Lib.hid (And.intro hcg (And.intro hcg' (HE.out.2.trans (hb2.mono (by omega)))))
      clear hb2 hcg hcg'
      go_wp2_with fail
      refine bodyPost_ret (v := .tuple #[.slice none 0 0, .agg #[.int .i64 6, .slice (some ⟨g, 0, none⟩) 1 1, .slice (some ⟨g', 0, none⟩) 1 1]]) (by simp [results, Tryd.results61, go_sem, hc0, hc1, hc2]) rfl ⟨_, rfl, _, _, rfl, ?_, ?_⟩
      · exact WantV.one (by simp; omega) (by simp; omega) ((put3_cell w2 w.heap.size _ _ _ _ (by simp; omega)).trans HB2.out.1) ((put3_cell w2 w.heap.size _ _ _ _ (by simp; omega)).trans HB2.out.2.1)
      · exact put3_below HB2.out.2.2 (Nat.le_refl _) _ _ _
/-- Parse where it refuses -/
theorem parse_ref_err (s : ByteArray) (w : World) (i k : Nat) (h : parseBad (bsOf s) = some (i, k)) :
    Calls Tryd.prog 61 #[.string s] w (RefErr2 w i k) := by
  unfold parseBad at h
  rw [bsOf_length] at h
  split at h
  · obtain ⟨rfl, rfl⟩ := Prod.mk.inj (Option.some.inj h)
    exact parse_ref_big s w ‹_›
  · split at h
    · obtain ⟨rfl, rfl⟩ := Prod.mk.inj (Option.some.inj h)
      exact parse_ref_none s w (str_nil ‹_›)
    · split at h
      · rename_i j hj
        obtain ⟨rfl, rfl⟩ := Prod.mk.inj (Option.some.inj h)
        exact parse_ref_letter s w (by omega) j hj
      · rename_i hj
        split at h
        · rename_i hz
          obtain ⟨rfl, rfl⟩ := Prod.mk.inj (Option.some.inj h)
          exact parse_ref_zero s w (by omega) (fun b hb => by have := findIdx_none hj b hb; simpa using this) hz.1 hz.2
        · cases h
end Go.Proofs.YthhighljfjeooaaDoor
