/- The document's own package of rules by its contracts: Small. -/
import Derived.Test.YthafjbegkifekaaDoorBRefRB
import Derived.Test.YthafjbegkifekaaDoorBRefWE
namespace Go.Proofs.YthafjbegkifekaaDoor
open Go.RowKit Go.Extern.Stop Go.Stop Go.Extern WordM RuleM NatM

set_option maxRecDepth 100000 in
set_option maxHeartbeats 4000000 in
theorem small_ref_ok (K R : Nat) (p : Option Addr) (n c : Nat) (t : List Int) (w : World) (hn : n = t.length) (h : IntV w.heap.size w p c t) (ho : OkR K R t) (hs : n ≤ 256) :
    Calls Tryd.prog 17 #[.agg #[.int .i64 (K : Int), .int .i64 (R : Int), .slice p n c]] w (Tells noErr w) := by
  have hs' : ¬ (256 : Int) < (n : Int) := by omega
  have H := Lib.hid (And.intro h (And.intro hn ho))
  clear h hn ho
  go_enter Tryd.func17, Tryd.ntmps17
  go_upto_region 1 with fail
  obtain ⟨w0, hw0⟩ : ∃ w0, w0 = (w.alloc (.cells #[.int .i64 (K : Int), .int .i64 (R : Int), .slice p n c] 24)).alloc (.cells #[.int .i64 0, .slice none 0 0, .slice none 0 0] 33) := ⟨_, rfl⟩
  obtain ⟨hb0, hR0, hE0⟩ := start_both w _ _ _ w0 hw0
  rw [← hw0]
  have hszb : (w.alloc (.cells #[.int .i64 (K : Int), .int .i64 (R : Int), .slice p n c] 24)).heap.size = w.heap.size + 1 := by simp
  obtain ⟨_, hr0, hr1, hr2⟩ := hR0.facts
  have HE := Lib.hid (And.intro hR0 (And.intro hE0 hb0))
  clear hw0 hR0 hE0 hb0
  go_wp2_with fail
  have hck : Calls Tryd.prog 15 #[.agg #[.int .i64 (K : Int), .int .i64 (R : Int), .slice p n c]] w0 (Tells (.agg #[.int .i64 0, .slice none 0 0, .slice none 0 0]) w0) := rcheck_ref_ok K R p n c t w0 H.out.2.1 (H.out.1.next HE.out.2.2) H.out.2.2
  refine hck.mono ?_
  clear hck
  rintro e w1 ⟨rfl, hb1⟩
  obtain ⟨wB, hwB⟩ : ∃ x, x = w1.alloc (.cells #[.int .i64 0, .slice none 0 0, .slice none 0 0] 33) := ⟨_, rfl⟩
  have hbB : Below w1.heap.size w1 wB := by rw [hwB]; exact (Below.refl _ _).alloc (Nat.le_refl _) _
  have hEB : Err3 wB w1.heap.size (.int .i64 0) (.slice none 0 0) (.slice none 0 0) := by rw [hwB]; exact ⟨heap_newN w1 _⟩
  have hRB := (HE.out.1.next hb1).next hbB
  have hE1 := (HE.out.2.1.next hb1).next hbB
  have hbw : Below w.heap.size w wB := (HE.out.2.2.trans (hb1.mono HE.out.2.2.size)).trans (hbB.mono (Nat.le_trans HE.out.2.2.size hb1.size))
  clear hr0 hr1 hr2
  obtain ⟨_, hk0, hk1, hk2⟩ := hEB.facts
  have H1 := Lib.hid (And.intro hRB (And.intro hE1 (And.intro hbw hEB)))
  clear hb1 hbB hEB hE1 hbw hRB
  go_upto_region 2 with fail
  rw [← hwB]
  clear hwB
  go_wp2_with fail
  refine (bad_no (.slice none 0 0) (.slice none 0 0) wB).mono ?_
  rintro e wq ⟨rfl, hbq⟩
  have hRq := H1.out.1.next hbq
  have hEq := H1.out.2.1.next hbq
  have hkq := H1.out.2.2.2.next hbq
  clear hk0 hk1 hk2
  obtain ⟨_, hr0, hr1, hr2⟩ := hRq.facts
  obtain ⟨_, hk0, hk1, hk2⟩ := hkq.facts
  have HQ := Lib.hid (And.intro hEq (H1.out.2.2.1.trans (hbq.mono H1.out.2.2.1.size)))
  clear hbq hRq hEq hkq

  obtain ⟨⟨hf0, hf1, hf2⟩, hc0, hc1, hc2⟩ := HQ.out.1.facts
  go_wp2_with fail
  refine bodyPost_ret (v := noErr) (by simp [results, Tryd.results17, go_sem, hc0, hc1, hc2, noErr]) rfl ⟨rfl, ?_⟩
  exact put3_below HQ.out.2 (Nat.le_succ _) _ _ _

set_option maxRecDepth 100000 in
set_option maxHeartbeats 4000000 in
theorem small_ref_big (K R : Nat) (p : Option Addr) (n c : Nat) (t : List Int) (w : World) (hn : n = t.length) (h : IntV w.heap.size w p c t) (ho : OkR K R t) (hs : 256 < n) :
    Calls Tryd.prog 17 #[.agg #[.int .i64 (K : Int), .int .i64 (R : Int), .slice p n c]] w (RefErrR1 w 0 4) := by
  have hs' : (256 : Int) < (n : Int) := by omega
  have hn63 : n ≤ 9223372036854775807 := by have := h.le; have := h.cap; unfold maxLen at this; omega
  have H := Lib.hid (And.intro h (And.intro hn ho))
  clear h hn ho
  go_enter Tryd.func17, Tryd.ntmps17
  go_upto_region 1 with fail
  obtain ⟨w0, hw0⟩ : ∃ w0, w0 = (w.alloc (.cells #[.int .i64 (K : Int), .int .i64 (R : Int), .slice p n c] 24)).alloc (.cells #[.int .i64 0, .slice none 0 0, .slice none 0 0] 33) := ⟨_, rfl⟩
  obtain ⟨hb0, hR0, hE0⟩ := start_both w _ _ _ w0 hw0
  rw [← hw0]
  have hszb : (w.alloc (.cells #[.int .i64 (K : Int), .int .i64 (R : Int), .slice p n c] 24)).heap.size = w.heap.size + 1 := by simp
  obtain ⟨_, hr0, hr1, hr2⟩ := hR0.facts
  have HE := Lib.hid (And.intro hR0 (And.intro hE0 hb0))
  clear hw0 hR0 hE0 hb0
  go_wp2_with fail
  have hck : Calls Tryd.prog 15 #[.agg #[.int .i64 (K : Int), .int .i64 (R : Int), .slice p n c]] w0 (Tells (.agg #[.int .i64 0, .slice none 0 0, .slice none 0 0]) w0) := rcheck_ref_ok K R p n c t w0 H.out.2.1 (H.out.1.next HE.out.2.2) H.out.2.2
  refine hck.mono ?_
  clear hck
  rintro e w1 ⟨rfl, hb1⟩
  obtain ⟨wB, hwB⟩ : ∃ x, x = w1.alloc (.cells #[.int .i64 0, .slice none 0 0, .slice none 0 0] 33) := ⟨_, rfl⟩
  have hbB : Below w1.heap.size w1 wB := by rw [hwB]; exact (Below.refl _ _).alloc (Nat.le_refl _) _
  have hEB : Err3 wB w1.heap.size (.int .i64 0) (.slice none 0 0) (.slice none 0 0) := by rw [hwB]; exact ⟨heap_newN w1 _⟩
  have hRB := (HE.out.1.next hb1).next hbB
  have hE1 := (HE.out.2.1.next hb1).next hbB
  have hbw : Below w.heap.size w wB := (HE.out.2.2.trans (hb1.mono HE.out.2.2.size)).trans (hbB.mono (Nat.le_trans HE.out.2.2.size hb1.size))
  clear hr0 hr1 hr2
  obtain ⟨_, hk0, hk1, hk2⟩ := hEB.facts
  have H1 := Lib.hid (And.intro hRB (And.intro hE1 (And.intro hbw hEB)))
  clear hb1 hbB hEB hE1 hbw hRB
  go_upto_region 2 with fail
  rw [← hwB]
  clear hwB
  go_wp2_with fail
  refine (bad_no (.slice none 0 0) (.slice none 0 0) wB).mono ?_
  rintro e wq ⟨rfl, hbq⟩
  have hRq := H1.out.1.next hbq
  have hEq := H1.out.2.1.next hbq
  have hkq := H1.out.2.2.2.next hbq
  clear hk0 hk1 hk2
  obtain ⟨_, hr0, hr1, hr2⟩ := hRq.facts
  obtain ⟨_, hk0, hk1, hk2⟩ := hkq.facts
  have HQ := Lib.hid (And.intro hEq (H1.out.2.2.1.trans (hbq.mono H1.out.2.2.1.size)))
  clear hbq hRq hEq hkq

  go_wp2_with fail
  refine (raw_fresh ruleOp 0 4 wq).mono ?_
  rintro e w2 ⟨g, g', rfl, hg, hcg, hcg', hb2⟩
  obtain ⟨⟨hf0, hf1, hf2⟩, hc0, hc1, hc2⟩ := (HQ.out.1.next hb2).facts
  have HB := Lib.hid (RefErrR.laid (k := 4) HQ.out.2 (Nat.le_succ _) HQ.out.1.lt hg hcg hcg' hb2)
  clear hb2 hcg hcg' hg
  go_wp2_with fail
  refine bodyPost_ret (v := .agg #[.int .i64 4, .slice (some ⟨g, 0, none⟩) 1 1, .slice (some ⟨g', 0, none⟩) 1 1]) (by simp [results, Tryd.results17, go_sem, hc0, hc1, hc2]) rfl ⟨_, rfl, ?_⟩
  exact HB.out _ _ _

set_option maxRecDepth 100000 in
set_option maxHeartbeats 4000000 in
theorem small_ref_fault (k r : Int) (p : Option Addr) (n c : Nat) (t : List Int) (w : World) (hn : n = t.length) (h : IntV w.heap.size w p c t) (i : Nat) (hc : chkR k r t = some i) :
    Calls Tryd.prog 17 #[.agg #[.int .i64 k, .int .i64 r, .slice p n c]] w (RefErrR1 w i 1) := by
  have H := Lib.hid (And.intro h (And.intro hn hc))
  clear h hn hc
  go_enter Tryd.func17, Tryd.ntmps17
  go_upto_region 1 with fail
  obtain ⟨w0, hw0⟩ : ∃ w0, w0 = (w.alloc (.cells #[.int .i64 k, .int .i64 r, .slice p n c] 24)).alloc (.cells #[.int .i64 0, .slice none 0 0, .slice none 0 0] 33) := ⟨_, rfl⟩
  obtain ⟨hb0, hR0, hE0⟩ := start_both w _ _ _ w0 hw0
  rw [← hw0]
  have hszb : (w.alloc (.cells #[.int .i64 k, .int .i64 r, .slice p n c] 24)).heap.size = w.heap.size + 1 := by simp
  obtain ⟨_, hr0, hr1, hr2⟩ := hR0.facts
  have HE := Lib.hid (And.intro hR0 (And.intro hE0 hb0))
  clear hw0 hR0 hE0 hb0
  go_wp2_with fail
  refine (rcheck_ref_bad k r p n c t w0 H.out.2.1 (H.out.1.next HE.out.2.2) i H.out.2.2).mono ?_
  rintro e w1 ⟨v, rfl, g, g', rfl, ⟨hg1, hg2⟩, hw, hb1⟩
  obtain ⟨wB, hwB⟩ : ∃ x, x = w1.alloc (.cells #[.int .i64 1, .slice (some ⟨g, 0, none⟩) 1 1, .slice (some ⟨g', 0, none⟩) 1 1] 33) := ⟨_, rfl⟩
  have hbB : Below w1.heap.size w1 wB := by rw [hwB]; exact (Below.refl _ _).alloc (Nat.le_refl _) _
  have hEB : Err3 wB w1.heap.size (.int .i64 1) (.slice (some ⟨g, 0, none⟩) 1 1) (.slice (some ⟨g', 0, none⟩) 1 1) := by rw [hwB]; exact ⟨heap_newN w1 _⟩
  have hE1 := (HE.out.2.1.next hb1).next hbB
  have hlt0 := HE.out.2.1.lt
  have hbw : Below w.heap.size w wB := (HE.out.2.2.trans (hb1.mono HE.out.2.2.size)).trans (hbB.mono (Nat.le_trans HE.out.2.2.size hb1.size))
  clear hr0 hr1 hr2
  obtain ⟨_, hk0, hk1, hk2⟩ := hEB.facts
  have H1 := Lib.hid (And.intro hE1 (And.intro hEB (And.intro hbw (hw.next hbB))))
  clear hb1 hbB hEB hE1 hbw hw
  go_upto_region 2 with fail
  rw [← hwB]
  clear hwB
  go_wp2_with fail
  refine (bad_yes 1 (by omega) (.slice (some ⟨g, 0, none⟩) 1 1) (.slice (some ⟨g', 0, none⟩) 1 1) wB).mono ?_
  rintro e wq ⟨rfl, hbq⟩
  obtain ⟨⟨hf0, hf1, hf2⟩, hc0, hc1, hc2⟩ := (H1.out.1.next hbq).facts
  obtain ⟨_, hg0, hg1', hg2'⟩ := (H1.out.2.1.next hbq).facts
  have HQ := Lib.hid (And.intro (H1.out.2.2.1.trans (hbq.mono H1.out.2.2.1.size)) (H1.out.2.2.2.next hbq))
  clear hbq hk0 hk1 hk2
  go_wp2_with fail
  refine bodyPost_ret (v := .agg #[.int .i64 1, .slice (some ⟨g, 0, none⟩) 1 1, .slice (some ⟨g', 0, none⟩) 1 1]) (by simp [results, Tryd.results17, go_sem, hc0, hc1, hc2]) rfl ⟨_, rfl, g, g', rfl, ⟨by omega, by omega⟩, ?_, ?_⟩
  · exact HQ.out.2.put3 (by omega) (by omega) _ _ _
  · exact put3_below HQ.out.1 (Nat.le_succ _) _ _ _
end Go.Proofs.YthafjbegkifekaaDoor
