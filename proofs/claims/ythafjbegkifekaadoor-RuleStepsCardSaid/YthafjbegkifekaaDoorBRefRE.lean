/- The document's own package of rules by its contracts: Local, Step. -/
import Derived.Test.YthafjbegkifekaaDoorBRefRC
import Derived.Test.YthafjbegkifekaaDoorBRefRD
import Derived.Test.YthafjbegkifekaaDoorB3
namespace Go.Proofs.YthafjbegkifekaaDoor
open Go.RowKit Go.Extern.Stop Go.Stop Go.Extern WordM RuleM NatM
attribute [local go_sem ↓] Go.wp_at_zero Go.wp_at_succ

/-- new ints, and no error -/
def IntRefOk (w : World) (l : List Int) (e : Ending) (w' : World) : Prop := ∃ p c, e = .returned (.tuple #[.slice p l.length c, noErr]) ∧ IntO w.heap.size w' p c l ∧ Below w.heap.size w w'
set_option maxRecDepth 100000 in
set_option maxHeartbeats 4000000 in
theorem step_ref_ok (K R : Nat) (p q : Option Addr) (n c m d : Nat) (t l : List Int) (w : World) (hn : n = t.length) (hm : m = l.length) (h : IntV w.heap.size w p c t) (hl : IntV w.heap.size w q d l) (ho : OkR K R t) (hm4 : m ≤ 4096) (hw : okW K l) :
    Calls Tryd.prog 21 #[.agg #[.int .i64 (K : Int), .int .i64 (R : Int), .slice p n c], .slice q m d] w (IntRefOk w (imgW K R t l)) := by
  have hm4' : ¬ (4096 : Int) < (m : Int) := by omega
  have hbn := badN_ok hw
  have himg := fun W hW hW' => image_ref K R p q n c m d t l W hn hm hW hW' ho hm4 hw
  obtain ⟨I, hI⟩ : ∃ I, imgW K R t l = I := ⟨_, rfl⟩
  simp only [hI] at himg
  rw [hI]
  have H := Lib.hid (And.intro h (And.intro hn (And.intro ho (And.intro hl (And.intro hm (And.intro hbn himg))))))
  clear h hn ho hl hm hbn himg hI hw hm4
  go_enter Tryd.func21, Tryd.ntmps21
  go_upto_region 1 with fail
  obtain ⟨w0, hw0⟩ : ∃ w0, w0 = (w.alloc (.cells #[.int .i64 (K : Int), .int .i64 (R : Int), .slice p n c] 24)).alloc (.cells #[.int .i64 0, .slice none 0 0, .slice none 0 0] 33) := ⟨_, rfl⟩
  obtain ⟨hb0, hR0, hE0⟩ := start_both w _ _ _ w0 hw0
  rw [← hw0]
  have hszb : (w.alloc (.cells #[.int .i64 (K : Int), .int .i64 (R : Int), .slice p n c] 24)).heap.size = w.heap.size + 1 := by simp
  obtain ⟨_, hr0, hr1, hr2⟩ := hR0.facts
  have HE := Lib.hid (And.intro hR0 (And.intro hE0 hb0))
  clear hw0 hR0 hE0 hb0
  go_wp2_with fail
  have hck : Calls Tryd.prog 15 #[.agg #[.int .i64 (K : Int), .int .i64 (R : Int), .slice p n c]] w0 (Tells (.agg #[.int .i64 0, .slice none 0 0, .slice none 0 0]) w0) := rcheck_ref_ok K R p n c t w0 H.out.2.1 (H.out.1.next HE.out.2.2) H.out.2.2.1
  refine hck.mono ?_
  clear hck
  rintro e w1 ⟨rfl, hb1⟩
  obtain ⟨wB, hwB⟩ : ∃ x, x = w1.alloc (.cells #[.int .i64 0, .slice none 0 0, .slice none 0 0] 33) := ⟨_, rfl⟩
  have hbB : Below w1.heap.size w1 wB := by rw [hwB]; exact (Below.refl _ _).alloc (Nat.le_refl _) _
  have hEB : Err3 wB w1.heap.size (.int .i64 0) (.slice none 0 0) (.slice none 0 0) := by rw [hwB]; exact ⟨heap_newN w1 _⟩
  have hRB := (HE.out.1.next hb1).next hbB
  have hE1 := (HE.out.2.1.next hb1).next hbB
  have hbw : Below w.heap.size w wB := (HE.out.2.2.trans (hb1.mono HE.out.2.2.size)).trans (hbB.mono (Nat.le_trans HE.out.2.2.size hb1.size))
  clear hr0 hr1 hr2
  obtain ⟨_, hk0, hk1, hk2⟩ := hEB.facts
  have H1 := Lib.hid (And.intro hRB (And.intro hE1 hbw))
  clear hb1 hbB hEB hE1 hbw hRB
  go_upto_region 2 with fail
  rw [← hwB]
  clear hwB
  go_wp2_with fail
  refine (bad_no (.slice none 0 0) (.slice none 0 0) wB).mono ?_
  rintro e wq ⟨rfl, hbq⟩
  have hRq := H1.out.1.next hbq
  have hEq := H1.out.2.1.next hbq
  clear hk0 hk1 hk2
  obtain ⟨_, hr0, hr1, hr2⟩ := hRq.facts
  have HQ := Lib.hid (And.intro hEq (And.intro (H1.out.2.2.trans (hbq.mono H1.out.2.2.size)) hRq))
  clear hbq hRq hEq
  go_wp2_with fail
  refine (bad_ref (K : Int) q m d l wq H.out.2.2.2.2.1 (H.out.2.2.2.1.next HQ.out.2.1)).mono ?_
  rintro e w3 ⟨rfl, rfl⟩
  rw [H.out.2.2.2.2.2.1]
  go_wp2_with fail
  refine (H.out.2.2.2.2.2.2 wq (H.out.1.next HQ.out.2.1) (H.out.2.2.2.1.next HQ.out.2.1)).mono ?_
  rintro e w4 ⟨p4, c4, rfl, ho4, hb4⟩
  obtain ⟨⟨hf0, hf1, hf2⟩, hc0, hc1, hc2⟩ := (HQ.out.1.next hb4).facts
  obtain ⟨u, hu⟩ : ∃ u, I.length = u := ⟨_, rfl⟩
  rw [hu]
  have hltq := HQ.out.1.lt
  have HF := Lib.hid (And.intro ho4 (And.intro (HQ.out.2.1.trans (hb4.mono HQ.out.2.1.size)) hu))
  clear ho4 hb4 hu
  go_wp2_with fail
  refine bodyPost_ret (v := .tuple #[.slice p4 u c4, noErr]) (by simp [results, Tryd.results21, go_sem, hc0, hc1, hc2, noErr]) rfl ⟨p4, c4, by rw [HF.out.2.2], ?_, ?_⟩
  · exact (HF.out.1.put3 hltq _ _ _).base (by omega)
  · exact put3_below HF.out.2.1 (Nat.le_succ _) _ _ _

set_option maxRecDepth 100000 in
set_option maxHeartbeats 8000000 in
theorem step_ref_bad (k r : Int) (p q : Option Addr) (n c m d : Nat) (t l : List Int) (w : World) (hn : n = t.length) (hm : m = l.length) (h : IntV w.heap.size w p c t) (hl : IntV w.heap.size w q d l) (i a : Nat) (hc : chkT k r t l = some (i, a)) :
    Calls Tryd.prog 21 #[.agg #[.int .i64 k, .int .i64 r, .slice p n c], .slice q m d] w (RefErrR2 w (.slice none 0 0) i a) := by
  have hmx : m ≤ 9223372036854775807 := by have := hl.le; have := hl.cap; unfold maxLen at this; omega
  unfold chkT at hc
  split at hc
  · obtain ⟨rfl, rfl⟩ := Prod.mk.inj (Option.some.inj hc)
    rename_i hcr
    have H := Lib.hid (And.intro h (And.intro hn hcr))
    clear h hn hcr hc hm hl
    go_enter Tryd.func21, Tryd.ntmps21
    go_upto_region 1 with fail
    obtain ⟨w0, hw0⟩ : ∃ w0, w0 = (w.alloc (.cells #[.int .i64 k, .int .i64 r, .slice p n c] 24)).alloc (.cells #[.int .i64 0, .slice none 0 0, .slice none 0 0] 33) := ⟨_, rfl⟩
    obtain ⟨hb0, hR0, hE0⟩ := start_both w _ _ _ w0 hw0
    rw [← hw0]
    have hszb : (w.alloc (.cells #[.int .i64 k, .int .i64 r, .slice p n c] 24)).heap.size = w.heap.size + 1 := by simp
    obtain ⟨_, hr0, hr1, hr2⟩ := hR0.facts
    have HE := Lib.hid (And.intro hR0 (And.intro hE0 hb0))
    clear hw0 hR0 hE0 hb0
    go_wp2_with fail
    refine (rcheck_ref_bad k r p n c t w0 H.out.2.1 (H.out.1.next HE.out.2.2) _ H.out.2.2).mono ?_
    rintro e w1 ⟨v, rfl, g, g', rfl, ⟨hg1, hg2⟩, hw, hb1⟩
    obtain ⟨wB, hwB⟩ : ∃ x, x = w1.alloc (.cells #[.int .i64 1, .slice (some ⟨g, 0, none⟩) 1 1, .slice (some ⟨g', 0, none⟩) 1 1] 33) := ⟨_, rfl⟩
    have hbB : Below w1.heap.size w1 wB := by rw [hwB]; exact (Below.refl _ _).alloc (Nat.le_refl _) _
    have hEB : Err3 wB w1.heap.size (.int .i64 1) (.slice (some ⟨g, 0, none⟩) 1 1) (.slice (some ⟨g', 0, none⟩) 1 1) := by rw [hwB]; exact ⟨heap_newN w1 _⟩
    have hE1 := (HE.out.2.1.next hb1).next hbB
    have hlt0 := HE.out.2.1.lt
    have hbw : Below w.heap.size w wB := (HE.out.2.2.trans (hb1.mono HE.out.2.2.size)).trans (hbB.mono (Nat.le_trans HE.out.2.2.size hb1.size))
    have hs1 := hb1.size
    clear hr0 hr1 hr2
    obtain ⟨_, hk0, hk1, hk2⟩ := hEB.facts
    have H1 := Lib.hid (And.intro hE1 (And.intro hEB (And.intro hbw (hw.next hbB))))
    clear hb1 hbB hEB hE1 hbw hw
    go_upto_region 2 with fail
    rw [← hwB]
    clear hwB
    go_wp2_with fail
    refine (bad_yes 1 (by omega) (.slice (some ⟨g, 0, none⟩) 1 1) (.slice (some ⟨g', 0, none⟩) 1 1) wB).mono ?_
    rintro e wq ⟨rfl, hbq⟩
    obtain ⟨⟨hf0, hf1, hf2⟩, hc0, hc1, hc2⟩ := (H1.out.1.next hbq).facts
    obtain ⟨_, hg0, hg1', hg2'⟩ := (H1.out.2.1.next hbq).facts
    have HQ := Lib.hid (And.intro (H1.out.2.2.1.trans (hbq.mono H1.out.2.2.1.size)) (H1.out.2.2.2.next hbq))
    clear hbq hk0 hk1 hk2
    have hne : w1.heap.size ≠ w.heap.size + 1 := by omega
    go_wp2_with fail
    go_region
    go_wp2_with fail
    refine bodyPost_ret (v := .tuple #[.slice none 0 0, .agg #[.int .i64 1, .slice (some ⟨g, 0, none⟩) 1 1, .slice (some ⟨g', 0, none⟩) 1 1]]) (by simp [results, Tryd.results21, go_sem, hc0, hc1, hc2]) rfl ⟨_, rfl, g, g', rfl, ⟨by omega, by omega⟩, ?_, ?_⟩
    · exact (HQ.out.2.put3 (by omega) (by omega) _ _ _).next (Below.refl _ _).drew
    · exact (put3_below HQ.out.1 (Nat.le_succ _) _ _ _).drew
  · rename_i hcr
    obtain ⟨K, R, rfl, rfl, ho⟩ := chkR_none hcr
    split at hc
    · obtain ⟨rfl, rfl⟩ := Prod.mk.inj (Option.some.inj hc)
      rename_i hne
      have hm4' : (4096 : Int) < (m : Int) := by omega
      have H := Lib.hid (And.intro h (And.intro hn (And.intro ho True.intro)))
      clear h hn ho hc hm hl hcr hne
      go_enter Tryd.func21, Tryd.ntmps21
      go_upto_region 1 with fail
      obtain ⟨w0, hw0⟩ : ∃ w0, w0 = (w.alloc (.cells #[.int .i64 (K : Int), .int .i64 (R : Int), .slice p n c] 24)).alloc (.cells #[.int .i64 0, .slice none 0 0, .slice none 0 0] 33) := ⟨_, rfl⟩
      obtain ⟨hb0, hR0, hE0⟩ := start_both w _ _ _ w0 hw0
      rw [← hw0]
      have hszb : (w.alloc (.cells #[.int .i64 (K : Int), .int .i64 (R : Int), .slice p n c] 24)).heap.size = w.heap.size + 1 := by simp
      obtain ⟨_, hr0, hr1, hr2⟩ := hR0.facts
      have HE := Lib.hid (And.intro hR0 (And.intro hE0 hb0))
      clear hw0 hR0 hE0 hb0
      go_wp2_with fail
      have hck : Calls Tryd.prog 15 #[.agg #[.int .i64 (K : Int), .int .i64 (R : Int), .slice p n c]] w0 (Tells (.agg #[.int .i64 0, .slice none 0 0, .slice none 0 0]) w0) := rcheck_ref_ok K R p n c t w0 H.out.2.1 (H.out.1.next HE.out.2.2) H.out.2.2.1
      refine hck.mono ?_
      clear hck
      rintro e w1 ⟨rfl, hb1⟩
      obtain ⟨wB, hwB⟩ : ∃ x, x = w1.alloc (.cells #[.int .i64 0, .slice none 0 0, .slice none 0 0] 33) := ⟨_, rfl⟩
      have hbB : Below w1.heap.size w1 wB := by rw [hwB]; exact (Below.refl _ _).alloc (Nat.le_refl _) _
      have hEB : Err3 wB w1.heap.size (.int .i64 0) (.slice none 0 0) (.slice none 0 0) := by rw [hwB]; exact ⟨heap_newN w1 _⟩
      have hRB := (HE.out.1.next hb1).next hbB
      have hE1 := (HE.out.2.1.next hb1).next hbB
      have hbw : Below w.heap.size w wB := (HE.out.2.2.trans (hb1.mono HE.out.2.2.size)).trans (hbB.mono (Nat.le_trans HE.out.2.2.size hb1.size))
      clear hr0 hr1 hr2
      obtain ⟨_, hk0, hk1, hk2⟩ := hEB.facts
      have H1 := Lib.hid (And.intro hRB (And.intro hE1 hbw))
      clear hb1 hbB hEB hE1 hbw hRB
      go_upto_region 2 with fail
      rw [← hwB]
      clear hwB
      go_wp2_with fail
      refine (bad_no (.slice none 0 0) (.slice none 0 0) wB).mono ?_
      rintro e wq ⟨rfl, hbq⟩
      have hRq := H1.out.1.next hbq
      have hEq := H1.out.2.1.next hbq
      clear hk0 hk1 hk2
      obtain ⟨_, hr0, hr1, hr2⟩ := hRq.facts
      have HQ := Lib.hid (And.intro hEq (And.intro (H1.out.2.2.trans (hbq.mono H1.out.2.2.size)) hRq))
      clear hbq hRq hEq
      go_wp2_with fail
      refine (raw_fresh ruleOp 0 4 wq).mono ?_
      rintro e w2 ⟨g, g', rfl, hg, hcg, hcg', hb2⟩
      obtain ⟨⟨hf0, hf1, hf2⟩, hc0, hc1, hc2⟩ := (HQ.out.1.next hb2).facts
      have HB := Lib.hid (RefErrR.laid (k := 4) HQ.out.2.1 (Nat.le_succ _) HQ.out.1.lt hg hcg hcg' hb2)
      clear hb2 hcg hcg' hg
      go_wp2_with fail
      refine bodyPost_ret (v := .tuple #[.slice none 0 0, .agg #[.int .i64 4, .slice (some ⟨g, 0, none⟩) 1 1, .slice (some ⟨g', 0, none⟩) 1 1]]) (by simp [results, Tryd.results21, go_sem, hc0, hc1, hc2]) rfl ⟨_, rfl, ?_⟩
      exact HB.out _ _ _
    · rename_i hne
      obtain ⟨j, hj, he⟩ := Option.map_eq_some_iff.1 hc
      obtain ⟨rfl, rfl⟩ := Prod.mk.inj he
      have hbn := badN_bad hj
      have hm4' : ¬ (4096 : Int) < (m : Int) := by omega
      have H := Lib.hid (And.intro h (And.intro hn (And.intro ho (And.intro hl (And.intro hm hbn)))))
      clear h hn ho hc hm hl hcr hne hj he hbn
      go_enter Tryd.func21, Tryd.ntmps21
      go_upto_region 1 with fail
      obtain ⟨w0, hw0⟩ : ∃ w0, w0 = (w.alloc (.cells #[.int .i64 (K : Int), .int .i64 (R : Int), .slice p n c] 24)).alloc (.cells #[.int .i64 0, .slice none 0 0, .slice none 0 0] 33) := ⟨_, rfl⟩
      obtain ⟨hb0, hR0, hE0⟩ := start_both w _ _ _ w0 hw0
      rw [← hw0]
      have hszb : (w.alloc (.cells #[.int .i64 (K : Int), .int .i64 (R : Int), .slice p n c] 24)).heap.size = w.heap.size + 1 := by simp
      obtain ⟨_, hr0, hr1, hr2⟩ := hR0.facts
      have HE := Lib.hid (And.intro hR0 (And.intro hE0 hb0))
      clear hw0 hR0 hE0 hb0
      go_wp2_with fail
      have hck : Calls Tryd.prog 15 #[.agg #[.int .i64 (K : Int), .int .i64 (R : Int), .slice p n c]] w0 (Tells (.agg #[.int .i64 0, .slice none 0 0, .slice none 0 0]) w0) := rcheck_ref_ok K R p n c t w0 H.out.2.1 (H.out.1.next HE.out.2.2) H.out.2.2.1
      refine hck.mono ?_
      clear hck
      rintro e w1 ⟨rfl, hb1⟩
      obtain ⟨wB, hwB⟩ : ∃ x, x = w1.alloc (.cells #[.int .i64 0, .slice none 0 0, .slice none 0 0] 33) := ⟨_, rfl⟩
      have hbB : Below w1.heap.size w1 wB := by rw [hwB]; exact (Below.refl _ _).alloc (Nat.le_refl _) _
      have hEB : Err3 wB w1.heap.size (.int .i64 0) (.slice none 0 0) (.slice none 0 0) := by rw [hwB]; exact ⟨heap_newN w1 _⟩
      have hRB := (HE.out.1.next hb1).next hbB
      have hE1 := (HE.out.2.1.next hb1).next hbB
      have hbw : Below w.heap.size w wB := (HE.out.2.2.trans (hb1.mono HE.out.2.2.size)).trans (hbB.mono (Nat.le_trans HE.out.2.2.size hb1.size))
      clear hr0 hr1 hr2
      obtain ⟨_, hk0, hk1, hk2⟩ := hEB.facts
      have H1 := Lib.hid (And.intro hRB (And.intro hE1 hbw))
      clear hb1 hbB hEB hE1 hbw hRB
      go_upto_region 2 with fail
      rw [← hwB]
      clear hwB
      go_wp2_with fail
      refine (bad_no (.slice none 0 0) (.slice none 0 0) wB).mono ?_
      rintro e wq ⟨rfl, hbq⟩
      have hRq := H1.out.1.next hbq
      have hEq := H1.out.2.1.next hbq
      clear hk0 hk1 hk2
      obtain ⟨_, hr0, hr1, hr2⟩ := hRq.facts
      have HQ := Lib.hid (And.intro hEq (And.intro (H1.out.2.2.trans (hbq.mono H1.out.2.2.size)) hRq))
      clear hbq hRq hEq
      go_wp2_with fail
      refine (bad_ref (K : Int) q m d l wq H.out.2.2.2.2.1 (H.out.2.2.2.1.next HQ.out.2.1)).mono ?_
      rintro e w3 ⟨rfl, rfl⟩
      rw [H.out.2.2.2.2.2]
      go_wp2_with fail
      refine (raw_fresh ruleOp j 2 wq).mono ?_
      rintro e w2 ⟨g, g', rfl, hg, hcg, hcg', hb2⟩
      obtain ⟨⟨hf0, hf1, hf2⟩, hc0, hc1, hc2⟩ := (HQ.out.1.next hb2).facts
      have HB := Lib.hid (RefErrR.laid (k := 2) HQ.out.2.1 (Nat.le_succ _) HQ.out.1.lt hg hcg hcg' hb2)
      clear hb2 hcg hcg' hg
      go_wp2_with fail
      refine bodyPost_ret (v := .tuple #[.slice none 0 0, .agg #[.int .i64 2, .slice (some ⟨g, 0, none⟩) 1 1, .slice (some ⟨g', 0, none⟩) 1 1]]) (by simp [results, Tryd.results21, go_sem, hc0, hc1, hc2]) rfl ⟨_, rfl, ?_⟩
      exact HB.out _ _ _

/-- a number, and no error -/
def NumRef (w : World) (x : Int) (e : Ending) (w' : World) : Prop := e = .returned (.tuple #[.int .i64 x, noErr]) ∧ Below w.heap.size w w'
set_option maxRecDepth 100000 in
set_option maxHeartbeats 8000000 in
theorem local_ref_ok (K R : Nat) (p q : Option Addr) (n c m d : Nat) (t l : List Int) (w : World) (hn : n = t.length) (hm : m = l.length) (h : IntV w.heap.size w p c t) (hl : IntV w.heap.size w q d l) (ho : OkR K R t) (hlen : l.length = 2 * R + 1) (hw : okW K l) :
    Calls Tryd.prog 23 #[.agg #[.int .i64 (K : Int), .int .i64 (R : Int), .slice p n c], .slice q m d] w (NumRef w (ent t (valW K l))) := by
  have h4 := ho.k4
  have h3 := ho.r3
  have hbn := badN_ok hw
  obtain ⟨R2, hR2⟩ : ∃ R2 : Nat, 2 * R = R2 := ⟨_, rfl⟩
  have w2r : IntKind.i64.wrap (2 * (R : Int)) = (R2 : Int) := by rw [IntWalk.i64_in _ (by omega)]; omega
  have wR : IntKind.i64.wrap ((R2 : Int) + 1) = (m : Int) := by rw [IntWalk.i64_in _ (by omega)]; omega
  have hval := fun W hW => value_ref K q m d l W h4 hm hW hw (by omega)
  have hzt : valW K l < t.length := by rw [ho.len, ← hlen]; exact valW_lt hw
  have hg := ent_get hzt
  obtain ⟨b2, off2, rfl, hb2, hc2'⟩ := h.cell (by rintro rfl; simp at hzt)
  have hent := hc2' _ _ hg
  have hncap := h.cap
  have hnle := h.le
  unfold maxLen at hncap
  have hnc : n ≤ c := by omega
  obtain ⟨f, hf⟩ : ∃ f, ent t (valW K l) = f := ⟨_, rfl⟩
  rw [hf] at hent ⊢
  obtain ⟨z, hz⟩ : ∃ z, valW K l = z := ⟨_, rfl⟩
  rw [hz] at hent hzt
  simp only [hz] at hval
  have hzn : z < n := by omega
  have hzn' : (z : Int) < (n : Int) := by omega
  have hm63 : m ≤ 7 := by omega
  have H := Lib.hid (And.intro h (And.intro hn (And.intro ho (And.intro hl (And.intro hm (And.intro hbn (And.intro hval hent)))))))
  clear h hn ho hl hm hbn hval hent hw hlen hR2 hf hz hzt hg hc2' hncap hnle
  go_enter Tryd.func23, Tryd.ntmps23
  go_upto_region 1 with fail
  obtain ⟨w0, hw0⟩ : ∃ w0, w0 = (w.alloc (.cells #[.int .i64 (K : Int), .int .i64 (R : Int), .slice (some ⟨b2, off2, none⟩) n c] 24)).alloc (.cells #[.int .i64 0, .slice none 0 0, .slice none 0 0] 33) := ⟨_, rfl⟩
  obtain ⟨hb0, hR0, hE0⟩ := start_both w _ _ _ w0 hw0
  rw [← hw0]
  have hszb : (w.alloc (.cells #[.int .i64 (K : Int), .int .i64 (R : Int), .slice (some ⟨b2, off2, none⟩) n c] 24)).heap.size = w.heap.size + 1 := by simp
  obtain ⟨_, hr0, hr1, hr2⟩ := hR0.facts
  have HE := Lib.hid (And.intro hR0 (And.intro hE0 hb0))
  clear hw0 hR0 hE0 hb0
  go_wp2_with fail
  have hck : Calls Tryd.prog 15 #[.agg #[.int .i64 (K : Int), .int .i64 (R : Int), .slice (some ⟨b2, off2, none⟩) n c]] w0 (Tells (.agg #[.int .i64 0, .slice none 0 0, .slice none 0 0]) w0) := rcheck_ref_ok K R (some ⟨b2, off2, none⟩) n c t w0 H.out.2.1 (H.out.1.next HE.out.2.2) H.out.2.2.1
  refine hck.mono ?_
  clear hck
  rintro e w1 ⟨rfl, hb1⟩
  obtain ⟨wB, hwB⟩ : ∃ x, x = w1.alloc (.cells #[.int .i64 0, .slice none 0 0, .slice none 0 0] 33) := ⟨_, rfl⟩
  have hbB : Below w1.heap.size w1 wB := by rw [hwB]; exact (Below.refl _ _).alloc (Nat.le_refl _) _
  have hEB : Err3 wB w1.heap.size (.int .i64 0) (.slice none 0 0) (.slice none 0 0) := by rw [hwB]; exact ⟨heap_newN w1 _⟩
  have hRB := (HE.out.1.next hb1).next hbB
  have hE1 := (HE.out.2.1.next hb1).next hbB
  have hbw : Below w.heap.size w wB := (HE.out.2.2.trans (hb1.mono HE.out.2.2.size)).trans (hbB.mono (Nat.le_trans HE.out.2.2.size hb1.size))
  clear hr0 hr1 hr2
  obtain ⟨_, hk0, hk1, hk2⟩ := hEB.facts
  have H1 := Lib.hid (And.intro hRB (And.intro hE1 hbw))
  clear hb1 hbB hEB hE1 hbw hRB
  go_upto_region 2 with fail
  rw [← hwB]
  clear hwB
  go_wp2_with fail
  refine (bad_no (.slice none 0 0) (.slice none 0 0) wB).mono ?_
  rintro e wq ⟨rfl, hbq⟩
  have hRq := H1.out.1.next hbq
  have hEq := H1.out.2.1.next hbq
  clear hk0 hk1 hk2
  obtain ⟨_, hr0, hr1, hr2⟩ := hRq.facts
  have HQ := Lib.hid (And.intro hEq (And.intro (H1.out.2.2.trans (hbq.mono H1.out.2.2.size)) hRq))
  clear hbq hRq hEq
  go_wp2_with fail
  refine (bad_ref (K : Int) q m d l wq H.out.2.2.2.2.1 (H.out.2.2.2.1.next HQ.out.2.1)).mono ?_
  rintro e w3 ⟨rfl, rfl⟩
  rw [H.out.2.2.2.2.2.1]
  have hcz : wq.cell? ⟨b2, off2 + z, none⟩ = some (.int .i64 f) := (HQ.out.2.1.cell (p := ⟨b2, off2 + z, none⟩) hb2).trans H.out.2.2.2.2.2.2.2
  have hd0 : Below wq.heap.size wq wq.drew := (Below.refl _ _).drew
  have hxA : ∀ wx : World, Below wq.heap.size wq wx → wx.cell? ⟨w.heap.size, 0, none⟩ = some (.int .i64 (K : Int)) := fun wx hbx => (HQ.out.2.2.next hbx).facts.2.1
  have hxC : ∀ wx : World, Below wq.heap.size wq wx → wx.cell? ⟨w.heap.size, 2, none⟩ = some (.slice (some ⟨b2, off2, none⟩) n c) := fun wx hbx => (HQ.out.2.2.next hbx).facts.2.2.2
  have hxZ : ∀ wx : World, Below wq.heap.size wq wx → wx.cell? ⟨b2, off2 + z, none⟩ = some (.int .i64 f) := fun wx hbx => (hbx.cell (p := ⟨b2, off2 + z, none⟩) (Nat.lt_of_lt_of_le hb2 HQ.out.2.1.size)).trans hcz
  have hval : ∀ wx : World, Below wq.heap.size wq wx → Calls Tryd.prog 50 #[.int .i64 (K : Int), .slice q m d] wx fun e w' => e = .returned (.int .i64 ((z : Nat) : Int)) ∧ wx = w' := fun wx hbx => H.out.2.2.2.2.2.2.1 wx ((H.out.2.2.2.1.next HQ.out.2.1).next hbx)
  obtain ⟨⟨hf0, hf1, hf2⟩, hc0, hc1, hc2⟩ := HQ.out.1.facts
  have hb2q : b2 ≠ w.heap.size + 1 := by omega
  have hPA := fun a b c => (put3_cell wq (w.heap.size + 1) a b c ⟨w.heap.size, 0, none⟩ (by simp)).trans (hxA wq (Below.refl _ _))
  have hPC := fun a b c => (put3_cell wq (w.heap.size + 1) a b c ⟨w.heap.size, 2, none⟩ (by simp)).trans (hxC wq (Below.refl _ _))
  have hPZ := fun a b c => (put3_cell wq (w.heap.size + 1) a b c ⟨b2, off2 + z, none⟩ hb2q).trans (hxZ wq (Below.refl _ _))
  clear hr0 hr1 hr2
  go_wp2_with fail
  go_region_held3 (fun w' => w'.cell? ⟨w.heap.size, 0, none⟩ = some (.int .i64 (K : Int)) ∧ w'.cell? ⟨w.heap.size, 2, none⟩ = some (.slice (some ⟨b2, off2, none⟩) n c) ∧ w'.cell? ⟨b2, off2 + z, none⟩ = some (.int .i64 f)) (first | exact ⟨hxA _ hd0, hxC _ hd0, hxZ _ hd0⟩ | exact ⟨hPA _ _ _, hPC _ _ _, hPZ _ _ _⟩ | go_keep) (first
    | (go_at_call 50; refine (hval _ hd0).mono ?_; rintro e w9 ⟨rfl, rfl⟩))
  all_goals
    have HF := Lib.hid HQ.out.2.1
    clear hxA hxC hxZ hval hPA hPC hPZ
    go_wp2_with fail
    refine bodyPost_ret (v := .tuple #[.int .i64 f, noErr]) (by simp [results, Tryd.results23, go_sem, hc0, hc1, hc2, noErr]) rfl ⟨rfl, ?_⟩
    exact (put3_below HF.out (Nat.le_succ _) _ _ _).drew

set_option maxRecDepth 100000 in
set_option maxHeartbeats 8000000 in
theorem local_ref_bad (k r : Int) (p q : Option Addr) (n c m d : Nat) (t l : List Int) (w : World) (hn : n = t.length) (hm : m = l.length) (h : IntV w.heap.size w p c t) (hl : IntV w.heap.size w q d l) (i a : Nat) (hc : chkL k r t l = some (i, a)) :
    Calls Tryd.prog 23 #[.agg #[.int .i64 k, .int .i64 r, .slice p n c], .slice q m d] w (RefErrR2 w (.int .i64 0) i a) := by
  have hmx : m ≤ 9223372036854775807 := by have := hl.le; have := hl.cap; unfold maxLen at this; omega
  unfold chkL at hc
  split at hc
  · obtain ⟨rfl, rfl⟩ := Prod.mk.inj (Option.some.inj hc)
    rename_i hcr
    have H := Lib.hid (And.intro h (And.intro hn hcr))
    clear h hn hcr hc hm hl
    go_enter Tryd.func23, Tryd.ntmps23
    go_upto_region 1 with fail
    obtain ⟨w0, hw0⟩ : ∃ w0, w0 = (w.alloc (.cells #[.int .i64 k, .int .i64 r, .slice p n c] 24)).alloc (.cells #[.int .i64 0, .slice none 0 0, .slice none 0 0] 33) := ⟨_, rfl⟩
    obtain ⟨hb0, hR0, hE0⟩ := start_both w _ _ _ w0 hw0
    rw [← hw0]
    have hszb : (w.alloc (.cells #[.int .i64 k, .int .i64 r, .slice p n c] 24)).heap.size = w.heap.size + 1 := by simp
    obtain ⟨_, hr0, hr1, hr2⟩ := hR0.facts
    have HE := Lib.hid (And.intro hR0 (And.intro hE0 hb0))
    clear hw0 hR0 hE0 hb0
    go_wp2_with fail
    refine (rcheck_ref_bad k r p n c t w0 H.out.2.1 (H.out.1.next HE.out.2.2) _ H.out.2.2).mono ?_
    rintro e w1 ⟨v, rfl, g, g', rfl, ⟨hg1, hg2⟩, hw, hb1⟩
    obtain ⟨wB, hwB⟩ : ∃ x, x = w1.alloc (.cells #[.int .i64 1, .slice (some ⟨g, 0, none⟩) 1 1, .slice (some ⟨g', 0, none⟩) 1 1] 33) := ⟨_, rfl⟩
    have hbB : Below w1.heap.size w1 wB := by rw [hwB]; exact (Below.refl _ _).alloc (Nat.le_refl _) _
    have hEB : Err3 wB w1.heap.size (.int .i64 1) (.slice (some ⟨g, 0, none⟩) 1 1) (.slice (some ⟨g', 0, none⟩) 1 1) := by rw [hwB]; exact ⟨heap_newN w1 _⟩
    have hE1 := (HE.out.2.1.next hb1).next hbB
    have hlt0 := HE.out.2.1.lt
    have hbw : Below w.heap.size w wB := (HE.out.2.2.trans (hb1.mono HE.out.2.2.size)).trans (hbB.mono (Nat.le_trans HE.out.2.2.size hb1.size))
    have hs1 := hb1.size
    clear hr0 hr1 hr2
    obtain ⟨_, hk0, hk1, hk2⟩ := hEB.facts
    have H1 := Lib.hid (And.intro hE1 (And.intro hEB (And.intro hbw (hw.next hbB))))
    clear hb1 hbB hEB hE1 hbw hw
    go_upto_region 2 with fail
    rw [← hwB]
    clear hwB
    go_wp2_with fail
    refine (bad_yes 1 (by omega) (.slice (some ⟨g, 0, none⟩) 1 1) (.slice (some ⟨g', 0, none⟩) 1 1) wB).mono ?_
    rintro e wq ⟨rfl, hbq⟩
    obtain ⟨⟨hf0, hf1, hf2⟩, hc0, hc1, hc2⟩ := (H1.out.1.next hbq).facts
    obtain ⟨_, hg0, hg1', hg2'⟩ := (H1.out.2.1.next hbq).facts
    have HQ := Lib.hid (And.intro (H1.out.2.2.1.trans (hbq.mono H1.out.2.2.1.size)) (H1.out.2.2.2.next hbq))
    clear hbq hk0 hk1 hk2
    have hne : w1.heap.size ≠ w.heap.size + 1 := by omega
    go_wp2_with fail
    go_region
    go_wp2_with fail
    refine bodyPost_ret (v := .tuple #[.int .i64 0, .agg #[.int .i64 1, .slice (some ⟨g, 0, none⟩) 1 1, .slice (some ⟨g', 0, none⟩) 1 1]]) (by simp [results, Tryd.results23, go_sem, hc0, hc1, hc2]) rfl ⟨_, rfl, g, g', rfl, ⟨by omega, by omega⟩, ?_, ?_⟩
    · exact (HQ.out.2.put3 (by omega) (by omega) _ _ _).next (Below.refl _ _).drew
    · exact (put3_below HQ.out.1 (Nat.le_succ _) _ _ _).drew
  · rename_i hcr
    obtain ⟨K, R, rfl, rfl, ho⟩ := chkR_none hcr
    have h3 := ho.r3
    obtain ⟨R2, hR2⟩ : ∃ R2 : Nat, 2 * R + 1 = R2 := ⟨_, rfl⟩
    have w2r : IntKind.i64.wrap (2 * (R : Int)) = 2 * (R : Int) := by rw [IntWalk.i64_in _ (by omega)]
    split at hc
    · obtain ⟨rfl, rfl⟩ := Prod.mk.inj (Option.some.inj hc)
      rename_i hne
      have wR2 : IntKind.i64.wrap (2 * (R : Int) + 1) = (R2 : Int) := by rw [IntWalk.i64_in _ (by omega)]; omega
      have hne' : ((m : Int) == (R2 : Int)) = false := by rw [beq_eq_false_iff_ne]; omega
      have hne2 : ((m : Int) != (R2 : Int)) = true := by rw [bne, hne']; rfl
      have H := Lib.hid (And.intro h (And.intro hn (And.intro ho True.intro)))
      clear h hn ho hc hm hl hcr hne hR2
      go_enter Tryd.func23, Tryd.ntmps23
      go_upto_region 1 with fail
      obtain ⟨w0, hw0⟩ : ∃ w0, w0 = (w.alloc (.cells #[.int .i64 (K : Int), .int .i64 (R : Int), .slice p n c] 24)).alloc (.cells #[.int .i64 0, .slice none 0 0, .slice none 0 0] 33) := ⟨_, rfl⟩
      obtain ⟨hb0, hR0, hE0⟩ := start_both w _ _ _ w0 hw0
      rw [← hw0]
      have hszb : (w.alloc (.cells #[.int .i64 (K : Int), .int .i64 (R : Int), .slice p n c] 24)).heap.size = w.heap.size + 1 := by simp
      obtain ⟨_, hr0, hr1, hr2⟩ := hR0.facts
      have HE := Lib.hid (And.intro hR0 (And.intro hE0 hb0))
      clear hw0 hR0 hE0 hb0
      go_wp2_with fail
      have hck : Calls Tryd.prog 15 #[.agg #[.int .i64 (K : Int), .int .i64 (R : Int), .slice p n c]] w0 (Tells (.agg #[.int .i64 0, .slice none 0 0, .slice none 0 0]) w0) := rcheck_ref_ok K R p n c t w0 H.out.2.1 (H.out.1.next HE.out.2.2) H.out.2.2.1
      refine hck.mono ?_
      clear hck
      rintro e w1 ⟨rfl, hb1⟩
      obtain ⟨wB, hwB⟩ : ∃ x, x = w1.alloc (.cells #[.int .i64 0, .slice none 0 0, .slice none 0 0] 33) := ⟨_, rfl⟩
      have hbB : Below w1.heap.size w1 wB := by rw [hwB]; exact (Below.refl _ _).alloc (Nat.le_refl _) _
      have hEB : Err3 wB w1.heap.size (.int .i64 0) (.slice none 0 0) (.slice none 0 0) := by rw [hwB]; exact ⟨heap_newN w1 _⟩
      have hRB := (HE.out.1.next hb1).next hbB
      have hE1 := (HE.out.2.1.next hb1).next hbB
      have hbw : Below w.heap.size w wB := (HE.out.2.2.trans (hb1.mono HE.out.2.2.size)).trans (hbB.mono (Nat.le_trans HE.out.2.2.size hb1.size))
      clear hr0 hr1 hr2
      obtain ⟨_, hk0, hk1, hk2⟩ := hEB.facts
      have H1 := Lib.hid (And.intro hRB (And.intro hE1 hbw))
      clear hb1 hbB hEB hE1 hbw hRB
      go_upto_region 2 with fail
      rw [← hwB]
      clear hwB
      go_wp2_with fail
      refine (bad_no (.slice none 0 0) (.slice none 0 0) wB).mono ?_
      rintro e wq ⟨rfl, hbq⟩
      have hRq := H1.out.1.next hbq
      have hEq := H1.out.2.1.next hbq
      clear hk0 hk1 hk2
      obtain ⟨_, hr0, hr1, hr2⟩ := hRq.facts
      have HQ := Lib.hid (And.intro hEq (And.intro (H1.out.2.2.trans (hbq.mono H1.out.2.2.size)) hRq))
      clear hbq hRq hEq
      go_wp2_with fail
      refine (raw_fresh ruleOp 0 3 wq).mono ?_
      rintro e w2 ⟨g, g', rfl, hg, hcg, hcg', hb2⟩
      obtain ⟨⟨hf0, hf1, hf2⟩, hc0, hc1, hc2⟩ := (HQ.out.1.next hb2).facts
      have HB := Lib.hid (RefErrR.laid (k := 3) HQ.out.2.1 (Nat.le_succ _) HQ.out.1.lt hg hcg hcg' hb2)
      clear hb2 hcg hcg' hg
      go_wp2_with fail
      refine bodyPost_ret (v := .tuple #[.int .i64 0, .agg #[.int .i64 3, .slice (some ⟨g, 0, none⟩) 1 1, .slice (some ⟨g', 0, none⟩) 1 1]]) (by simp [results, Tryd.results23, go_sem, hc0, hc1, hc2]) rfl ⟨_, rfl, ?_⟩
      exact HB.out _ _ _
    · rename_i hne
      obtain ⟨j, hj, he⟩ := Option.map_eq_some_iff.1 hc
      obtain ⟨rfl, rfl⟩ := Prod.mk.inj he
      have hbn := badN_bad hj
      have wR2 : IntKind.i64.wrap (2 * (R : Int) + 1) = (m : Int) := by rw [IntWalk.i64_in _ (by omega)]; omega
      have H := Lib.hid (And.intro h (And.intro hn (And.intro ho (And.intro hl (And.intro hm hbn)))))
      clear h hn ho hc hm hl hcr hne hj he hbn hR2
      go_enter Tryd.func23, Tryd.ntmps23
      go_upto_region 1 with fail
      obtain ⟨w0, hw0⟩ : ∃ w0, w0 = (w.alloc (.cells #[.int .i64 (K : Int), .int .i64 (R : Int), .slice p n c] 24)).alloc (.cells #[.int .i64 0, .slice none 0 0, .slice none 0 0] 33) := ⟨_, rfl⟩
      obtain ⟨hb0, hR0, hE0⟩ := start_both w _ _ _ w0 hw0
      rw [← hw0]
      have hszb : (w.alloc (.cells #[.int .i64 (K : Int), .int .i64 (R : Int), .slice p n c] 24)).heap.size = w.heap.size + 1 := by simp
      obtain ⟨_, hr0, hr1, hr2⟩ := hR0.facts
      have HE := Lib.hid (And.intro hR0 (And.intro hE0 hb0))
      clear hw0 hR0 hE0 hb0
      go_wp2_with fail
      have hck : Calls Tryd.prog 15 #[.agg #[.int .i64 (K : Int), .int .i64 (R : Int), .slice p n c]] w0 (Tells (.agg #[.int .i64 0, .slice none 0 0, .slice none 0 0]) w0) := rcheck_ref_ok K R p n c t w0 H.out.2.1 (H.out.1.next HE.out.2.2) H.out.2.2.1
      refine hck.mono ?_
      clear hck
      rintro e w1 ⟨rfl, hb1⟩
      obtain ⟨wB, hwB⟩ : ∃ x, x = w1.alloc (.cells #[.int .i64 0, .slice none 0 0, .slice none 0 0] 33) := ⟨_, rfl⟩
      have hbB : Below w1.heap.size w1 wB := by rw [hwB]; exact (Below.refl _ _).alloc (Nat.le_refl _) _
      have hEB : Err3 wB w1.heap.size (.int .i64 0) (.slice none 0 0) (.slice none 0 0) := by rw [hwB]; exact ⟨heap_newN w1 _⟩
      have hRB := (HE.out.1.next hb1).next hbB
      have hE1 := (HE.out.2.1.next hb1).next hbB
      have hbw : Below w.heap.size w wB := (HE.out.2.2.trans (hb1.mono HE.out.2.2.size)).trans (hbB.mono (Nat.le_trans HE.out.2.2.size hb1.size))
      clear hr0 hr1 hr2
      obtain ⟨_, hk0, hk1, hk2⟩ := hEB.facts
      have H1 := Lib.hid (And.intro hRB (And.intro hE1 hbw))
      clear hb1 hbB hEB hE1 hbw hRB
      go_upto_region 2 with fail
      rw [← hwB]
      clear hwB
      go_wp2_with fail
      refine (bad_no (.slice none 0 0) (.slice none 0 0) wB).mono ?_
      rintro e wq ⟨rfl, hbq⟩
      have hRq := H1.out.1.next hbq
      have hEq := H1.out.2.1.next hbq
      clear hk0 hk1 hk2
      obtain ⟨_, hr0, hr1, hr2⟩ := hRq.facts
      have HQ := Lib.hid (And.intro hEq (And.intro (H1.out.2.2.trans (hbq.mono H1.out.2.2.size)) hRq))
      clear hbq hRq hEq
      go_wp2_with fail
      refine (bad_ref (K : Int) q m d l wq H.out.2.2.2.2.1 (H.out.2.2.2.1.next HQ.out.2.1)).mono ?_
      rintro e w3 ⟨rfl, rfl⟩
      rw [H.out.2.2.2.2.2]
      go_wp2_with fail
      refine (raw_fresh ruleOp j 2 wq).mono ?_
      rintro e w2 ⟨g, g', rfl, hg, hcg, hcg', hb2⟩
      obtain ⟨⟨hf0, hf1, hf2⟩, hc0, hc1, hc2⟩ := (HQ.out.1.next hb2).facts
      have HB := Lib.hid (RefErrR.laid (k := 2) HQ.out.2.1 (Nat.le_succ _) HQ.out.1.lt hg hcg hcg' hb2)
      clear hb2 hcg hcg' hg
      go_wp2_with fail
      refine bodyPost_ret (v := .tuple #[.int .i64 0, .agg #[.int .i64 2, .slice (some ⟨g, 0, none⟩) 1 1, .slice (some ⟨g', 0, none⟩) 1 1]]) (by simp [results, Tryd.results23, go_sem, hc0, hc1, hc2]) rfl ⟨_, rfl, ?_⟩
      exact HB.out _ _ _
end Go.Proofs.YthafjbegkifekaaDoor
