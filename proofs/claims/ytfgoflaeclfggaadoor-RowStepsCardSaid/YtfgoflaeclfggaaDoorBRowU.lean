/- The document's own package of rows by its contracts: Same, Image, Step. -/
import Derived.Test.YtfgoflaeclfggaaDoorBRowT
import Derived.Test.YtfgoflaeclfggaaDoorB5
namespace Go.Proofs.YtfgoflaeclfggaaDoor
open Go.RowKit Go.Extern.Stop Go.Stop Go.Extern WordM RuleM NatM
attribute [local go_sem ↓] Go.wp_at_zero Go.wp_at_succ

theorem put3_sameE {w : World} {h : Nat} {a b c : Value} (k : Err3 w h a b c) : put3 w h a b c = w := by
  unfold put3
  rw [setCell_same k.heap rfl, setCell_same k.heap rfl, setCell_same k.heap rfl]
theorem Err3.put {w : World} {h : Nat} {a b c : Value} (k : Err3 w h a b c) (x y z : Value) : Err3 (put3 w h x y z) h x y z := ⟨by
  unfold put3
  rw [heap_setCell_same _ h 2 _ _ _ (heap_setCell_same _ h 1 _ _ _ (heap_setCell_same _ h 0 _ _ _ k.heap))]
  rfl⟩
theorem put3_heap {w : World} {g h : Nat} (hne : g ≠ h) (x y z : Value) : (put3 w h x y z).heap[g]? = w.heap[g]? := by
  unfold put3
  exact ((Below.heap_setCell _ ⟨h, 2, none⟩ z g hne).trans (Below.heap_setCell _ ⟨h, 1, none⟩ y g hne)).trans (Below.heap_setCell w ⟨h, 0, none⟩ x g hne)
theorem Err3.putOther {w : World} {g h : Nat} {a b c : Value} (k : Err3 w g a b c) (hne : g ≠ h) (x y z : Value) : Err3 (put3 w h x y z) g a b c := ⟨(put3_heap hne x y z).trans k.heap⟩
theorem Row4.put3Other {w : World} {g h : Nat} {a b c d : Value} (k : Row4 w g a b c d) (hne : g ≠ h) (x y z : Value) : Row4 (put3 w h x y z) g a b c d := ⟨(put3_heap hne x y z).trans k.heap⟩
theorem Rul3.put3Other {w : World} {g h : Nat} {a b c : Value} (k : Rul3 w g a b c) (hne : g ≠ h) (x y z : Value) : Rul3 (put3 w h x y z) g a b c := ⟨(put3_heap hne x y z).trans k.heap⟩
theorem rows_err (w : World) (a b c d a' b' c' d' : Value) (w0 : World) (hw0 : w0 = ((w.alloc (.cells #[a, b, c, d] 24)).alloc (.cells #[a', b', c', d'] 24)).alloc (.cells #[.int .i64 0, .slice none 0 0, .slice none 0 0] 33)) :
    Below w.heap.size w w0 ∧ Row4 w0 w.heap.size a b c d ∧ Row4 w0 (w.heap.size + 1) a' b' c' d' ∧ Err3 w0 (w.heap.size + 1 + 1) (.int .i64 0) (.slice none 0 0) (.slice none 0 0) := by
  obtain ⟨h1, h2, h3⟩ := two_rows w a b c d a' b' c' d' _ rfl
  obtain ⟨h4, h5⟩ := box_err ((w.alloc (.cells #[a, b, c, d] 24)).alloc (.cells #[a', b', c', d'] 24)) (.int .i64 0) (.slice none 0 0) (.slice none 0 0) w0 hw0
  have hs : ((w.alloc (.cells #[a, b, c, d] 24)).alloc (.cells #[a', b', c', d'] 24)).heap.size = w.heap.size + 1 + 1 := by simp
  rw [hs] at h5
  exact ⟨h1.trans (h4.mono h1.size), h2.next h4, h3.next h4, h5⟩
set_option maxRecDepth 100000 in
set_option maxHeartbeats 16000000 in
theorem same_ref_bad (k : Int) (a a' : Int) (p q s p' q' s' : Option Addr) (n c m d u e n' c' m' d' u' e' : Nat) (L C R L' C' R' : List Int) (w : World) (h : RowV w p q s n c m d u e L C R) (h' : RowV w p' q' s' n' c' m' d' u' e' L' C' R') (hn : n ≤ 17592186043904) (hm : m ≤ 17592186043904) (hu : u ≤ 17592186043904) (hn' : n' ≤ 17592186043904) (hm' : m' ≤ 17592186043904) (hu' : u' ≤ 17592186043904) (y : Nat × Nat) (hc : chkE k a L C R a' L' C' R' = some y) :
    Calls Tryd.prog 21 #[.int .i64 k, .agg #[.int .i64 a, .slice p n c, .slice q m d, .slice s u e], .agg #[.int .i64 a', .slice p' n' c', .slice q' m' d', .slice s' u' e']] w (RefT w (errR (some y)) (.bool false)) := by
  obtain ⟨b, j⟩ := y
  have hj := chkE_num _ hc
  simp only at hj
  unfold chkE at hc
  cases hk : chkRw k a L C R with
  | some z =>
    rw [hk] at hc
    obtain rfl := Option.some.inj hc
    have HC := Lib.hid (fun W h => chk_call k a b j p q s n c m d u e L C R W h hn hm hu hk)
    have H := Lib.hid h
    clear h h' hn hm hu hn' hm' hu' hc hk
    go_enter Tryd.func21, Tryd.ntmps21
    go_upto_region 1 with fail
    obtain ⟨w0, hw0⟩ : ∃ w0, w0 = ((w.alloc (.cells #[.int .i64 a, .slice p n c, .slice q m d, .slice s u e] 24)).alloc (.cells #[.int .i64 a', .slice p' n' c', .slice q' m' d', .slice s' u' e'] 24)).alloc (.cells #[.int .i64 0, .slice none 0 0, .slice none 0 0] 33) := ⟨_, rfl⟩
    rw [← hw0]
    obtain ⟨hb0, hE0, hG0, hF0⟩ := rows_err w _ _ _ _ _ _ _ _ w0 hw0
    have HE := Lib.hid (And.intro hE0 (And.intro hG0 (And.intro hF0 hb0)))
    obtain ⟨hr0, hr1, hr2, hr3⟩ := hE0.facts
    clear hw0 hE0 hF0 hG0 hb0
    go_wp2_with fail
    refine (HC.out w0 (H.out.next HE.out.2.2.2)).mono ?_
    rintro e' w1 ⟨go, ga, co, ca, rfl, hgo, hga, hwv, hb1⟩
    go_upto_region 2 with fail
    obtain ⟨wB, hwB⟩ : ∃ x, x = w1.alloc (.cells #[.int .i64 (j : Int), .slice (some ⟨go, 0, none⟩) 1 co, .slice (some ⟨ga, 0, none⟩) 1 ca] 33) := ⟨_, rfl⟩
    rw [← hwB]
    obtain ⟨hbB, hEB⟩ := box_err w1 _ _ _ wB hwB
    obtain ⟨g8, hg8⟩ : ∃ x, w1.heap.size = x := ⟨_, rfl⟩
    rw [hg8] at hEB ⊢
    have h0B := hb1.trans (hbB.mono hb1.size)
    have hlt0 := HE.out.2.2.1.lt
    have hs1 := hb1.size
    have H1 := Lib.hid (And.intro (HE.out.2.2.1.next h0B) (And.intro hEB (And.intro (hwv.below hbB) (And.intro (HE.out.2.2.2.trans (h0B.mono HE.out.2.2.2.size)) (show g8 ≠ w.heap.size + 1 + 1 ∧ go ≠ w.heap.size + 1 + 1 ∧ ga ≠ w.heap.size + 1 + 1 from ⟨by omega, by omega, by omega⟩)))))
    obtain ⟨_, hk0, hk1, hk2⟩ := hEB.facts
    clear hwB hbB hEB hg8 h0B hlt0 hs1 hb1 hgo hga hwv hr0 hr1 hr2 hr3
    go_wp2_with fail
    refine (badG_yes (j : Int) (by omega) _ _ wB).mono ?_
    rintro e' wC ⟨rfl, hbC⟩
    have H2 := Lib.hid (And.intro (H1.out.1.next hbC) (And.intro (H1.out.2.1.next hbC) (And.intro (H1.out.2.2.1.below hbC) (And.intro (H1.out.2.2.2.1.trans (hbC.mono H1.out.2.2.2.1.size)) H1.out.2.2.2.2))))
    clear hbC hk0 hk1 hk2
    obtain ⟨_, hk0, hk1, hk2⟩ := H2.out.2.1.facts
    go_wp2_with fail
    refine (badG_yes (j : Int) (by omega) _ _ wC).mono ?_
    rintro e' wq ⟨rfl, hbq⟩
    obtain ⟨⟨hf0, hf1, hf2⟩, hc0, hc1, hc2⟩ := (H2.out.1.next hbq).facts
    obtain ⟨_, hg0, hg1, hg2⟩ := (H2.out.2.1.next hbq).facts
    have hne := H2.out.2.2.2.2.1
    have HQ := Lib.hid (And.intro (H2.out.2.2.1.below hbq) (H2.out.2.2.2.1.trans (hbq.mono H2.out.2.2.2.1.size)))
    clear hbq hk0 hk1 hk2
    go_wp2_with fail
    go_region
    go_wp2_with fail
    refine bodyPost_ret (v := .tuple #[.bool false, .agg #[.int .i64 (j : Int), .slice (some ⟨go, 0, none⟩) 1 co, .slice (some ⟨ga, 0, none⟩) 1 ca]]) (by simp [results, Tryd.results21, go_sem, hc0, hc1, hc2]) rfl ⟨_, _, _, _, _, _, rfl, ?_, ?_⟩
    · exact ⟨rfl, rfl, (wantV_put3g HQ.out.1 H2.out.2.2.2.2.2.1 H2.out.2.2.2.2.2.2 _ _ _).below (Below.refl _ _).drew⟩
    · exact (put3_below HQ.out.2 (Nat.le_trans (Nat.le_succ _) (Nat.le_succ _)) _ _ _).drew
  | none =>
    rw [hk] at hc
    simp only at hc
    obtain ⟨K, rfl, hw⟩ := chkRw_none hk
    have HC := Lib.hid (And.intro (fun W h => rchk_ref_ok K a p q s n c m d u e L C R W h hw) (fun W h => chk_call K a' b j p' q' s' n' c' m' d' u' e' L' C' R' W h hn' hm' hu' hc))
    have H := Lib.hid (And.intro h h')
    clear h h' hn hm hu hn' hm' hu' hc hk hw
    go_enter Tryd.func21, Tryd.ntmps21
    go_upto_region 1 with fail
    obtain ⟨w0, hw0⟩ : ∃ w0, w0 = ((w.alloc (.cells #[.int .i64 a, .slice p n c, .slice q m d, .slice s u e] 24)).alloc (.cells #[.int .i64 a', .slice p' n' c', .slice q' m' d', .slice s' u' e'] 24)).alloc (.cells #[.int .i64 0, .slice none 0 0, .slice none 0 0] 33) := ⟨_, rfl⟩
    rw [← hw0]
    obtain ⟨hb0, hE0, hG0, hF0⟩ := rows_err w _ _ _ _ _ _ _ _ w0 hw0
    have HE := Lib.hid (And.intro hE0 (And.intro hG0 (And.intro hF0 hb0)))
    obtain ⟨hr0, hr1, hr2, hr3⟩ := hE0.facts
    clear hw0 hE0 hF0 hG0 hb0
    go_wp2_with fail
    refine (HC.out.1 w0 (H.out.1.next HE.out.2.2.2)).mono ?_
    rintro e' w1 ⟨rfl, hb1⟩
    go_upto_region 2 with fail
    obtain ⟨wB, hwB⟩ : ∃ x, x = w1.alloc (.cells #[.int .i64 0, .slice none 0 0, .slice none 0 0] 33) := ⟨_, rfl⟩
    rw [← hwB]
    obtain ⟨hbB, hEB⟩ := box_err w1 _ _ _ wB hwB
    obtain ⟨g8, hg8⟩ : ∃ x, w1.heap.size = x := ⟨_, rfl⟩
    rw [hg8] at hEB ⊢
    have h0B := hb1.trans (hbB.mono hb1.size)
    have hlt0 := HE.out.2.2.1.lt
    have hs1 := hb1.size
    have H1 := Lib.hid (And.intro (HE.out.1.next h0B) (And.intro (HE.out.2.1.next h0B) (And.intro (HE.out.2.2.1.next h0B) (And.intro hEB (And.intro (HE.out.2.2.2.trans (h0B.mono HE.out.2.2.2.size)) (show w.heap.size + 1 + 1 ≠ g8 ∧ w.heap.size ≤ g8 from ⟨by omega, by have := HE.out.2.2.2.size; omega⟩))))))
    obtain ⟨_, hk0, hk1, hk2⟩ := hEB.facts
    clear hwB hbB hEB hg8 h0B hlt0 hs1 hb1 hr0 hr1 hr2 hr3
    go_wp2_with fail
    refine (badG_no _ _ wB).mono ?_
    rintro e' wC ⟨rfl, hbC⟩
    have H2 := Lib.hid (And.intro (H1.out.1.next hbC) (And.intro (H1.out.2.1.next hbC) (And.intro (H1.out.2.2.1.next hbC) (And.intro (H1.out.2.2.2.1.next hbC) (And.intro (H1.out.2.2.2.2.1.trans (hbC.mono H1.out.2.2.2.2.1.size)) H1.out.2.2.2.2.2)))))
    clear hbC hk0 hk1 hk2
    obtain ⟨hr0, hr1, hr2, hr3⟩ := H2.out.2.1.facts
    go_wp2_with fail
    refine (HC.out.2 wC (H.out.2.next H2.out.2.2.2.2.1)).mono ?_
    rintro e' w2 ⟨go, ga, co, ca, rfl, hgo, hga, hwv, hb2⟩
    obtain ⟨⟨hf0, hf1, hf2⟩, hk0, hk1, hk2⟩ := (H2.out.2.2.2.1.next hb2).facts
    have hlt8 := H2.out.2.2.2.1.lt
    have hlt0 := H2.out.2.2.1.lt
    have H3 := Lib.hid (And.intro (H2.out.2.2.1.next hb2) (And.intro (H2.out.2.2.2.1.next hb2) (And.intro hwv (And.intro (H2.out.2.2.2.2.1.trans (hb2.mono H2.out.2.2.2.2.1.size)) (show (go ≠ g8 ∧ ga ≠ g8) ∧ go ≠ w.heap.size + 1 + 1 ∧ ga ≠ w.heap.size + 1 + 1 from ⟨⟨by omega, by omega⟩, by omega, by omega⟩)))))
    clear hb2 hgo hga hwv hlt8 hlt0 hr0 hr1 hr2 hr3
    go_upto_region 4 with fail
    obtain ⟨wS, hwS⟩ : ∃ x, x = put3 w2 g8 (.int .i64 (j : Int)) (.slice (some ⟨go, 0, none⟩) 1 co) (.slice (some ⟨ga, 0, none⟩) 1 ca) := ⟨_, rfl⟩
    have H4 := Lib.hid (show Err3 wS (w.heap.size + 1 + 1) (.int .i64 0) (.slice none 0 0) (.slice none 0 0) ∧ Err3 wS g8 (.int .i64 (j : Int)) (.slice (some ⟨go, 0, none⟩) 1 co) (.slice (some ⟨ga, 0, none⟩) 1 ca) ∧ WantV wS (some ⟨go, 0, none⟩) (some ⟨ga, 0, none⟩) co ca [(rowOp, (b : Int))] ∧ Below w.heap.size w wS ∧ (g8 ≠ w.heap.size + 1 + 1 ∧ go ≠ w.heap.size + 1 + 1 ∧ ga ≠ w.heap.size + 1 + 1) from by
      rw [hwS]
      exact ⟨H3.out.1.putOther H2.out.2.2.2.2.2.1 _ _ _, H3.out.2.1.put _ _ _, wantV_put3g H3.out.2.2.1 H3.out.2.2.2.2.1.1 H3.out.2.2.2.2.1.2 _ _ _, put3_below H3.out.2.2.2.1 H2.out.2.2.2.2.2.2 _ _ _, fun e => H2.out.2.2.2.2.2.1 e.symm, H3.out.2.2.2.2.2⟩)
    unfold put3 at hwS
    rw [← hwS]
    clear hwS hf0 hf1 hf2 hk0 hk1 hk2
    obtain ⟨_, hk0, hk1, hk2⟩ := H4.out.2.1.facts
    go_wp2_with fail
    refine (badG_yes (j : Int) (by omega) _ _ wS).mono ?_
    rintro e' wq ⟨rfl, hbq⟩
    obtain ⟨⟨hf0, hf1, hf2⟩, hc0, hc1, hc2⟩ := (H4.out.1.next hbq).facts
    obtain ⟨_, hg0, hg1, hg2⟩ := (H4.out.2.1.next hbq).facts
    have hne := H4.out.2.2.2.2.1
    have HQ := Lib.hid (And.intro (H4.out.2.2.1.below hbq) (H4.out.2.2.2.1.trans (hbq.mono H4.out.2.2.2.1.size)))
    clear hbq hk0 hk1 hk2
    go_wp2_with fail
    go_region
    go_wp2_with fail
    refine bodyPost_ret (v := .tuple #[.bool false, .agg #[.int .i64 (j : Int), .slice (some ⟨go, 0, none⟩) 1 co, .slice (some ⟨ga, 0, none⟩) 1 ca]]) (by simp [results, Tryd.results21, go_sem, hc0, hc1, hc2]) rfl ⟨_, _, _, _, _, _, rfl, ?_, ?_⟩
    · exact ⟨rfl, rfl, (wantV_put3g HQ.out.1 H4.out.2.2.2.2.2.1 H4.out.2.2.2.2.2.2 _ _ _).below (Below.refl _ _).drew⟩
    · exact (put3_below HQ.out.2 (Nat.le_trans (Nat.le_succ _) (Nat.le_succ _)) _ _ _).drew
set_option maxRecDepth 100000 in
set_option maxHeartbeats 16000000 in
theorem same_ref_ok (k : Nat) (a a' : Int) (p q s p' q' s' : Option Addr) (n c m d u e n' c' m' d' u' e' : Nat) (L C R L' C' R' : List Int) (w : World) (h : RowV w p q s n c m d u e L C R) (h' : RowV w p' q' s' n' c' m' d' u' e' L' C' R') (hw : OkRw k a L C R) (hw' : OkRw k a' L' C' R') (B : Bool) (hB : B = true ↔ OneR a L C R a' L' C' R') :
    Calls Tryd.prog 21 #[.int .i64 (k : Int), .agg #[.int .i64 a, .slice p n c, .slice q m d, .slice s u e], .agg #[.int .i64 a', .slice p' n' c', .slice q' m' d', .slice s' u' e']] w (RefT w none (.bool B)) := by
  have HC := Lib.hid (And.intro (fun W h => rchk_ref_ok k a p q s n c m d u e L C R W h hw) (And.intro (fun W h => rchk_ref_ok k a' p' q' s' n' c' m' d' u' e' L' C' R' W h hw') (fun W h h' => equal_ref k a a' p q s p' q' s' n c m d u e n' c' m' d' u' e' L C R L' C' R' W h h' hw hw' B hB)))
  have H := Lib.hid (And.intro h h')
  clear h h' hw hw' hB
  go_enter Tryd.func21, Tryd.ntmps21
  go_upto_region 1 with fail
  obtain ⟨w0, hw0⟩ : ∃ w0, w0 = ((w.alloc (.cells #[.int .i64 a, .slice p n c, .slice q m d, .slice s u e] 24)).alloc (.cells #[.int .i64 a', .slice p' n' c', .slice q' m' d', .slice s' u' e'] 24)).alloc (.cells #[.int .i64 0, .slice none 0 0, .slice none 0 0] 33) := ⟨_, rfl⟩
  rw [← hw0]
  obtain ⟨hb0, hE0, hG0, hF0⟩ := rows_err w _ _ _ _ _ _ _ _ w0 hw0
  have HE := Lib.hid (And.intro hE0 (And.intro hG0 (And.intro hF0 hb0)))
  obtain ⟨hr0, hr1, hr2, hr3⟩ := hE0.facts
  clear hw0 hE0 hF0 hG0 hb0
  go_wp2_with fail
  refine (HC.out.1 w0 (H.out.1.next HE.out.2.2.2)).mono ?_
  rintro e' w1 ⟨rfl, hb1⟩
  go_upto_region 2 with fail
  obtain ⟨wB, hwB⟩ : ∃ x, x = w1.alloc (.cells #[.int .i64 0, .slice none 0 0, .slice none 0 0] 33) := ⟨_, rfl⟩
  rw [← hwB]
  obtain ⟨hbB, hEB⟩ := box_err w1 _ _ _ wB hwB
  obtain ⟨g8, hg8⟩ : ∃ x, w1.heap.size = x := ⟨_, rfl⟩
  rw [hg8] at hEB ⊢
  have h0B := hb1.trans (hbB.mono hb1.size)
  have hlt0 := HE.out.2.2.1.lt
  have hs1 := hb1.size
  have H1 := Lib.hid (And.intro (HE.out.1.next h0B) (And.intro (HE.out.2.1.next h0B) (And.intro (HE.out.2.2.1.next h0B) (And.intro hEB (And.intro (HE.out.2.2.2.trans (h0B.mono HE.out.2.2.2.size)) (show w.heap.size + 1 + 1 ≠ g8 ∧ w.heap.size ≤ g8 from ⟨by omega, by have := HE.out.2.2.2.size; omega⟩))))))
  obtain ⟨_, hk0, hk1, hk2⟩ := hEB.facts
  clear hwB hbB hEB hg8 h0B hlt0 hs1 hb1 hr0 hr1 hr2 hr3
  go_wp2_with fail
  refine (badG_no _ _ wB).mono ?_
  rintro e' wC ⟨rfl, hbC⟩
  have H2 := Lib.hid (And.intro (H1.out.1.next hbC) (And.intro (H1.out.2.1.next hbC) (And.intro (H1.out.2.2.1.next hbC) (And.intro (H1.out.2.2.2.1.next hbC) (And.intro (H1.out.2.2.2.2.1.trans (hbC.mono H1.out.2.2.2.2.1.size)) H1.out.2.2.2.2.2)))))
  clear hbC hk0 hk1 hk2
  obtain ⟨hr0, hr1, hr2, hr3⟩ := H2.out.2.1.facts
  go_wp2_with fail
  refine (HC.out.2.1 wC (H.out.2.next H2.out.2.2.2.2.1)).mono ?_
  rintro e' w2 ⟨rfl, hb2⟩
  obtain ⟨⟨hf0, hf1, hf2⟩, hk0, hk1, hk2⟩ := (H2.out.2.2.2.1.next hb2).facts
  have hps := put3_sameE (H2.out.2.2.2.1.next hb2)
  unfold put3 at hps
  have H3 := Lib.hid (And.intro (H2.out.1.next hb2) (And.intro (H2.out.2.1.next hb2) (And.intro (H2.out.2.2.1.next hb2) (H2.out.2.2.2.2.1.trans (hb2.mono H2.out.2.2.2.2.1.size)))))
  clear hb2 hr0 hr1 hr2 hr3
  go_upto_region 4 with fail
  (try rw [hps])
  clear hps hf0 hf1 hf2
  go_wp2_with fail
  refine (badG_no _ _ w2).mono ?_
  rintro e' w3 ⟨rfl, hb3⟩
  have H4 := Lib.hid (And.intro (H3.out.1.next hb3) (And.intro (H3.out.2.1.next hb3) (And.intro (H3.out.2.2.1.next hb3) (H3.out.2.2.2.trans (hb3.mono H3.out.2.2.2.size)))))
  clear hb3 hk0 hk1 hk2
  obtain ⟨hr0, hr1, hr2, hr3⟩ := H4.out.1.facts
  obtain ⟨hs0, hs1, hs2, hs3⟩ := H4.out.2.1.facts
  go_wp2_with fail
  refine (HC.out.2.2 w3 (H.out.1.next H4.out.2.2.2) (H.out.2.next H4.out.2.2.2)).mono ?_
  rintro e' w4 ⟨rfl, hb4⟩
  obtain ⟨⟨hf0, hf1, hf2⟩, hc0, hc1, hc2⟩ := (H4.out.2.2.1.next hb4).facts
  have HW := Lib.hid (H4.out.2.2.2.trans (hb4.mono H4.out.2.2.2.size))
  clear hb4 hr0 hr1 hr2 hr3 hs0 hs1 hs2 hs3
  go_wp2_with fail
  refine bodyPost_ret (v := .tuple #[.bool B, .agg #[.int .i64 0, .slice none 0 0, .slice none 0 0]]) (by simp [results, Tryd.results21, go_sem, hc0, hc1, hc2]) rfl ⟨_, _, _, _, _, _, rfl, ⟨rfl, rfl, rfl, rfl, rfl, rfl⟩, put3_below HW.out (Nat.le_trans (Nat.le_succ _) (Nat.le_succ _)) _ _ _⟩
end Go.Proofs.YtfgoflaeclfggaaDoor
