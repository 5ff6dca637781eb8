/- The document's own package of rings by its contracts, fourth part: steps, Step. -/
import Derived.Test.YtgdjnohhofbcnaaDoorBRgK
import Derived.Test.YtgdjnohhofbcnaaDoorB3
namespace Go.Proofs.YtgdjnohhofbcnaaDoor
open Go.RowKit Go.Extern.Stop Go.Stop Go.Extern WordM RuleM NatM

/-- the error, behind no list -/
def GUnd (w : World) (a : Int) (L : List (ByteArray × Int)) (e : Ending) (w' : World) : Prop :=
  ∃ go ga co ca, e = .returned (.tuple #[.slice none 0 0, .agg #[.int .i64 a, .slice (some ⟨go, 0, none⟩) L.length co, .slice (some ⟨ga, 0, none⟩) L.length ca]]) ∧ WantV w' (some ⟨go, 0, none⟩) (some ⟨ga, 0, none⟩) co ca L ∧ Below w.heap.size w w'
set_option maxRecDepth 100000 in
set_option maxHeartbeats 8000000 in
theorem gstep_ref_ok (K R : Nat) (p q : Option Addr) (n c m d : Nat) (t l : List Int) (w : World) (hn : n = t.length) (hm : m = l.length) (h : IntV w.heap.size w p c t) (h' : IntV w.heap.size w q d l) (ho : OkR K R t) (h0 : 0 < l.length) (h4 : l.length ≤ 4096) (hw : okW K l) :
    Calls Tryd.prog 13 #[.agg #[.int .i64 (K : Int), .int .i64 (R : Int), .slice p n c], .slice q m d] w (GRefOk w (ringW K R t l)) := by
  have ST := Lib.hid (two_boxesG w (.int .i64 (K : Int)) (.int .i64 (R : Int)) (.slice p n c) (.int .i64 0) (.slice none 0 0) (.slice none 0 0))
  have hm0 : 0 < m := by omega
  have hm4 : m ≤ 4096 := by omega
  have H := Lib.hid (And.intro hn (And.intro hm (And.intro h (And.intro h' (And.intro ho (And.intro h0 (And.intro h4 hw)))))))
  clear hn hm h h' ho h0 h4 hw
  go_enter Tryd.func13, Tryd.ntmps13
  go_upto_region 1 with fail
  obtain ⟨w0, hw0⟩ : ∃ w0, w0 = (w.alloc (.cells #[.int .i64 (K : Int), .int .i64 (R : Int), .slice p n c] 24)).alloc (.cells #[.int .i64 0, .slice none 0 0, .slice none 0 0] 34) := ⟨_, rfl⟩
  rw [← hw0]
  obtain ⟨hb0, hR0, hE0⟩ := ST.out w0 hw0
  have hszb : (w.alloc (.cells #[.int .i64 (K : Int), .int .i64 (R : Int), .slice p n c] 24)).heap.size = w.heap.size + 1 := by simp
  obtain ⟨_, hr0, hr1, hr2⟩ := hR0.facts
  have HE := Lib.hid (And.intro hR0 (And.intro hE0 hb0))
  clear hw0 hR0 hE0 hb0
  go_wp2_with fail
  refine (gfault_ref_ok K R p q n c m d t l w0 H.out.1 H.out.2.1 (H.out.2.2.1.next HE.out.2.2) (H.out.2.2.2.1.next HE.out.2.2) H.out.2.2.2.2.1 H.out.2.2.2.2.2.1 H.out.2.2.2.2.2.2.1 H.out.2.2.2.2.2.2.2).mono ?_
  rintro e w1 ⟨rfl, hb1⟩
  clear hr0 hr1 hr2
  go_upto_region 2 with fail
  obtain ⟨w3, hw3⟩ : ∃ x, x = w1.alloc (.cells #[.int .i64 0, .slice none 0 0, .slice none 0 0] 34) := ⟨_, rfl⟩
  obtain ⟨hb3, hE3⟩ := box_err w1 _ _ _ w3 hw3
  rw [← hw3]
  have h03 := hb1.trans (hb3.mono hb1.size)
  have H3 := Lib.hid (And.intro (HE.out.1.next h03) (And.intro (HE.out.2.1.next h03) (HE.out.2.2.trans (h03.mono HE.out.2.2.size))))
  obtain ⟨_, hk0, hk1, hk2⟩ := hE3.facts
  clear hb1 hw3 hb3 hE3 h03
  go_wp2_with fail
  refine (badG_no (.slice none 0 0) (.slice none 0 0) w3).mono ?_
  rintro e w4 ⟨rfl, hb4⟩
  have H4 := Lib.hid (And.intro (H3.out.1.next hb4) (And.intro (H3.out.2.1.next hb4) (H3.out.2.2.trans (hb4.mono H3.out.2.2.size))))
  have hlt4 := heap_ltN (H3.out.2.1.next hb4).heap
  clear hb4 hk0 hk1 hk2
  obtain ⟨_, hr0, hr1, hr2⟩ := H4.out.1.facts
  go_wp2_with fail
  refine (gimage_ref K R p q n c m d t l w4 H.out.1 H.out.2.1 (H.out.2.2.1.next H4.out.2.2) (H.out.2.2.2.1.next H4.out.2.2) H.out.2.2.2.2.1 hm0 hm4 H.out.2.2.2.2.2.2.2).mono ?_
  rintro e w5 ⟨p5, c5, rfl, ho5, hb5⟩
  obtain ⟨u, hu⟩ : ∃ u, (ringW K R t l).length = u := ⟨_, rfl⟩
  rw [hu]
  obtain ⟨⟨hf0, hf1, hf2⟩, hc0, hc1, hc2⟩ := (H4.out.2.1.next hb5).facts
  have H5 := Lib.hid (And.intro ho5 (And.intro (H4.out.2.2.trans (hb5.mono H4.out.2.2.size)) (And.intro hlt4 hu)))
  clear ho5 hb5 hu hr0 hr1 hr2
  go_wp2_with fail
  refine bodyPost_ret (v := .tuple #[.slice p5 u c5, noErr]) (by simp [results, Tryd.results13, go_sem, hc0, hc1, hc2, noErr]) rfl ⟨p5, c5, by rw [H5.out.2.2.2]; rfl, ?_, put3_below H5.out.2.1 (Nat.le_succ _) _ _ _⟩
  exact IntO.base (by have := H4.out.2.2.size; omega) (ownsRow_setCell_below (ownsRow_setCell_below (ownsRow_setCell_below H5.out.1 (a := ⟨w.heap.size + 1, 0, none⟩) H5.out.2.2.1 _) (a := ⟨w.heap.size + 1, 1, none⟩) H5.out.2.2.1 _) (a := ⟨w.heap.size + 1, 2, none⟩) H5.out.2.2.1 _)
set_option maxRecDepth 100000 in
set_option maxHeartbeats 8000000 in
theorem gstep_ref_bad (k r : Int) (p q : Option Addr) (n c m d : Nat) (t l : List Int) (w : World) (hn : n = t.length) (hm : m = l.length) (h : IntV w.heap.size w p c t) (h' : IntV w.heap.size w q d l) (L : List (ByteArray × Int)) (M : Nat) (hc : chkG k r t l = some (L, M)) :
    Calls Tryd.prog 13 #[.agg #[.int .i64 k, .int .i64 r, .slice p n c], .slice q m d] w (GUnd w M L) := by
  have ST := Lib.hid (two_boxesG w (.int .i64 k) (.int .i64 r) (.slice p n c) (.int .i64 0) (.slice none 0 0) (.slice none 0 0))
  have hM0 : (M : Int) ≠ 0 := by have := chkG_num _ hc; simp only at this; omega
  have H := Lib.hid (And.intro hn (And.intro hm (And.intro h (And.intro h' hc))))
  clear hn hm h h' hc
  go_enter Tryd.func13, Tryd.ntmps13
  go_upto_region 1 with fail
  obtain ⟨w0, hw0⟩ : ∃ w0, w0 = (w.alloc (.cells #[.int .i64 k, .int .i64 r, .slice p n c] 24)).alloc (.cells #[.int .i64 0, .slice none 0 0, .slice none 0 0] 34) := ⟨_, rfl⟩
  rw [← hw0]
  obtain ⟨hb0, hR0, hE0⟩ := ST.out w0 hw0
  have hszb : (w.alloc (.cells #[.int .i64 k, .int .i64 r, .slice p n c] 24)).heap.size = w.heap.size + 1 := by simp
  obtain ⟨_, hr0, hr1, hr2⟩ := hR0.facts
  have HE := Lib.hid (And.intro hR0 (And.intro hE0 hb0))
  clear hw0 hR0 hE0 hb0
  go_wp2_with fail
  refine (gfault_ref_bad k r p q n c m d t l w0 H.out.1 H.out.2.1 (H.out.2.2.1.next HE.out.2.2) (H.out.2.2.2.1.next HE.out.2.2) L M H.out.2.2.2.2).mono ?_
  rintro e w1 ⟨go, ga, co, ca, rfl, hgo, hga, hw1, hb1⟩
  obtain ⟨nL, hnL⟩ : ∃ x, L.length = x := ⟨_, rfl⟩
  rw [hnL]
  clear hr0 hr1 hr2
  go_upto_region 2 with fail
  obtain ⟨w3, hw3⟩ : ∃ x, x = w1.alloc (.cells #[.int .i64 (M : Int), .slice (some ⟨go, 0, none⟩) nL co, .slice (some ⟨ga, 0, none⟩) nL ca] 34) := ⟨_, rfl⟩
  obtain ⟨hb3, hE3⟩ := box_err w1 _ _ _ w3 hw3
  rw [← hw3]
  have h03 := hb1.trans (hb3.mono hb1.size)
  have hlt0 := heap_ltN HE.out.2.1.heap
  have hs1 := hb1.size
  have H3 := Lib.hid (And.intro (HE.out.2.1.next h03) (And.intro (HE.out.2.2.trans (h03.mono HE.out.2.2.size)) (And.intro (hw1.below hb3) (And.intro hE3 hnL))))
  obtain ⟨_, hk0, hk1, hk2⟩ := hE3.facts
  have HG := Lib.hid (show go ≠ w.heap.size + 1 ∧ ga ≠ w.heap.size + 1 ∧ w.heap.size ≤ go ∧ w.heap.size ≤ ga by omega)
  have hne : w1.heap.size ≠ w.heap.size + 1 := by omega
  clear hb1 hw3 hb3 hE3 h03 hgo hga hw1 hnL hlt0 hs1
  go_wp2_with fail
  refine (badG_yes (M : Int) hM0 (.slice (some ⟨go, 0, none⟩) nL co) (.slice (some ⟨ga, 0, none⟩) nL ca) w3).mono ?_
  rintro e w4 ⟨rfl, hb4⟩
  obtain ⟨⟨hf0, hf1, hf2⟩, hc0, hc1, hc2⟩ := (H3.out.1.next hb4).facts
  have H4 := Lib.hid (And.intro (H3.out.2.1.trans (hb4.mono H3.out.2.1.size)) (H3.out.2.2.1.below hb4))
  clear hk0 hk1 hk2
  obtain ⟨_, hk0, hk1, hk2⟩ := (H3.out.2.2.2.1.next hb4).facts
  clear hb4
  go_wp2_with fail
  go_region
  go_wp2_with fail
  refine bodyPost_ret (v := .tuple #[.slice none 0 0, .agg #[.int .i64 (M : Int), .slice (some ⟨go, 0, none⟩) nL co, .slice (some ⟨ga, 0, none⟩) nL ca]]) (by simp [results, Tryd.results13, go_sem, hc0, hc1, hc2]) rfl ⟨go, ga, co, ca, by rw [H3.out.2.2.2.2], ?_, ?_⟩
  · exact (wantV_put3g H4.out.2 HG.out.1 HG.out.2.1 _ _ _).below (Below.refl _ _).drew
  · exact (put3_below H4.out.1 (Nat.le_succ _) _ _ _).drew
set_option maxRecDepth 100000 in
set_option maxHeartbeats 8000000 in
theorem gsteps_ref_ok (K R N : Nat) (p q : Option Addr) (n c m d : Nat) (t l : List Int) (w : World) (hn : n = t.length) (hm : m = l.length) (h : IntV w.heap.size w p c t) (h' : IntV w.heap.size w q d l) (ho : OkR K R t) (h0 : 0 < l.length) (h4 : l.length ≤ 4096) (hw : okW K l) (hN : N ≤ 262144 / l.length) :
    Calls Tryd.prog 38 #[.agg #[.int .i64 (K : Int), .int .i64 (R : Int), .slice p n c], .slice q m d, .int .i64 (N : Int)] w (Tells (.agg #[.int .i64 0, .slice none 0 0, .slice none 0 0]) w) := by
  have ST := Lib.hid (two_boxesG w (.int .i64 (K : Int)) (.int .i64 (R : Int)) (.slice p n c) (.int .i64 0) (.slice none 0 0) (.slice none 0 0))
  have hN2 : N ≤ 262144 := Nat.le_trans hN (Nat.div_le_self _ _)
  have hN2' : ¬ (262144 : Int) < (N : Int) := by omega
  obtain ⟨P, hP⟩ : ∃ P, N * m = P := ⟨_, rfl⟩
  have hP2 : P ≤ 262144 := by
    rw [← hP, hm]
    exact (Nat.le_div_iff_mul_le h0).1 hN
  have wP : IntKind.i64.wrap ((N : Int) * (m : Int)) = (P : Int) := by rw [show ((N : Int) * (m : Int)) = (P : Int) by rw [← hP]; push_cast; rfl, IntWalk.i64_in _ (by omega)]
  have hP3 : ¬ (262144 : Int) < (P : Int) := by omega
  have H := Lib.hid (And.intro hn (And.intro hm (And.intro h (And.intro h' (And.intro ho (And.intro h0 (And.intro h4 hw)))))))
  clear hn hm h h' ho h0 h4 hw hN hP
  go_enter Tryd.func38, Tryd.ntmps38
  go_upto_region 1 with fail
  obtain ⟨w0, hw0⟩ : ∃ w0, w0 = (w.alloc (.cells #[.int .i64 (K : Int), .int .i64 (R : Int), .slice p n c] 24)).alloc (.cells #[.int .i64 0, .slice none 0 0, .slice none 0 0] 34) := ⟨_, rfl⟩
  rw [← hw0]
  obtain ⟨hb0, hR0, hE0⟩ := ST.out w0 hw0
  have hszb : (w.alloc (.cells #[.int .i64 (K : Int), .int .i64 (R : Int), .slice p n c] 24)).heap.size = w.heap.size + 1 := by simp
  obtain ⟨_, hr0, hr1, hr2⟩ := hR0.facts
  have HE := Lib.hid (And.intro hR0 (And.intro hE0 hb0))
  clear hw0 hR0 hE0 hb0
  go_wp2_with fail
  refine (gfault_ref_ok K R p q n c m d t l w0 H.out.1 H.out.2.1 (H.out.2.2.1.next HE.out.2.2) (H.out.2.2.2.1.next HE.out.2.2) H.out.2.2.2.2.1 H.out.2.2.2.2.2.1 H.out.2.2.2.2.2.2.1 H.out.2.2.2.2.2.2.2).mono ?_
  rintro e w1 ⟨rfl, hb1⟩
  clear hr0 hr1 hr2
  go_upto_region 2 with fail
  obtain ⟨w3, hw3⟩ : ∃ x, x = w1.alloc (.cells #[.int .i64 0, .slice none 0 0, .slice none 0 0] 34) := ⟨_, rfl⟩
  obtain ⟨hb3, hE3⟩ := box_err w1 _ _ _ w3 hw3
  rw [← hw3]
  have h03 := hb1.trans (hb3.mono hb1.size)
  have H3 := Lib.hid (And.intro (HE.out.1.next h03) (And.intro (HE.out.2.1.next h03) (HE.out.2.2.trans (h03.mono HE.out.2.2.size))))
  obtain ⟨_, hk0, hk1, hk2⟩ := hE3.facts
  clear hb1 hw3 hb3 hE3 h03
  go_wp2_with fail
  refine (badG_no (.slice none 0 0) (.slice none 0 0) w3).mono ?_
  rintro e w4 ⟨rfl, hb4⟩
  have H4 := Lib.hid (And.intro (H3.out.1.next hb4) (And.intro (H3.out.2.1.next hb4) (H3.out.2.2.trans (hb4.mono H3.out.2.2.size))))
  have hlt4 := heap_ltN (H3.out.2.1.next hb4).heap
  clear hb4 hk0 hk1 hk2
  obtain ⟨_, hr0, hr1, hr2⟩ := H4.out.1.facts
  obtain ⟨⟨hf0, hf1, hf2⟩, hc0, hc1, hc2⟩ := H4.out.2.1.facts
  clear hr0 hr1 hr2 hlt4
  go_wp2_with fail
  refine bodyPost_ret (v := .agg #[.int .i64 0, .slice none 0 0, .slice none 0 0]) (by simp [results, Tryd.results38, go_sem, hc0, hc1, hc2]) rfl ⟨rfl, put3_below H4.out.2.2 (Nat.le_succ _) _ _ _⟩
set_option maxRecDepth 100000 in
set_option maxHeartbeats 16000000 in
theorem gsteps_ref_bad (k r z : Int) (p q : Option Addr) (n c m d : Nat) (t l : List Int) (w : World) (hn : n = t.length) (hm : m = l.length) (h : IntV w.heap.size w p c t) (h' : IntV w.heap.size w q d l) (L : List (ByteArray × Int)) (M : Nat) (hz1 : -9223372036854775808 ≤ z) (hz2 : z ≤ 9223372036854775807) (hc : chkA k r t l z = some (L, M)) :
    Calls Tryd.prog 38 #[.agg #[.int .i64 k, .int .i64 r, .slice p n c], .slice q m d, .int .i64 z] w (UnderPost w M L) := by
  have hM0 : (M : Int) ≠ 0 := by have := chkA_num _ hc; simp only at this; omega
  unfold chkA at hc
  cases hk : chkG k r t l with
  | some x =>
    rw [hk] at hc
    obtain rfl := Option.some.inj hc
    have ST := Lib.hid (two_boxesG w (.int .i64 k) (.int .i64 r) (.slice p n c) (.int .i64 0) (.slice none 0 0) (.slice none 0 0))
    have H := Lib.hid (And.intro hn (And.intro hm (And.intro h (And.intro h' hk))))
    clear hn hm h h' hk hc
    go_enter Tryd.func38, Tryd.ntmps38
    go_upto_region 1 with fail
    obtain ⟨w0, hw0⟩ : ∃ w0, w0 = (w.alloc (.cells #[.int .i64 k, .int .i64 r, .slice p n c] 24)).alloc (.cells #[.int .i64 0, .slice none 0 0, .slice none 0 0] 34) := ⟨_, rfl⟩
    rw [← hw0]
    obtain ⟨hb0, hR0, hE0⟩ := ST.out w0 hw0
    have hszb : (w.alloc (.cells #[.int .i64 k, .int .i64 r, .slice p n c] 24)).heap.size = w.heap.size + 1 := by simp
    obtain ⟨_, hr0, hr1, hr2⟩ := hR0.facts
    have HE := Lib.hid (And.intro hR0 (And.intro hE0 hb0))
    clear hw0 hR0 hE0 hb0
    go_wp2_with fail
    refine (gfault_ref_bad k r p q n c m d t l w0 H.out.1 H.out.2.1 (H.out.2.2.1.next HE.out.2.2) (H.out.2.2.2.1.next HE.out.2.2) L M H.out.2.2.2.2).mono ?_
    rintro e w1 ⟨go, ga, co, ca, rfl, hgo, hga, hw1, hb1⟩
    obtain ⟨nL, hnL⟩ : ∃ x, L.length = x := ⟨_, rfl⟩
    rw [hnL]
    clear hr0 hr1 hr2
    go_upto_region 2 with fail
    obtain ⟨w3, hw3⟩ : ∃ x, x = w1.alloc (.cells #[.int .i64 (M : Int), .slice (some ⟨go, 0, none⟩) nL co, .slice (some ⟨ga, 0, none⟩) nL ca] 34) := ⟨_, rfl⟩
    obtain ⟨hb3, hE3⟩ := box_err w1 _ _ _ w3 hw3
    rw [← hw3]
    have h03 := hb1.trans (hb3.mono hb1.size)
    have hlt0 := heap_ltN HE.out.2.1.heap
    have hs1 := hb1.size
    have H3 := Lib.hid (And.intro (HE.out.2.1.next h03) (And.intro (HE.out.2.2.trans (h03.mono HE.out.2.2.size)) (And.intro (hw1.below hb3) (And.intro hE3 hnL))))
    obtain ⟨_, hk0, hk1, hk2⟩ := hE3.facts
    have HG := Lib.hid (show go ≠ w.heap.size + 1 ∧ ga ≠ w.heap.size + 1 ∧ w.heap.size ≤ go ∧ w.heap.size ≤ ga by omega)
    have hne : w1.heap.size ≠ w.heap.size + 1 := by omega
    clear hb1 hw3 hb3 hE3 h03 hgo hga hw1 hnL hlt0 hs1
    go_wp2_with fail
    refine (badG_yes (M : Int) hM0 (.slice (some ⟨go, 0, none⟩) nL co) (.slice (some ⟨ga, 0, none⟩) nL ca) w3).mono ?_
    rintro e w4 ⟨rfl, hb4⟩
    obtain ⟨⟨hf0, hf1, hf2⟩, hc0, hc1, hc2⟩ := (H3.out.1.next hb4).facts
    have H4 := Lib.hid (And.intro (H3.out.2.1.trans (hb4.mono H3.out.2.1.size)) (H3.out.2.2.1.below hb4))
    clear hk0 hk1 hk2
    obtain ⟨_, hk0, hk1, hk2⟩ := (H3.out.2.2.2.1.next hb4).facts
    clear hb4
    go_wp2_with fail
    refine bodyPost_ret (v := .agg #[.int .i64 (M : Int), .slice (some ⟨go, 0, none⟩) nL co, .slice (some ⟨ga, 0, none⟩) nL ca]) (by simp [results, Tryd.results38, go_sem, hc0, hc1, hc2]) rfl ⟨go, ga, co, ca, by rw [H3.out.2.2.2.2], HG.out.2.2.1, HG.out.2.2.2, ?_, ?_⟩
    · exact wantV_put3g H4.out.2 HG.out.1 HG.out.2.1 _ _ _
    · exact put3_below H4.out.1 (Nat.le_succ _) _ _ _
  | none =>
    rw [hk] at hc
    simp only at hc
    clear hM0
    obtain ⟨K, R, rfl, rfl, ho, h0, h4, hw⟩ := chkG_none hk
    have ST := Lib.hid (two_boxesG w (.int .i64 (K : Int)) (.int .i64 (R : Int)) (.slice p n c) (.int .i64 0) (.slice none 0 0) (.slice none 0 0))
    by_cases hz : z < 0
    · rw [if_pos hz] at hc
      obtain ⟨rfl, rfl⟩ := Prod.mk.inj (Option.some.inj hc)
      have H := Lib.hid (And.intro hn (And.intro hm (And.intro h (And.intro h' (And.intro ho (And.intro h0 (And.intro h4 hw)))))))
      clear hn hm h h' ho h0 h4 hw hk hc
      go_enter Tryd.func38, Tryd.ntmps38
      go_upto_region 1 with fail
      obtain ⟨w0, hw0⟩ : ∃ w0, w0 = (w.alloc (.cells #[.int .i64 (K : Int), .int .i64 (R : Int), .slice p n c] 24)).alloc (.cells #[.int .i64 0, .slice none 0 0, .slice none 0 0] 34) := ⟨_, rfl⟩
      rw [← hw0]
      obtain ⟨hb0, hR0, hE0⟩ := ST.out w0 hw0
      have hszb : (w.alloc (.cells #[.int .i64 (K : Int), .int .i64 (R : Int), .slice p n c] 24)).heap.size = w.heap.size + 1 := by simp
      obtain ⟨_, hr0, hr1, hr2⟩ := hR0.facts
      have HE := Lib.hid (And.intro hR0 (And.intro hE0 hb0))
      clear hw0 hR0 hE0 hb0
      go_wp2_with fail
      refine (gfault_ref_ok K R p q n c m d t l w0 H.out.1 H.out.2.1 (H.out.2.2.1.next HE.out.2.2) (H.out.2.2.2.1.next HE.out.2.2) H.out.2.2.2.2.1 H.out.2.2.2.2.2.1 H.out.2.2.2.2.2.2.1 H.out.2.2.2.2.2.2.2).mono ?_
      rintro e w1 ⟨rfl, hb1⟩
      clear hr0 hr1 hr2
      go_upto_region 2 with fail
      obtain ⟨w3, hw3⟩ : ∃ x, x = w1.alloc (.cells #[.int .i64 0, .slice none 0 0, .slice none 0 0] 34) := ⟨_, rfl⟩
      obtain ⟨hb3, hE3⟩ := box_err w1 _ _ _ w3 hw3
      rw [← hw3]
      have h03 := hb1.trans (hb3.mono hb1.size)
      have H3 := Lib.hid (And.intro (HE.out.1.next h03) (And.intro (HE.out.2.1.next h03) (HE.out.2.2.trans (h03.mono HE.out.2.2.size))))
      obtain ⟨_, hk0, hk1, hk2⟩ := hE3.facts
      clear hb1 hw3 hb3 hE3 h03
      go_wp2_with fail
      refine (badG_no (.slice none 0 0) (.slice none 0 0) w3).mono ?_
      rintro e w4 ⟨rfl, hb4⟩
      have H4 := Lib.hid (And.intro (H3.out.1.next hb4) (And.intro (H3.out.2.1.next hb4) (H3.out.2.2.trans (hb4.mono H3.out.2.2.size))))
      have hlt4 := heap_ltN (H3.out.2.1.next hb4).heap
      clear hb4 hk0 hk1 hk2
      obtain ⟨_, hr0, hr1, hr2⟩ := H4.out.1.facts
      clear hr0 hr1 hr2
      go_wp2_with fail
      refine (raw_fresh ringOp 1 3 w4).mono ?_
      rintro e w5 ⟨g, g', rfl, hg, hcg, hcg', hb5⟩
      obtain ⟨⟨hf0, hf1, hf2⟩, hc0, hc1, hc2⟩ := (H4.out.2.1.next hb5).facts
      have HB := Lib.hid (UnderPost.laid (a := 3) H4.out.2.2 (Nat.le_succ _) (heap_ltN H4.out.2.1.heap) hg hcg hcg' hb5)
      clear hb5 hcg hcg' hg hlt4
      go_wp2_with fail
      refine bodyPost_ret (v := .agg #[.int .i64 3, .slice (some ⟨g, 0, none⟩) 1 1, .slice (some ⟨g', 0, none⟩) 1 1]) (by simp [results, Tryd.results38, go_sem, hc0, hc1, hc2]) rfl ?_
      exact HB.out _ _ _
    · rw [if_neg hz] at hc
      by_cases hq : ((262144 / l.length : Nat) : Int) < z
      · rw [if_pos hq] at hc
        obtain ⟨rfl, rfl⟩ := Prod.mk.inj (Option.some.inj hc)
        by_cases hbig : 262144 < z
        · have H := Lib.hid (And.intro hn (And.intro hm (And.intro h (And.intro h' (And.intro ho (And.intro h0 (And.intro h4 hw)))))))
          clear hn hm h h' ho h0 h4 hw hk hc hq
          go_enter Tryd.func38, Tryd.ntmps38
          go_upto_region 1 with fail
          obtain ⟨w0, hw0⟩ : ∃ w0, w0 = (w.alloc (.cells #[.int .i64 (K : Int), .int .i64 (R : Int), .slice p n c] 24)).alloc (.cells #[.int .i64 0, .slice none 0 0, .slice none 0 0] 34) := ⟨_, rfl⟩
          rw [← hw0]
          obtain ⟨hb0, hR0, hE0⟩ := ST.out w0 hw0
          have hszb : (w.alloc (.cells #[.int .i64 (K : Int), .int .i64 (R : Int), .slice p n c] 24)).heap.size = w.heap.size + 1 := by simp
          obtain ⟨_, hr0, hr1, hr2⟩ := hR0.facts
          have HE := Lib.hid (And.intro hR0 (And.intro hE0 hb0))
          clear hw0 hR0 hE0 hb0
          go_wp2_with fail
          refine (gfault_ref_ok K R p q n c m d t l w0 H.out.1 H.out.2.1 (H.out.2.2.1.next HE.out.2.2) (H.out.2.2.2.1.next HE.out.2.2) H.out.2.2.2.2.1 H.out.2.2.2.2.2.1 H.out.2.2.2.2.2.2.1 H.out.2.2.2.2.2.2.2).mono ?_
          rintro e w1 ⟨rfl, hb1⟩
          clear hr0 hr1 hr2
          go_upto_region 2 with fail
          obtain ⟨w3, hw3⟩ : ∃ x, x = w1.alloc (.cells #[.int .i64 0, .slice none 0 0, .slice none 0 0] 34) := ⟨_, rfl⟩
          obtain ⟨hb3, hE3⟩ := box_err w1 _ _ _ w3 hw3
          rw [← hw3]
          have h03 := hb1.trans (hb3.mono hb1.size)
          have H3 := Lib.hid (And.intro (HE.out.1.next h03) (And.intro (HE.out.2.1.next h03) (HE.out.2.2.trans (h03.mono HE.out.2.2.size))))
          obtain ⟨_, hk0, hk1, hk2⟩ := hE3.facts
          clear hb1 hw3 hb3 hE3 h03
          go_wp2_with fail
          refine (badG_no (.slice none 0 0) (.slice none 0 0) w3).mono ?_
          rintro e w4 ⟨rfl, hb4⟩
          have H4 := Lib.hid (And.intro (H3.out.1.next hb4) (And.intro (H3.out.2.1.next hb4) (H3.out.2.2.trans (hb4.mono H3.out.2.2.size))))
          have hlt4 := heap_ltN (H3.out.2.1.next hb4).heap
          clear hb4 hk0 hk1 hk2
          obtain ⟨_, hr0, hr1, hr2⟩ := H4.out.1.facts
          clear hr0 hr1 hr2
          go_wp2_with fail
          refine (raw_fresh ringOp 1 4 w4).mono ?_
          rintro e w5 ⟨g, g', rfl, hg, hcg, hcg', hb5⟩
          obtain ⟨⟨hf0, hf1, hf2⟩, hc0, hc1, hc2⟩ := (H4.out.2.1.next hb5).facts
          have HB := Lib.hid (UnderPost.laid (a := 4) H4.out.2.2 (Nat.le_succ _) (heap_ltN H4.out.2.1.heap) hg hcg hcg' hb5)
          clear hb5 hcg hcg' hg hlt4
          go_wp2_with fail
          refine bodyPost_ret (v := .agg #[.int .i64 4, .slice (some ⟨g, 0, none⟩) 1 1, .slice (some ⟨g', 0, none⟩) 1 1]) (by simp [results, Tryd.results38, go_sem, hc0, hc1, hc2]) rfl ?_
          exact HB.out _ _ _
        · obtain ⟨Z, rfl⟩ : ∃ Z : Nat, z = (Z : Int) := ⟨z.toNat, by omega⟩
          obtain ⟨P, hP⟩ : ∃ P, Z * m = P := ⟨_, rfl⟩
          have hP1 : 262144 < P := by
            rw [← hP, hm]
            exact (Nat.div_lt_iff_lt_mul h0).1 (by omega)
          have hP2 : P ≤ 262144 * 4096 := by rw [← hP]; exact Nat.mul_le_mul (by omega) (by omega)
          have wP : IntKind.i64.wrap ((Z : Int) * (m : Int)) = (P : Int) := by rw [show ((Z : Int) * (m : Int)) = (P : Int) by rw [← hP]; push_cast; rfl, IntWalk.i64_in _ (by omega)]
          have hP3 : (262144 : Int) < (P : Int) := by omega
          have H := Lib.hid (And.intro hn (And.intro hm (And.intro h (And.intro h' (And.intro ho (And.intro h0 (And.intro h4 hw)))))))
          clear hn hm h h' ho h0 h4 hw hk hc hq hP hP1
          go_enter Tryd.func38, Tryd.ntmps38
          go_upto_region 1 with fail
          obtain ⟨w0, hw0⟩ : ∃ w0, w0 = (w.alloc (.cells #[.int .i64 (K : Int), .int .i64 (R : Int), .slice p n c] 24)).alloc (.cells #[.int .i64 0, .slice none 0 0, .slice none 0 0] 34) := ⟨_, rfl⟩
          rw [← hw0]
          obtain ⟨hb0, hR0, hE0⟩ := ST.out w0 hw0
          have hszb : (w.alloc (.cells #[.int .i64 (K : Int), .int .i64 (R : Int), .slice p n c] 24)).heap.size = w.heap.size + 1 := by simp
          obtain ⟨_, hr0, hr1, hr2⟩ := hR0.facts
          have HE := Lib.hid (And.intro hR0 (And.intro hE0 hb0))
          clear hw0 hR0 hE0 hb0
          go_wp2_with fail
          refine (gfault_ref_ok K R p q n c m d t l w0 H.out.1 H.out.2.1 (H.out.2.2.1.next HE.out.2.2) (H.out.2.2.2.1.next HE.out.2.2) H.out.2.2.2.2.1 H.out.2.2.2.2.2.1 H.out.2.2.2.2.2.2.1 H.out.2.2.2.2.2.2.2).mono ?_
          rintro e w1 ⟨rfl, hb1⟩
          clear hr0 hr1 hr2
          go_upto_region 2 with fail
          obtain ⟨w3, hw3⟩ : ∃ x, x = w1.alloc (.cells #[.int .i64 0, .slice none 0 0, .slice none 0 0] 34) := ⟨_, rfl⟩
          obtain ⟨hb3, hE3⟩ := box_err w1 _ _ _ w3 hw3
          rw [← hw3]
          have h03 := hb1.trans (hb3.mono hb1.size)
          have H3 := Lib.hid (And.intro (HE.out.1.next h03) (And.intro (HE.out.2.1.next h03) (HE.out.2.2.trans (h03.mono HE.out.2.2.size))))
          obtain ⟨_, hk0, hk1, hk2⟩ := hE3.facts
          clear hb1 hw3 hb3 hE3 h03
          go_wp2_with fail
          refine (badG_no (.slice none 0 0) (.slice none 0 0) w3).mono ?_
          rintro e w4 ⟨rfl, hb4⟩
          have H4 := Lib.hid (And.intro (H3.out.1.next hb4) (And.intro (H3.out.2.1.next hb4) (H3.out.2.2.trans (hb4.mono H3.out.2.2.size))))
          have hlt4 := heap_ltN (H3.out.2.1.next hb4).heap
          clear hb4 hk0 hk1 hk2
          obtain ⟨_, hr0, hr1, hr2⟩ := H4.out.1.facts
          clear hr0 hr1 hr2
          go_wp2_with fail
          refine (raw_fresh ringOp 1 4 w4).mono ?_
          rintro e w5 ⟨g, g', rfl, hg, hcg, hcg', hb5⟩
          obtain ⟨⟨hf0, hf1, hf2⟩, hc0, hc1, hc2⟩ := (H4.out.2.1.next hb5).facts
          have HB := Lib.hid (UnderPost.laid (a := 4) H4.out.2.2 (Nat.le_succ _) (heap_ltN H4.out.2.1.heap) hg hcg hcg' hb5)
          clear hb5 hcg hcg' hg hlt4
          go_wp2_with fail
          refine bodyPost_ret (v := .agg #[.int .i64 4, .slice (some ⟨g, 0, none⟩) 1 1, .slice (some ⟨g', 0, none⟩) 1 1]) (by simp [results, Tryd.results38, go_sem, hc0, hc1, hc2]) rfl ?_
          exact HB.out _ _ _
      · rw [if_neg hq] at hc
        cases hc
end Go.Proofs.YtgdjnohhofbcnaaDoor
