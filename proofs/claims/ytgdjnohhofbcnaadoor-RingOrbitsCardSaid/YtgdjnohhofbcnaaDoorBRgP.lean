/- The document's own package of rings by its contracts, fifth part: After. -/
import Derived.Test.YtgdjnohhofbcnaaDoorBRgL
import Derived.Test.YtgdjnohhofbcnaaDoorB4
import Derived.Test.YtgdjnohhofbcnaaDoorB3
namespace Go.Proofs.YtgdjnohhofbcnaaDoor
open Go.RowKit Go.Extern.Stop Go.Stop Go.Extern WordM RuleM NatM

set_option maxRecDepth 100000 in
set_option maxHeartbeats 8000000 in
theorem gafter_ref_ok (K R N : Nat) (p q : Option Addr) (n c m d : Nat) (t l : List Int) (w : World) (hn : n = t.length) (hm : m = l.length) (h : IntV w.heap.size w p c t) (h' : IntV w.heap.size w q d l) (ho : OkR K R t) (h0 : 0 < l.length) (h4 : l.length ≤ 4096) (hw : okW K l) (hN : N ≤ 262144 / l.length) :
    Calls Tryd.prog 15 #[.agg #[.int .i64 (K : Int), .int .i64 (R : Int), .slice p n c], .slice q m d, .int .i64 (N : Int)] w (GRefOk w (stepsW K R t N l)) := by
  have ST := Lib.hid (two_boxesG w (.int .i64 (K : Int)) (.int .i64 (R : Int)) (.slice p n c) (.int .i64 0) (.slice none 0 0) (.slice none 0 0))
  have hm0 : 0 < m := by omega
  have hm4 : m ≤ 4096 := by omega
  have hN2 : N ≤ 262144 := Nat.le_trans hN (Nat.div_le_self _ _)
  have H := Lib.hid (And.intro hn (And.intro hm (And.intro h (And.intro h' (And.intro ho (And.intro h0 (And.intro h4 (And.intro hw hN))))))))
  clear hn hm h h' ho h0 h4 hw hN
  go_enter Tryd.func15, Tryd.ntmps15
  go_upto_region 1 with fail
  obtain ⟨w0, hw0⟩ : ∃ w0, w0 = (w.alloc (.cells #[.int .i64 (K : Int), .int .i64 (R : Int), .slice p n c] 24)).alloc (.cells #[.int .i64 0, .slice none 0 0, .slice none 0 0] 34) := ⟨_, rfl⟩
  rw [← hw0]
  obtain ⟨hb0, hR0, hE0⟩ := ST.out w0 hw0
  have hszb : (w.alloc (.cells #[.int .i64 (K : Int), .int .i64 (R : Int), .slice p n c] 24)).heap.size = w.heap.size + 1 := by simp
  obtain ⟨_, hr0, hr1, hr2⟩ := hR0.facts
  have HE := Lib.hid (And.intro hR0 (And.intro hE0 hb0))
  clear hw0 hR0 hE0 hb0
  go_wp2_with fail
  refine (gsteps_ref_ok K R N p q n c m d t l w0 H.out.1 H.out.2.1 (H.out.2.2.1.next HE.out.2.2) (H.out.2.2.2.1.next HE.out.2.2) H.out.2.2.2.2.1 H.out.2.2.2.2.2.1 H.out.2.2.2.2.2.2.1 H.out.2.2.2.2.2.2.2.1 H.out.2.2.2.2.2.2.2.2).mono ?_
  rintro e w1 ⟨rfl, hb1⟩
  clear hr0 hr1 hr2
  go_upto_region 2 with fail
  obtain ⟨w3, hw3⟩ : ∃ x, x = w1.alloc (.cells #[.int .i64 0, .slice none 0 0, .slice none 0 0] 34) := ⟨_, rfl⟩
  obtain ⟨hb3, hE3⟩ := box_err w1 _ _ _ w3 hw3
  rw [← hw3]
  have h03 := hb1.trans (hb3.mono hb1.size)
  have H3 := Lib.hid (And.intro (HE.out.1.next h03) (And.intro (HE.out.2.1.next h03) (HE.out.2.2.trans (h03.mono HE.out.2.2.size))))
  obtain ⟨_, hk0, hk1, hk2⟩ := hE3.facts
  clear hb1 hw3 hb3 hE3 h03
  go_wp2_with fail
  refine (badG_no (.slice none 0 0) (.slice none 0 0) w3).mono ?_
  rintro e w4 ⟨rfl, hb4⟩
  have H4 := Lib.hid (And.intro (H3.out.1.next hb4) (And.intro (H3.out.2.1.next hb4) (H3.out.2.2.trans (hb4.mono H3.out.2.2.size))))
  have hlt4 := heap_ltN (H3.out.2.1.next hb4).heap
  clear hb4 hk0 hk1 hk2
  obtain ⟨_, hr0, hr1, hr2⟩ := H4.out.1.facts
  have hcp := copyI_any q m d l w4 H.out.2.1 (H.out.2.2.2.1.next H4.out.2.2) (by have := H.out.2.1; omega)
  unfold CopyPostI at hcp
  rw [← H.out.2.1] at hcp
  have HCP := Lib.hid hcp
  clear hcp hr0 hr1 hr2
  go_wp2_with fail
  refine HCP.out.mono ?_
  rintro e w5 ⟨p5, c5, rfl, ho5, hb5⟩
  have H5 := Lib.hid (And.intro ho5 hb5)
  clear ho5 hb5 HCP
  go_wp2_with fail
  go_loopw [9, 10] (fun v9 v10 wr => GAfterRel w4 K R N m t l v9 v10 wr) (fun _ v _ => N - (intOf v).toNat)
  case atStart => exact ⟨0, p5, c5, Nat.zero_le _, rfl, rfl, H5.out.1, H5.out.2⟩
  case round =>
    obtain ⟨j, p', c', hj, rfl, rfl, hor, hb⟩ := hrel
    have HR := Lib.hid (And.intro hor (And.intro hb (And.intro (H4.out.1.next hb) (And.intro (H4.out.2.2.trans (hb.mono H4.out.2.2.size)) (H4.out.2.1.next hb)))))
    clear hor hb
    have hlen : (stepsW K R t j l).length = m := by rw [stepsW_length]; exact H.out.2.1.symm
    by_cases hlt : j < N
    · obtain ⟨_, hc0, hc1, hc2⟩ := HR.out.2.2.1.facts
      have hok := stepsW_ok H.out.2.2.2.2.1 j l H.out.2.2.2.2.2.1 H.out.2.2.2.2.2.2.2.1
      have HJ := Lib.hid (And.intro hlen hok)
      clear hlen hok
      go_wp2_with fail
      refine (gimage_ref K R p p' n c m c' t (stepsW K R t j l) wr H.out.1 HJ.out.1.symm (H.out.2.2.1.next HR.out.2.2.2.1) HR.out.1.toV H.out.2.2.2.2.1 hm0 hm4 HJ.out.2).mono ?_
      rintro e w6 ⟨p6, c6, rfl, ho6, hb6⟩
      rw [ringW_length, HJ.out.1]
      rw [← stepsW_succ] at ho6
      have H6 := Lib.hid (And.intro (ho6.base HR.out.2.1.size) (HR.out.2.1.trans (hb6.mono HR.out.2.1.size)))
      clear ho6 hb6 hc0 hc1 hc2
      go_wp2_with fail
      go_roundw
      case rel => exact ⟨j + 1, p6, c6, by omega, by go_num, rfl, H6.out.1, H6.out.2⟩
      case measure => simp [intOf]; omega
    · obtain rfl : j = N := by omega
      have HL := Lib.hid hlen
      obtain ⟨⟨hf0, hf1, hf2⟩, hc0, hc1, hc2⟩ := HR.out.2.2.2.2.facts
      clear hlen
      go_wp2_with fail
      refine bodyPost_ret (v := .tuple #[.slice p' m c', noErr]) (by simp [results, Tryd.results15, go_sem, hc0, hc1, hc2, noErr]) rfl ⟨p', c', by rw [HL.out]; rfl, ?_, put3_below HR.out.2.2.2.1 (Nat.le_succ _) _ _ _⟩
      exact IntO.base (by have := H4.out.2.2.size; omega) (ownsRow_setCell_below (ownsRow_setCell_below (ownsRow_setCell_below HR.out.1 (a := ⟨w.heap.size + 1, 0, none⟩) hlt4 _) (a := ⟨w.heap.size + 1, 1, none⟩) hlt4 _) (a := ⟨w.heap.size + 1, 2, none⟩) hlt4 _)
set_option maxRecDepth 100000 in
set_option maxHeartbeats 8000000 in
theorem gafter_ref_bad (k r z : Int) (p q : Option Addr) (n c m d : Nat) (t l : List Int) (w : World) (hn : n = t.length) (hm : m = l.length) (h : IntV w.heap.size w p c t) (h' : IntV w.heap.size w q d l) (L : List (ByteArray × Int)) (M : Nat) (hz1 : -9223372036854775808 ≤ z) (hz2 : z ≤ 9223372036854775807) (hc : chkA k r t l z = some (L, M)) :
    Calls Tryd.prog 15 #[.agg #[.int .i64 k, .int .i64 r, .slice p n c], .slice q m d, .int .i64 z] w (GUnd w M L) := by
  have ST := Lib.hid (two_boxesG w (.int .i64 k) (.int .i64 r) (.slice p n c) (.int .i64 0) (.slice none 0 0) (.slice none 0 0))
  have hM0 : (M : Int) ≠ 0 := by have := chkA_num _ hc; simp only at this; omega
  have H := Lib.hid (And.intro hn (And.intro hm (And.intro h (And.intro h' (And.intro hc (And.intro hz1 hz2))))))
  clear hn hm h h' hc
  go_enter Tryd.func15, Tryd.ntmps15
  go_upto_region 1 with fail
  obtain ⟨w0, hw0⟩ : ∃ w0, w0 = (w.alloc (.cells #[.int .i64 k, .int .i64 r, .slice p n c] 24)).alloc (.cells #[.int .i64 0, .slice none 0 0, .slice none 0 0] 34) := ⟨_, rfl⟩
  rw [← hw0]
  obtain ⟨hb0, hR0, hE0⟩ := ST.out w0 hw0
  have hszb : (w.alloc (.cells #[.int .i64 k, .int .i64 r, .slice p n c] 24)).heap.size = w.heap.size + 1 := by simp
  obtain ⟨_, hr0, hr1, hr2⟩ := hR0.facts
  have HE := Lib.hid (And.intro hR0 (And.intro hE0 hb0))
  clear hw0 hR0 hE0 hb0
  go_wp2_with fail
  refine (gsteps_ref_bad k r z p q n c m d t l w0 H.out.1 H.out.2.1 (H.out.2.2.1.next HE.out.2.2) (H.out.2.2.2.1.next HE.out.2.2) L M H.out.2.2.2.2.2.1 H.out.2.2.2.2.2.2 H.out.2.2.2.2.1).mono ?_
  rintro e w1 ⟨go, ga, co, ca, rfl, hgo, hga, hw1, hb1⟩
  obtain ⟨nL, hnL⟩ : ∃ x, L.length = x := ⟨_, rfl⟩
  rw [hnL]
  clear hr0 hr1 hr2
  go_upto_region 2 with fail
  obtain ⟨w3, hw3⟩ : ∃ x, x = w1.alloc (.cells #[.int .i64 (M : Int), .slice (some ⟨go, 0, none⟩) nL co, .slice (some ⟨ga, 0, none⟩) nL ca] 34) := ⟨_, rfl⟩
  obtain ⟨hb3, hE3⟩ := box_err w1 _ _ _ w3 hw3
  rw [← hw3]
  have h03 := hb1.trans (hb3.mono hb1.size)
  have hlt0 := heap_ltN HE.out.2.1.heap
  have hs1 := hb1.size
  have H3 := Lib.hid (And.intro (HE.out.2.1.next h03) (And.intro (HE.out.2.2.trans (h03.mono HE.out.2.2.size)) (And.intro (hw1.below hb3) (And.intro hE3 hnL))))
  obtain ⟨_, hk0, hk1, hk2⟩ := hE3.facts
  have HG := Lib.hid (show go ≠ w.heap.size + 1 ∧ ga ≠ w.heap.size + 1 ∧ w.heap.size ≤ go ∧ w.heap.size ≤ ga by omega)
  have hne : w1.heap.size ≠ w.heap.size + 1 := by omega
  clear hb1 hw3 hb3 hE3 h03 hgo hga hw1 hnL hlt0 hs1
  go_wp2_with fail
  refine (badG_yes (M : Int) hM0 (.slice (some ⟨go, 0, none⟩) nL co) (.slice (some ⟨ga, 0, none⟩) nL ca) w3).mono ?_
  rintro e w4 ⟨rfl, hb4⟩
  obtain ⟨⟨hf0, hf1, hf2⟩, hc0, hc1, hc2⟩ := (H3.out.1.next hb4).facts
  have H4 := Lib.hid (And.intro (H3.out.2.1.trans (hb4.mono H3.out.2.1.size)) (H3.out.2.2.1.below hb4))
  clear hk0 hk1 hk2
  obtain ⟨_, hk0, hk1, hk2⟩ := (H3.out.2.2.2.1.next hb4).facts
  clear hb4
  go_wp2_with fail
  go_region
  go_wp2_with fail
  refine bodyPost_ret (v := .tuple #[.slice none 0 0, .agg #[.int .i64 (M : Int), .slice (some ⟨go, 0, none⟩) nL co, .slice (some ⟨ga, 0, none⟩) nL ca]]) (by simp [results, Tryd.results15, go_sem, hc0, hc1, hc2]) rfl ⟨go, ga, co, ca, by rw [H3.out.2.2.2.2], ?_, ?_⟩
  · exact (wantV_put3g H4.out.2 HG.out.1 HG.out.2.1 _ _ _).below (Below.refl _ _).drew
  · exact (put3_below H4.out.1 (Nat.le_succ _) _ _ _).drew
end Go.Proofs.YtgdjnohhofbcnaaDoor
