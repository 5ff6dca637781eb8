/- The document's own package of rows by its contracts: Step at a rule or a row that is not good. -/
import Derived.Test.YtfgoflaeclfggaaDoorBRowV
namespace Go.Proofs.YtfgoflaeclfggaaDoor
open Go.RowKit Go.Extern.Stop Go.Stop Go.Extern WordM RuleM NatM
attribute [local go_sem ↓] Go.wp_at_zero Go.wp_at_succ

set_option maxRecDepth 100000 in
set_option maxHeartbeats 32000000 in
theorem step_ref07_bad (k r a : Int) (pt : Option Addr) (nt ct : Nat) (t : List Int) (p q s : Option Addr) (n c m d u e : Nat) (L C R : List Int) (w : World) (hnt : nt = t.length) (ht : IntV w.heap.size w pt ct t) (h : RowV w p q s n c m d u e L C R) (hn : n ≤ 17592186043904) (hm : m ≤ 17592186043904) (hu : u ≤ 17592186043904) (X : List (ByteArray × Int)) (M : Nat) (hc : chkZ k r t a L C R = some (X, M)) :
    Calls Tryd.prog 25 #[.agg #[.int .i64 k, .int .i64 r, .slice pt nt ct], .agg #[.int .i64 a, .slice p n c, .slice q m d, .slice s u e]] w (RefT w (some (X, M)) (.agg #[.int .i64 0, .slice none 0 0, .slice none 0 0, .slice none 0 0])) := by
  unfold chkZ at hc
  cases hk : chkR k r t with
  | some i =>
    rw [hk] at hc
    obtain ⟨rfl, rfl⟩ := Prod.mk.inj (Option.some.inj hc)
    have ST := Lib.hid (four_boxes w (.int .i64 k) (.int .i64 r) (.slice pt nt ct) (.int .i64 a) (.slice p n c) (.slice q m d) (.slice s u e))
    have HC := Lib.hid (fun W h => rcheck_ref_bad k r pt nt ct t W hnt h i hk)
    have H := Lib.hid ht
    clear h hn hm hu hc hk ht hnt
    go_enter Tryd.func25, Tryd.ntmps25
    go_upto_region 1 with fail
    obtain ⟨w0, hw0⟩ : ∃ w0, w0 = (((w.alloc (.cells #[.int .i64 k, .int .i64 r, .slice pt nt ct] 53)).alloc (.cells #[.int .i64 a, .slice p n c, .slice q m d, .slice s u e] 24)).alloc (.cells #[.int .i64 0, .slice none 0 0, .slice none 0 0, .slice none 0 0] 24)).alloc (.cells #[.int .i64 0, .slice none 0 0, .slice none 0 0] 33) := ⟨_, rfl⟩
    rw [← hw0]
    obtain ⟨hb0, hE0, hF0, hG0, hH0⟩ := ST.out w0 hw0
    have HE := Lib.hid (And.intro hE0 (And.intro hF0 (And.intro hG0 (And.intro hH0 hb0))))
    obtain ⟨_, hr0, hr1, hr2⟩ := hE0.facts
    clear hw0 hE0 hF0 hG0 hH0 hb0
    go_wp2_with fail
    refine (HC.out w0 (H.out.next HE.out.2.2.2.2)).mono ?_
    rintro e1 w1 ⟨v, rfl, x1, x2, rfl, _, hwv, hb1⟩
    clear hr0 hr1 hr2
    have hun := under_ref rowOp 0 1 (some ⟨x1, 0, none⟩) (some ⟨x2, 0, none⟩) 1 1 1 [(ruleOp, (i : Int))] w1 (by omega) rfl (by omega) (by omega) hwv
    have HUN := Lib.hid hun
    clear hun
    go_wp2_with fail
    refine HUN.out.mono ?_
    rintro e1 w2 ⟨go, ga, co, ca, rfl, hgo, hga, hw2, hb2⟩
    rw [show ([(rowOp, (0 : Int)), (ruleOp, (i : Int))] : List (ByteArray × Int)).length = 2 from rfl]
    go_upto_region 2 with fail
    obtain ⟨wB, hwB⟩ : ∃ x, x = w2.alloc (.cells #[.int .i64 1, .slice (some ⟨go, 0, none⟩) 2 co, .slice (some ⟨ga, 0, none⟩) 2 ca] 33) := ⟨_, rfl⟩
    rw [← hwB]
    obtain ⟨hbB, hEB⟩ := box_err w2 _ _ _ wB hwB
    obtain ⟨g8, hg8⟩ : ∃ x, w2.heap.size = x := ⟨_, rfl⟩
    rw [hg8] at hEB ⊢
    have h0B := (hb1.trans (hb2.mono hb1.size)).trans (hbB.mono (Nat.le_trans hb1.size hb2.size))
    have hlt0 := HE.out.2.2.2.1.lt
    have hs1 := hb1.size
    have hs2 := hb2.size
    have H1 := Lib.hid (And.intro (HE.out.2.2.1.next h0B) (And.intro (HE.out.2.2.2.1.next h0B) (And.intro hEB (And.intro (hw2.below hbB) (And.intro (HE.out.2.2.2.2.trans (h0B.mono HE.out.2.2.2.2.size)) (show g8 ≠ w.heap.size + 1 + 1 + 1 ∧ g8 ≠ w.heap.size + 1 + 1 ∧ (go ≠ w.heap.size + 1 + 1 + 1 ∧ go ≠ w.heap.size + 1 + 1) ∧ ga ≠ w.heap.size + 1 + 1 + 1 ∧ ga ≠ w.heap.size + 1 + 1 from ⟨by omega, by omega, ⟨by omega, by omega⟩, by omega, by omega⟩))))))
    obtain ⟨_, hk0, hk1, hk2⟩ := hEB.facts
    clear hwB hbB hEB hg8 h0B hlt0 hs1 hs2 hb1 hb2 hgo hga hw2 hwv
    go_wp2_with fail
    refine (badG_yes 1 (by omega) _ _ wB).mono ?_
    rintro e1 wC ⟨rfl, hbC⟩
    have H2 := Lib.hid (And.intro (H1.out.1.next hbC) (And.intro (H1.out.2.1.next hbC) (And.intro (H1.out.2.2.1.next hbC) (And.intro (H1.out.2.2.2.1.below hbC) (And.intro (H1.out.2.2.2.2.1.trans (hbC.mono H1.out.2.2.2.2.1.size)) H1.out.2.2.2.2.2)))))
    clear hbC hk0 hk1 hk2
    obtain ⟨_, hk0, hk1, hk2⟩ := H2.out.2.2.1.facts
    go_wp2_with fail
    refine (badG_yes 1 (by omega) _ _ wC).mono ?_
    rintro e1 wq ⟨rfl, hbq⟩
    have hY := H2.out.1.next hbq
    have hy0 := hY.frozen 0; have hy1 := hY.frozen 1; have hy2 := hY.frozen 2; have hy3 := hY.frozen 3; obtain ⟨hx0, hx1, hx2, hx3⟩ := hY.facts
    obtain ⟨⟨hf0, hf1, hf2⟩, hc0, hc1, hc2⟩ := (H2.out.2.1.next hbq).facts
    obtain ⟨_, hg0, hg1, hg2⟩ := (H2.out.2.2.1.next hbq).facts
    have hn1 := H2.out.2.2.2.2.2.1
    have hn2 := H2.out.2.2.2.2.2.2.1
    have hps := put4_same hY
    unfold put4 at hps
    have HQ := Lib.hid (And.intro (H2.out.2.2.2.1.below hbq) (H2.out.2.2.2.2.1.trans (hbq.mono H2.out.2.2.2.2.1.size)))
    have HY := Lib.hid hY
    clear hbq hk0 hk1 hk2 hY
    go_wp2_with fail
    go_region
    go_wp2_with fail
    (try rw [hps])
    refine bodyPost_ret (v := .tuple #[.agg #[.int .i64 0, .slice none 0 0, .slice none 0 0, .slice none 0 0], .agg #[.int .i64 1, .slice (some ⟨go, 0, none⟩) 2 co, .slice (some ⟨ga, 0, none⟩) 2 ca]]) (by simp [results, Tryd.results25, go_sem, hx0, hx1, hx2, hx3, hc0, hc1, hc2]) rfl ⟨_, _, _, _, _, _, rfl, ?_, ?_⟩
    · exact ⟨rfl, rfl, (wantV_put3g HQ.out.1 H2.out.2.2.2.2.2.2.2.1.1 H2.out.2.2.2.2.2.2.2.2.1 _ _ _).below (Below.refl _ _).drew⟩
    · exact (put3_below HQ.out.2 (by omega) _ _ _).drew
  | none =>
    rw [hk] at hc
    simp only at hc
    obtain ⟨K, S, rfl, rfl, ho⟩ := chkR_none hk
    have cK : ∀ W, IntV W.heap.size W pt ct t → Calls Tryd.prog 54 #[.agg #[.int .i64 (K : Int), .int .i64 (S : Int), .slice pt nt ct]] W (Tells (.agg #[.int .i64 0, .slice none 0 0, .slice none 0 0]) W) := fun W hW => rcheck_ref_ok K S pt nt ct t W hnt hW ho
    cases hq : chkRw (K : Int) a L C R with
    | some y =>
      obtain ⟨j, M'⟩ := y
      rw [hq] at hc
      obtain ⟨rfl, rfl⟩ := Prod.mk.inj (Option.some.inj hc)
      have hM := chkRw_num _ hq
      simp only at hM ⊢
      have ST := Lib.hid (four_boxes w (.int .i64 (K : Int)) (.int .i64 (S : Int)) (.slice pt nt ct) (.int .i64 a) (.slice p n c) (.slice q m d) (.slice s u e))
      have HC := Lib.hid (And.intro cK (fun W h => chk_call K a j M' p q s n c m d u e L C R W h hn hm hu hq))
      have H := Lib.hid (And.intro ht h)
      clear h hn hm hu hc hk ht hnt hq cK ho
      go_enter Tryd.func25, Tryd.ntmps25
      go_upto_region 1 with fail
      obtain ⟨w0, hw0⟩ : ∃ w0, w0 = (((w.alloc (.cells #[.int .i64 (K : Int), .int .i64 (S : Int), .slice pt nt ct] 53)).alloc (.cells #[.int .i64 a, .slice p n c, .slice q m d, .slice s u e] 24)).alloc (.cells #[.int .i64 0, .slice none 0 0, .slice none 0 0, .slice none 0 0] 24)).alloc (.cells #[.int .i64 0, .slice none 0 0, .slice none 0 0] 33) := ⟨_, rfl⟩
      rw [← hw0]
      obtain ⟨hb0, hE0, hF0, hG0, hH0⟩ := ST.out w0 hw0
      have HE := Lib.hid (And.intro hE0 (And.intro hF0 (And.intro hG0 (And.intro hH0 hb0))))
      obtain ⟨_, hr0, hr1, hr2⟩ := hE0.facts
      clear hw0 hE0 hF0 hG0 hH0 hb0
      go_wp2_with fail
      refine (HC.out.1 w0 (H.out.1.next HE.out.2.2.2.2)).mono ?_
      rintro e1 w1 ⟨rfl, hb1⟩
      clear hr0 hr1 hr2
      go_wp2_with fail
      refine (under_ref_none _ _ w1).mono ?_
      rintro e1 w2 ⟨rfl, hb2⟩
      go_upto_region 2 with fail
      obtain ⟨wB, hwB⟩ : ∃ x, x = w2.alloc (.cells #[.int .i64 0, .slice none 0 0, .slice none 0 0] 33) := ⟨_, rfl⟩
      rw [← hwB]
      obtain ⟨hbB, hEB⟩ := box_err w2 _ _ _ wB hwB
      obtain ⟨g8, hg8⟩ : ∃ x, w2.heap.size = x := ⟨_, rfl⟩
      rw [hg8] at hEB ⊢
      have h0B := (hb1.trans (hb2.mono hb1.size)).trans (hbB.mono (Nat.le_trans hb1.size hb2.size))
      have hlt0 := HE.out.2.2.2.1.lt
      have hs1 := hb1.size
      have hs2 := hb2.size
      have H1 := Lib.hid (And.intro (HE.out.1.next h0B) (And.intro (HE.out.2.1.next h0B) (And.intro (HE.out.2.2.1.next h0B) (And.intro (HE.out.2.2.2.1.next h0B) (And.intro hEB (And.intro (HE.out.2.2.2.2.trans (h0B.mono HE.out.2.2.2.2.size)) (show g8 ≠ w.heap.size + 1 + 1 + 1 ∧ g8 ≠ w.heap.size + 1 + 1 ∧ w.heap.size ≤ g8 from ⟨by omega, by omega, by omega⟩)))))))
      obtain ⟨_, hk0, hk1, hk2⟩ := hEB.facts
      clear hwB hbB hEB hg8 h0B hlt0 hs1 hs2 hb1 hb2
      go_wp2_with fail
      refine (badG_no _ _ wB).mono ?_
      rintro e1 wC ⟨rfl, hbC⟩
      have H2 := Lib.hid (And.intro (H1.out.1.next hbC) (And.intro (H1.out.2.1.next hbC) (And.intro (H1.out.2.2.1.next hbC) (And.intro (H1.out.2.2.2.1.next hbC) (And.intro (H1.out.2.2.2.2.1.next hbC) (And.intro (H1.out.2.2.2.2.2.1.trans (hbC.mono H1.out.2.2.2.2.2.1.size)) H1.out.2.2.2.2.2.2))))))
      clear hbC hk0 hk1 hk2
      obtain ⟨_, hr0, hr1, hr2⟩ := H2.out.1.facts
      obtain ⟨hd0, hd1, hd2, hd3⟩ := H2.out.2.1.facts
      go_wp2_with fail
      refine (HC.out.2 wC (H.out.2.next H2.out.2.2.2.2.2.1)).mono ?_
      rintro e1 w2 ⟨go, ga, co, ca, rfl, hgo, hga, hwv, hb2⟩
      obtain ⟨⟨hf0, hf1, hf2⟩, hk0, hk1, hk2⟩ := (H2.out.2.2.2.2.1.next hb2).facts
      have hlt8 := H2.out.2.2.2.2.1.lt
      have hlt0 := H2.out.2.2.2.1.lt
      have H3 := Lib.hid (And.intro (H2.out.2.2.1.next hb2) (And.intro (H2.out.2.2.2.1.next hb2) (And.intro (H2.out.2.2.2.2.1.next hb2) (And.intro hwv (And.intro (H2.out.2.2.2.2.2.1.trans (hb2.mono H2.out.2.2.2.2.2.1.size)) (show (go ≠ g8 ∧ ga ≠ g8) ∧ (go ≠ w.heap.size + 1 + 1 + 1 ∧ go ≠ w.heap.size + 1 + 1) ∧ ga ≠ w.heap.size + 1 + 1 + 1 ∧ ga ≠ w.heap.size + 1 + 1 from ⟨⟨by omega, by omega⟩, ⟨by omega, by omega⟩, by omega, by omega⟩))))))
      clear hb2 hgo hga hwv hlt8 hlt0 hr0 hr1 hr2 hd0 hd1 hd2 hd3
      go_upto_region 4 with fail
      obtain ⟨wS, hwS⟩ : ∃ x, x = put3 w2 g8 (.int .i64 (M' : Int)) (.slice (some ⟨go, 0, none⟩) 1 co) (.slice (some ⟨ga, 0, none⟩) 1 ca) := ⟨_, rfl⟩
      have hq := H2.out.2.2.2.2.2.2
      have H2' := Lib.hid (show Row4 wS (w.heap.size + 1 + 1) (.int .i64 0) (.slice none 0 0) (.slice none 0 0) (.slice none 0 0) ∧ Err3 wS (w.heap.size + 1 + 1 + 1) (.int .i64 0) (.slice none 0 0) (.slice none 0 0) ∧ Err3 wS g8 (.int .i64 (M' : Int)) (.slice (some ⟨go, 0, none⟩) 1 co) (.slice (some ⟨ga, 0, none⟩) 1 ca) ∧ WantV wS (some ⟨go, 0, none⟩) (some ⟨ga, 0, none⟩) co ca [(rowOp, (j : Int))] ∧ Below w.heap.size w wS ∧ (g8 ≠ w.heap.size + 1 + 1 + 1 ∧ g8 ≠ w.heap.size + 1 + 1 ∧ (go ≠ w.heap.size + 1 + 1 + 1 ∧ go ≠ w.heap.size + 1 + 1) ∧ ga ≠ w.heap.size + 1 + 1 + 1 ∧ ga ≠ w.heap.size + 1 + 1) from by
        rw [hwS]
        exact ⟨H3.out.1.put3Other (fun e => hq.2.1 e.symm) _ _ _, H3.out.2.1.putOther (fun e => hq.1 e.symm) _ _ _, H3.out.2.2.1.put _ _ _, wantV_put3g H3.out.2.2.2.1 H3.out.2.2.2.2.2.1.1 H3.out.2.2.2.2.2.1.2 _ _ _, put3_below H3.out.2.2.2.2.1 hq.2.2 _ _ _, hq.1, hq.2.1, H3.out.2.2.2.2.2.2⟩)
      unfold put3 at hwS
      rw [← hwS]
      clear hwS hf0 hf1 hf2 hk0 hk1 hk2 hq
      have H2 := H2'
      clear H2'
      obtain ⟨_, hk0, hk1, hk2⟩ := H2.out.2.2.1.facts
      go_wp2_with fail
      refine (badG_yes (M' : Int) (by omega) _ _ wS).mono ?_
      rintro e1 wq ⟨rfl, hbq⟩
      have hY := H2.out.1.next hbq
      have hy0 := hY.frozen 0; have hy1 := hY.frozen 1; have hy2 := hY.frozen 2; have hy3 := hY.frozen 3; obtain ⟨hx0, hx1, hx2, hx3⟩ := hY.facts
      obtain ⟨⟨hf0, hf1, hf2⟩, hc0, hc1, hc2⟩ := (H2.out.2.1.next hbq).facts
      obtain ⟨_, hg0, hg1, hg2⟩ := (H2.out.2.2.1.next hbq).facts
      have hn1 := H2.out.2.2.2.2.2.1
      have hn2 := H2.out.2.2.2.2.2.2.1
      have hps := put4_same hY
      unfold put4 at hps
      have HQ := Lib.hid (And.intro (H2.out.2.2.2.1.below hbq) (H2.out.2.2.2.2.1.trans (hbq.mono H2.out.2.2.2.2.1.size)))
      have HY := Lib.hid hY
      clear hbq hk0 hk1 hk2 hY
      go_wp2_with fail
      go_region
      go_wp2_with fail
      (try rw [hps])
      refine bodyPost_ret (v := .tuple #[.agg #[.int .i64 0, .slice none 0 0, .slice none 0 0, .slice none 0 0], .agg #[.int .i64 (M' : Int), .slice (some ⟨go, 0, none⟩) 1 co, .slice (some ⟨ga, 0, none⟩) 1 ca]]) (by simp [results, Tryd.results25, go_sem, hx0, hx1, hx2, hx3, hc0, hc1, hc2]) rfl ⟨_, _, _, _, _, _, rfl, ?_, ?_⟩
      · exact ⟨rfl, rfl, (wantV_put3g HQ.out.1 H2.out.2.2.2.2.2.2.2.1.1 H2.out.2.2.2.2.2.2.2.2.1 _ _ _).below (Below.refl _ _).drew⟩
      · exact (put3_below HQ.out.2 (by omega) _ _ _).drew
    | none =>
      rw [hq] at hc
      simp only at hc
      obtain ⟨K', hK, hw⟩ := chkRw_none hq
      obtain rfl : K = K' := by omega
      have h3 := ho.r3
      have a1 := hw.a1
      have a2 := hw.a2
      have zm : m ≤ 16384 := by have := hw.c1; have := h.hm; omega
      have hml := h.hm
      have ST := Lib.hid (four_boxes w (.int .i64 (K : Int)) (.int .i64 (S : Int)) (.slice pt nt ct) (.int .i64 a) (.slice p n c) (.slice q m d) (.slice s u e))
      have waS : IntKind.i64.wrap (a - (S : Int)) = a - (S : Int) := by rw [IntWalk.i64_in _ (by omega)]
      have w2S : IntKind.i64.wrap (2 * (S : Int)) = 2 * (S : Int) := by rw [IntWalk.i64_in _ (by omega)]
      have wm2 : IntKind.i64.wrap ((m : Int) + 2 * (S : Int)) = (m : Int) + 2 * (S : Int) := by rw [IntWalk.i64_in _ (by omega)]
      have HC := Lib.hid (And.intro cK (And.intro (fun W h => rchk_ref_ok K a p q s n c m d u e L C R W h hw) trivial))
      have H := Lib.hid (And.intro ht h)
      split at hc
      · rename_i hA
        obtain ⟨rfl, rfl⟩ := Prod.mk.inj (Option.some.inj hc)
        clear h hn hm hu hc hk ht hnt hq cK ho hw h3 a1 a2 zm hml
        go_enter Tryd.func25, Tryd.ntmps25
        go_upto_region 1 with fail
        obtain ⟨w0, hw0⟩ : ∃ w0, w0 = (((w.alloc (.cells #[.int .i64 (K : Int), .int .i64 (S : Int), .slice pt nt ct] 53)).alloc (.cells #[.int .i64 a, .slice p n c, .slice q m d, .slice s u e] 24)).alloc (.cells #[.int .i64 0, .slice none 0 0, .slice none 0 0, .slice none 0 0] 24)).alloc (.cells #[.int .i64 0, .slice none 0 0, .slice none 0 0] 33) := ⟨_, rfl⟩
        rw [← hw0]
        obtain ⟨hb0, hE0, hF0, hG0, hH0⟩ := ST.out w0 hw0
        have HE := Lib.hid (And.intro hE0 (And.intro hF0 (And.intro hG0 (And.intro hH0 hb0))))
        obtain ⟨_, hr0, hr1, hr2⟩ := hE0.facts
        clear hw0 hE0 hF0 hG0 hH0 hb0
        go_wp2_with fail
        refine (HC.out.1 w0 (H.out.1.next HE.out.2.2.2.2)).mono ?_
        rintro e1 w1 ⟨rfl, hb1⟩
        clear hr0 hr1 hr2
        go_wp2_with fail
        refine (under_ref_none _ _ w1).mono ?_
        rintro e1 w2 ⟨rfl, hb2⟩
        go_upto_region 2 with fail
        obtain ⟨wB, hwB⟩ : ∃ x, x = w2.alloc (.cells #[.int .i64 0, .slice none 0 0, .slice none 0 0] 33) := ⟨_, rfl⟩
        rw [← hwB]
        obtain ⟨hbB, hEB⟩ := box_err w2 _ _ _ wB hwB
        obtain ⟨g8, hg8⟩ : ∃ x, w2.heap.size = x := ⟨_, rfl⟩
        rw [hg8] at hEB ⊢
        have h0B := (hb1.trans (hb2.mono hb1.size)).trans (hbB.mono (Nat.le_trans hb1.size hb2.size))
        have hlt0 := HE.out.2.2.2.1.lt
        have hs1 := hb1.size
        have hs2 := hb2.size
        have H1 := Lib.hid (And.intro (HE.out.1.next h0B) (And.intro (HE.out.2.1.next h0B) (And.intro (HE.out.2.2.1.next h0B) (And.intro (HE.out.2.2.2.1.next h0B) (And.intro hEB (And.intro (HE.out.2.2.2.2.trans (h0B.mono HE.out.2.2.2.2.size)) (show g8 ≠ w.heap.size + 1 + 1 + 1 ∧ g8 ≠ w.heap.size + 1 + 1 ∧ w.heap.size ≤ g8 from ⟨by omega, by omega, by omega⟩)))))))
        obtain ⟨_, hk0, hk1, hk2⟩ := hEB.facts
        clear hwB hbB hEB hg8 h0B hlt0 hs1 hs2 hb1 hb2
        go_wp2_with fail
        refine (badG_no _ _ wB).mono ?_
        rintro e1 wC ⟨rfl, hbC⟩
        have H2 := Lib.hid (And.intro (H1.out.1.next hbC) (And.intro (H1.out.2.1.next hbC) (And.intro (H1.out.2.2.1.next hbC) (And.intro (H1.out.2.2.2.1.next hbC) (And.intro (H1.out.2.2.2.2.1.next hbC) (And.intro (H1.out.2.2.2.2.2.1.trans (hbC.mono H1.out.2.2.2.2.2.1.size)) H1.out.2.2.2.2.2.2))))))
        clear hbC hk0 hk1 hk2
        obtain ⟨_, hr0, hr1, hr2⟩ := H2.out.1.facts
        obtain ⟨hd0, hd1, hd2, hd3⟩ := H2.out.2.1.facts
        go_wp2_with fail
        refine (HC.out.2.1 wC (H.out.2.next H2.out.2.2.2.2.2.1)).mono ?_
        rintro e1 w2 ⟨rfl, hb2⟩
        obtain ⟨⟨hf0, hf1, hf2⟩, hk0, hk1, hk2⟩ := (H2.out.2.2.2.2.1.next hb2).facts
        have hps := put3_sameE (H2.out.2.2.2.2.1.next hb2)
        unfold put3 at hps
        have H3 := Lib.hid (And.intro (H2.out.1.next hb2) (And.intro (H2.out.2.1.next hb2) (And.intro (H2.out.2.2.1.next hb2) (And.intro (H2.out.2.2.2.1.next hb2) (And.intro (H2.out.2.2.2.2.2.1.trans (hb2.mono H2.out.2.2.2.2.2.1.size)) H2.out.2.2.2.2.2.2)))))
        clear hb2 hr0 hr1 hr2 hd0 hd1 hd2 hd3
        go_upto_region 4 with fail
        (try rw [hps])
        clear hps hf0 hf1 hf2
        go_wp2_with fail
        refine (badG_no _ _ w2).mono ?_
        rintro e1 w4 ⟨rfl, hb4⟩
        have H4 := Lib.hid (And.intro (H3.out.1.next hb4) (And.intro (H3.out.2.1.next hb4) (And.intro (H3.out.2.2.1.next hb4) (And.intro (H3.out.2.2.2.1.next hb4) (And.intro (H3.out.2.2.2.2.1.trans (hb4.mono H3.out.2.2.2.2.1.size)) H3.out.2.2.2.2.2)))))
        clear hb4 hk0 hk1 hk2
        obtain ⟨_, hr0, hr1, hr2⟩ := H4.out.1.facts
        obtain ⟨hd0, hd1, hd2, hd3⟩ := H4.out.2.1.facts
        go_wp2_with fail
        refine (raw_fresh rowOp 1 3 w4).mono ?_
        rintro e1 w5 ⟨go, ga, rfl, hg, hcg, hcg', hb5⟩
        have hY := H4.out.2.2.1.next hb5
        have hy0 := hY.frozen 0; have hy1 := hY.frozen 1; have hy2 := hY.frozen 2; have hy3 := hY.frozen 3; obtain ⟨hx0, hx1, hx2, hx3⟩ := hY.facts
        obtain ⟨⟨hf0, hf1, hf2⟩, hc0, hc1, hc2⟩ := (H4.out.2.2.2.1.next hb5).facts
        have hps := put4_same hY
        unfold put4 at hps
        have HB := Lib.hid (fun x1 y1 z1 => UnderPost.laid (op := rowOp) (pl := 1) (a := 3) H4.out.2.2.2.2.1 (show w.heap.size ≤ w.heap.size + 1 + 1 + 1 by omega) H4.out.2.2.2.1.lt hg hcg hcg' hb5 x1 y1 z1)
        clear hb5 hcg hcg' hg hY hr0 hr1 hr2 hd0 hd1 hd2 hd3
        go_wp2_with fail
        (try rw [hps])
        refine bodyPost_ret (v := .tuple #[.agg #[.int .i64 0, .slice none 0 0, .slice none 0 0, .slice none 0 0], .agg #[.int .i64 3, .slice (some ⟨go, 0, none⟩) 1 1, .slice (some ⟨ga, 0, none⟩) 1 1]]) (by simp [results, Tryd.results25, go_sem, hx0, hx1, hx2, hx3, hc0, hc1, hc2]) rfl ?_
        obtain ⟨xo, xa, yo, ya, hxe, _, _, hwv, hbz⟩ := HB.out (.int .i64 3) (.slice (some ⟨go, 0, none⟩) 1 1) (.slice (some ⟨ga, 0, none⟩) 1 1)
        obtain ⟨⟨rfl, rfl⟩, rfl, rfl⟩ : (go = xo ∧ 1 = yo) ∧ ga = xa ∧ 1 = ya := by simpa using hxe
        exact ⟨_, _, _, _, _, _, rfl, ⟨rfl, rfl, hwv⟩, hbz⟩
      · split at hc
        · rename_i hA hB0
          have hB : (16384 : Int) < (m : Int) + 2 * (S : Int) := by rw [hml]; rw [Int.toNat_natCast] at hB0; omega
          obtain ⟨rfl, rfl⟩ := Prod.mk.inj (Option.some.inj hc)
          clear h hn hm hu hc hk ht hnt hq cK ho hw h3 a1 a2 zm hml hB0
          go_enter Tryd.func25, Tryd.ntmps25
          go_upto_region 1 with fail
          obtain ⟨w0, hw0⟩ : ∃ w0, w0 = (((w.alloc (.cells #[.int .i64 (K : Int), .int .i64 (S : Int), .slice pt nt ct] 53)).alloc (.cells #[.int .i64 a, .slice p n c, .slice q m d, .slice s u e] 24)).alloc (.cells #[.int .i64 0, .slice none 0 0, .slice none 0 0, .slice none 0 0] 24)).alloc (.cells #[.int .i64 0, .slice none 0 0, .slice none 0 0] 33) := ⟨_, rfl⟩
          rw [← hw0]
          obtain ⟨hb0, hE0, hF0, hG0, hH0⟩ := ST.out w0 hw0
          have HE := Lib.hid (And.intro hE0 (And.intro hF0 (And.intro hG0 (And.intro hH0 hb0))))
          obtain ⟨_, hr0, hr1, hr2⟩ := hE0.facts
          clear hw0 hE0 hF0 hG0 hH0 hb0
          go_wp2_with fail
          refine (HC.out.1 w0 (H.out.1.next HE.out.2.2.2.2)).mono ?_
          rintro e1 w1 ⟨rfl, hb1⟩
          clear hr0 hr1 hr2
          go_wp2_with fail
          refine (under_ref_none _ _ w1).mono ?_
          rintro e1 w2 ⟨rfl, hb2⟩
          go_upto_region 2 with fail
          obtain ⟨wB, hwB⟩ : ∃ x, x = w2.alloc (.cells #[.int .i64 0, .slice none 0 0, .slice none 0 0] 33) := ⟨_, rfl⟩
          rw [← hwB]
          obtain ⟨hbB, hEB⟩ := box_err w2 _ _ _ wB hwB
          obtain ⟨g8, hg8⟩ : ∃ x, w2.heap.size = x := ⟨_, rfl⟩
          rw [hg8] at hEB ⊢
          have h0B := (hb1.trans (hb2.mono hb1.size)).trans (hbB.mono (Nat.le_trans hb1.size hb2.size))
          have hlt0 := HE.out.2.2.2.1.lt
          have hs1 := hb1.size
          have hs2 := hb2.size
          have H1 := Lib.hid (And.intro (HE.out.1.next h0B) (And.intro (HE.out.2.1.next h0B) (And.intro (HE.out.2.2.1.next h0B) (And.intro (HE.out.2.2.2.1.next h0B) (And.intro hEB (And.intro (HE.out.2.2.2.2.trans (h0B.mono HE.out.2.2.2.2.size)) (show g8 ≠ w.heap.size + 1 + 1 + 1 ∧ g8 ≠ w.heap.size + 1 + 1 ∧ w.heap.size ≤ g8 from ⟨by omega, by omega, by omega⟩)))))))
          obtain ⟨_, hk0, hk1, hk2⟩ := hEB.facts
          clear hwB hbB hEB hg8 h0B hlt0 hs1 hs2 hb1 hb2
          go_wp2_with fail
          refine (badG_no _ _ wB).mono ?_
          rintro e1 wC ⟨rfl, hbC⟩
          have H2 := Lib.hid (And.intro (H1.out.1.next hbC) (And.intro (H1.out.2.1.next hbC) (And.intro (H1.out.2.2.1.next hbC) (And.intro (H1.out.2.2.2.1.next hbC) (And.intro (H1.out.2.2.2.2.1.next hbC) (And.intro (H1.out.2.2.2.2.2.1.trans (hbC.mono H1.out.2.2.2.2.2.1.size)) H1.out.2.2.2.2.2.2))))))
          clear hbC hk0 hk1 hk2
          obtain ⟨_, hr0, hr1, hr2⟩ := H2.out.1.facts
          obtain ⟨hd0, hd1, hd2, hd3⟩ := H2.out.2.1.facts
          go_wp2_with fail
          refine (HC.out.2.1 wC (H.out.2.next H2.out.2.2.2.2.2.1)).mono ?_
          rintro e1 w2 ⟨rfl, hb2⟩
          obtain ⟨⟨hf0, hf1, hf2⟩, hk0, hk1, hk2⟩ := (H2.out.2.2.2.2.1.next hb2).facts
          have hps := put3_sameE (H2.out.2.2.2.2.1.next hb2)
          unfold put3 at hps
          have H3 := Lib.hid (And.intro (H2.out.1.next hb2) (And.intro (H2.out.2.1.next hb2) (And.intro (H2.out.2.2.1.next hb2) (And.intro (H2.out.2.2.2.1.next hb2) (And.intro (H2.out.2.2.2.2.2.1.trans (hb2.mono H2.out.2.2.2.2.2.1.size)) H2.out.2.2.2.2.2.2)))))
          clear hb2 hr0 hr1 hr2 hd0 hd1 hd2 hd3
          go_upto_region 4 with fail
          (try rw [hps])
          clear hps hf0 hf1 hf2
          go_wp2_with fail
          refine (badG_no _ _ w2).mono ?_
          rintro e1 w4 ⟨rfl, hb4⟩
          have H4 := Lib.hid (And.intro (H3.out.1.next hb4) (And.intro (H3.out.2.1.next hb4) (And.intro (H3.out.2.2.1.next hb4) (And.intro (H3.out.2.2.2.1.next hb4) (And.intro (H3.out.2.2.2.2.1.trans (hb4.mono H3.out.2.2.2.2.1.size)) H3.out.2.2.2.2.2)))))
          clear hb4 hk0 hk1 hk2
          obtain ⟨_, hr0, hr1, hr2⟩ := H4.out.1.facts
          obtain ⟨hd0, hd1, hd2, hd3⟩ := H4.out.2.1.facts
          go_wp2_with fail
          refine (raw_fresh rowOp 4 4 w4).mono ?_
          rintro e1 w5 ⟨go, ga, rfl, hg, hcg, hcg', hb5⟩
          have hY := H4.out.2.2.1.next hb5
          have hy0 := hY.frozen 0; have hy1 := hY.frozen 1; have hy2 := hY.frozen 2; have hy3 := hY.frozen 3; obtain ⟨hx0, hx1, hx2, hx3⟩ := hY.facts
          obtain ⟨⟨hf0, hf1, hf2⟩, hc0, hc1, hc2⟩ := (H4.out.2.2.2.1.next hb5).facts
          have hps := put4_same hY
          unfold put4 at hps
          have HB := Lib.hid (fun x1 y1 z1 => UnderPost.laid (op := rowOp) (pl := 4) (a := 4) H4.out.2.2.2.2.1 (show w.heap.size ≤ w.heap.size + 1 + 1 + 1 by omega) H4.out.2.2.2.1.lt hg hcg hcg' hb5 x1 y1 z1)
          clear hb5 hcg hcg' hg hY hr0 hr1 hr2 hd0 hd1 hd2 hd3
          go_wp2_with fail
          (try rw [hps])
          refine bodyPost_ret (v := .tuple #[.agg #[.int .i64 0, .slice none 0 0, .slice none 0 0, .slice none 0 0], .agg #[.int .i64 4, .slice (some ⟨go, 0, none⟩) 1 1, .slice (some ⟨ga, 0, none⟩) 1 1]]) (by simp [results, Tryd.results25, go_sem, hx0, hx1, hx2, hx3, hc0, hc1, hc2]) rfl ?_
          obtain ⟨xo, xa, yo, ya, hxe, _, _, hwv, hbz⟩ := HB.out (.int .i64 4) (.slice (some ⟨go, 0, none⟩) 1 1) (.slice (some ⟨ga, 0, none⟩) 1 1)
          obtain ⟨⟨rfl, rfl⟩, rfl, rfl⟩ : (go = xo ∧ 1 = yo) ∧ ga = xa ∧ 1 = ya := by simpa using hxe
          exact ⟨_, _, _, _, _, _, rfl, ⟨rfl, rfl, hwv⟩, hbz⟩
        · cases hc
end Go.Proofs.YtfgoflaeclfggaaDoor
