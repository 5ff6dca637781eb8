/- RingSteps: its walk. -/
import Derived.Test.YtgdjnohhofbcnaaDoorB4
import Derived.Test.YtgdjnohhofbcnaaDoorBRgR
namespace Go.Proofs.YtgdjnohhofbcnaaDoor
open Go.RowKit Go.Extern.Stop Go.Stop Go.Extern WordM RuleM NatM

set_option maxRecDepth 100000 in
set_option maxHeartbeats 32000000 in
theorem rsteps_any (k r z : Int) (p q : Option Addr) (n c m d : Nat) (t l : List Int) (w : World) (A : Nat → Addr) (hr : Roots w A) (hT : TypeVar w) (hn : n = t.length) (hm : m = l.length) (h : IntV w.heap.size w p c t) (h' : IntV w.heap.size w q d l) (hlt : t.length ≤ 17592186043904) (hll : l.length ≤ 17592186043904) (hz1 : -9223372036854775808 ≤ z) (hz2 : z ≤ 9223372036854775807) :
    Calls Tryd.prog 3 #[.agg #[.int .i64 k, .int .i64 r, .slice p n c], .slice q m d, .int .i64 z] w (Tells (.bool true) w) := by
  have ST := Lib.hid (box_rule w (.int .i64 k) (.int .i64 r) (.slice p n c))
  obtain ⟨X, hX⟩ : ∃ x, chkG k r t l = x := ⟨_, rfl⟩
  obtain ⟨Y, hY⟩ : ∃ x, chkA k r t l z = x := ⟨_, rfl⟩
  have hXn : ∀ y, X = some y → 1 ≤ y.2 ∧ y.2 ≤ 11 := fun y hy => chkG_num y (hX.trans hy)
  have hYn : ∀ y, Y = some y → 1 ≤ y.2 ∧ y.2 ≤ 11 := fun y hy => chkA_num y (hY.trans hy)
  obtain ⟨S, hS⟩ : ∃ x, lsS k r t l = x := ⟨_, rfl⟩
  obtain ⟨F, hF⟩ : ∃ x, lsA k r t l z = x := ⟨_, rfl⟩
  obtain ⟨U, hU⟩ : ∃ x, lsT k r t l z = x := ⟨_, rfl⟩
  obtain ⟨nS, hnS⟩ : ∃ x, S.length = x := ⟨_, rfl⟩
  obtain ⟨nF, hnF⟩ : ∃ x, F.length = x := ⟨_, rfl⟩
  obtain ⟨nU, hnU⟩ : ∃ x, U.length = x := ⟨_, rfl⟩
  have cSP : ∀ W p' q' c' d', Roots W A → TypeVar W → IntV W.heap.size W p' c' t → IntV W.heap.size W q' d' l → Calls Tryd.prog 12 #[.agg #[.int .i64 k, .int .i64 r, .slice p' n c'], .slice q' m d'] W (ProgL W A X S) := fun W p' q' c' d' a b e f => by rw [← hX, ← hS]; exact stepP k r p' q' n c' m d' t l W A a b hn hm e f
  have cSR : ∀ W p' q' c' d', IntV W.heap.size W p' c' t → IntV W.heap.size W q' d' l → Calls Tryd.prog 13 #[.agg #[.int .i64 k, .int .i64 r, .slice p' n c'], .slice q' m d'] W (RefL W X S) := fun W p' q' c' d' e f => by rw [← hX, ← hS]; exact stepR k r p' q' n c' m d' t l W hn hm e f
  have cFP : ∀ W p' q' c' d', Roots W A → TypeVar W → IntV W.heap.size W p' c' t → IntV W.heap.size W q' d' l → Calls Tryd.prog 14 #[.agg #[.int .i64 k, .int .i64 r, .slice p' n c'], .slice q' m d', .int .i64 z] W (ProgL W A Y F) := fun W p' q' c' d' a b e f => by rw [← hY, ← hF]; exact afterP k r z p' q' n c' m d' t l W A a b hn hm e f
  have cFR : ∀ W p' q' c' d', IntV W.heap.size W p' c' t → IntV W.heap.size W q' d' l → Calls Tryd.prog 15 #[.agg #[.int .i64 k, .int .i64 r, .slice p' n c'], .slice q' m d', .int .i64 z] W (RefL W Y F) := fun W p' q' c' d' e f => by rw [← hY, ← hF]; exact afterR k r z p' q' n c' m d' t l W hn hm e f hz1 hz2
  have cUP : ∀ W p' q' c' d', Roots W A → TypeVar W → IntV W.heap.size W p' c' t → IntV W.heap.size W q' d' l → Calls Tryd.prog 16 #[.agg #[.int .i64 k, .int .i64 r, .slice p' n c'], .slice q' m d', .int .i64 z] W (ProgL W A Y U) := fun W p' q' c' d' a b e f => by rw [← hY, ← hU]; exact traceP k r z p' q' n c' m d' t l W A a b hn hm e f
  have cUR : ∀ W p' q' c' d', IntV W.heap.size W p' c' t → IntV W.heap.size W q' d' l → Calls Tryd.prog 17 #[.agg #[.int .i64 k, .int .i64 r, .slice p' n c'], .slice q' m d', .int .i64 z] W (RefL W Y U) := fun W p' q' c' d' e f => by rw [← hY, ← hU]; exact traceR k r z p' q' n c' m d' t l W hn hm e f hz1 hz2
  have cL : ∀ W, IntV W.heap.size W p c t → Calls Tryd.prog 10 #[.agg #[.int .i64 k, .int .i64 r, .slice p n c]] W fun e w' => ∃ g, e = .returned (.agg #[.int .i64 k, .int .i64 r, .slice (some ⟨g, 0, none⟩) n (n + 2)]) ∧ W.heap.size ≤ g ∧ LentI w' g t ∧ Below W.heap.size W w' := fun W hW => by
    have h1 := lentR_any k r p n c t W hn hW hlt
    unfold LentR at h1
    rw [← hn] at h1
    exact h1
  have cM : ∀ W, IntV W.heap.size W q d l → Calls Tryd.prog 11 #[.slice q m d] W fun e w' => e = .returned (.slice (some ⟨W.heap.size, 0, none⟩) m (m + 2)) ∧ LentI w' W.heap.size l ∧ Below W.heap.size W w' := fun W hW => by
    have h1 := lentI_any q d l W hW hll
    unfold LentPostI at h1
    rw [← hm] at h1
    exact h1
  have cKR : ∀ W g, LentI W g t → IntV W.heap.size W p c t → Calls Tryd.prog 20 #[.agg #[.int .i64 k, .int .i64 r, .slice (some ⟨g, 0, none⟩) n (n + 2)], .agg #[.int .i64 k, .int .i64 r, .slice p n c]] W (Tells (.bool true) W) := fun W g hg hW => keptR_any g k r p n (n + 2) c t W hg hW hlt hn (by omega)
  have cK : ∀ W g, LentI W g l → IntV W.heap.size W q d l → Calls Tryd.prog 21 #[.slice (some ⟨g, 0, none⟩) m (m + 2), .slice q m d] W (Tells (.bool true) W) := fun W g hg hW => by
    have h1 := keptI_any g q m (m + 2) d l W hg hW hll hm (by omega)
    rw [← hm] at h1
    exact h1
  have vT : ∀ W g, LentI W g t → IntV W.heap.size W (some ⟨g, 0, none⟩) (n + 2) t := fun W g hg => hg.vn (by omega) hlt
  have vL : ∀ W g, LentI W g l → IntV W.heap.size W (some ⟨g, 0, none⟩) (m + 2) l := fun W g hg => hg.vn (by omega) hll
  have C := Lib.hid (And.intro cSP (And.intro cSR (And.intro cFP (And.intro cFR (And.intro cUP cUR)))))
  have D := Lib.hid (And.intro cL (And.intro cM (And.intro cKR (And.intro cK (And.intro vT vL)))))
  have H := Lib.hid (And.intro hr (And.intro hT (And.intro h (And.intro h' (And.intro hXn (And.intro hYn (And.intro hnS (And.intro hnF hnU))))))))
  clear hr hT hn hm h h' hlt hll hz1 hz2 hX hY hXn hYn hS hF hU hnS hnF hnU cSP cSR cFP cFR cUP cUR cL cM cKR cK vT vL
  go_enter Tryd.func3, Tryd.ntmps3
  go_upto_region 1 with fail
  obtain ⟨w0, hw0⟩ : ∃ w0, w0 = w.alloc (.cells #[.int .i64 k, .int .i64 r, .slice p n c] 24) := ⟨_, rfl⟩
  rw [← hw0]
  obtain ⟨hb0, hE0⟩ := ST.out w0 hw0
  have HE := Lib.hid (And.intro hE0 hb0)
  clear hw0 hE0 hb0
  go_wp2_with fail
  refine (awakeG w0 A (H.out.1.below HE.out.2)).mono ?_
  rintro e w1 ⟨rfl, hb1⟩
  have H1 := Lib.hid (And.intro (HE.out.2.trans (hb1.mono HE.out.2.size)) (HE.out.1.next hb1))
  clear hb1
  obtain ⟨_, hc0, hc1, hc2⟩ := H1.out.2.facts
  go_wp2_with fail
  refine (D.out.1 w1 (H.out.2.2.1.next H1.out.1)).mono ?_
  rintro e w2 ⟨g, rfl, _, hLg, hb2⟩
  clear hc0 hc1 hc2
  go_upto_region 4 with fail
  obtain ⟨w3, hw3⟩ : ∃ x, x = w2.alloc (.cells #[.int .i64 k, .int .i64 r, .slice (some ⟨g, 0, none⟩) n (n + 2)] 24) := ⟨_, rfl⟩
  obtain ⟨hb3, hE3⟩ := box_rule w2 _ _ _ w3 hw3
  rw [← hw3]
  obtain ⟨g7, hg7⟩ : ∃ x, w2.heap.size = x := ⟨_, rfl⟩
  rw [hg7] at hE3 ⊢
  have h13 := hb2.trans (hb3.mono hb2.size)
  have H3 := Lib.hid (And.intro (H1.out.1.trans (h13.mono H1.out.1.size)) (And.intro (H1.out.2.next h13) (And.intro hE3 (hLg.below hb3))))
  clear hw3 hb3 hE3 hg7 h13 hLg hb2
  go_wp2_with fail
  refine (D.out.2.1 w3 (H.out.2.2.2.1.next H3.out.1)).mono ?_
  rintro e w4 ⟨rfl, hLl, hb4⟩
  obtain ⟨gl, hgl⟩ : ∃ x, w3.heap.size = x := ⟨_, rfl⟩
  rw [hgl] at hLl ⊢
  have H4 := Lib.hid (And.intro (H3.out.1.trans (hb4.mono H3.out.1.size)) (And.intro (H3.out.2.1.next hb4) (And.intro (H3.out.2.2.1.next hb4) (And.intro (H3.out.2.2.2.below hb4) hLl))))
  clear hLl hb4 hgl
  have K4 := Lib.hid (Si.start w4)
  obtain ⟨_, hc0, hc1, hc2⟩ := (H4.out.2.2.1.next K4.out.below).facts
  go_wp2_with fail
  refine (C.out.1 w4 _ _ _ _ ((H.out.1.below H4.out.1).below K4.out.below) ((H.out.2.1.below H4.out.1).below K4.out.below) (D.out.2.2.2.2.1 _ _ (H4.out.2.2.2.1.below K4.out.below)) (D.out.2.2.2.2.2 _ _ (H4.out.2.2.2.2.below K4.out.below))).mono ?_
  rintro e w5 ⟨pa, ca, va, rfl, hoo, hpc, hbb⟩
  rw [H.out.2.2.2.2.2.2.1]
  have K5 := Lib.hid ((K4.out.next hbb).push hoo.toV)
  have Pa := Lib.hid hpc
  have Na := Lib.hid hbb
  clear hoo hbb hpc hc0 hc1 hc2
  obtain ⟨_, hc0, hc1, hc2⟩ := (H4.out.2.1.next K5.out.below).facts
  go_wp2_with fail
  refine (C.out.2.1 w5 _ _ _ _ ((H.out.2.2.1.next H4.out.1).next K5.out.below) ((H.out.2.2.2.1.next H4.out.1).next K5.out.below)).mono ?_
  rintro e w5r ⟨pb, cb, ab, pob, pab, nb, cob, cab, rfl, hoo, hwc, hbb⟩
  rw [H.out.2.2.2.2.2.2.1]
  clear hc0 hc1 hc2
  go_upto_region 7 with fail
  obtain ⟨w6, hw6⟩ : ∃ x, x = w5r.alloc (.cells #[.int .i64 ab, .slice pob nb cob, .slice pab nb cab] 34) := ⟨_, rfl⟩
  obtain ⟨hbE, hEE⟩ := box_err w5r _ _ _ w6 hw6
  rw [← hw6]
  obtain ⟨gb, hgb⟩ : ∃ x, w5r.heap.size = x := ⟨_, rfl⟩
  rw [hgb] at hEE ⊢
  have K6 := Lib.hid (((K5.out.next hbb).push hoo.toV).next hbE)
  have Pb := Lib.hid (And.intro hEE (hwc.next hbE))
  have Nb := Lib.hid (hbb.trans (hbE.mono hbb.size))
  clear hoo hbb hwc hw6 hbE hEE hgb
  obtain ⟨_, hc0, hc1, hc2⟩ := (H4.out.2.2.1.next K6.out.below).facts
  go_wp2_with fail
  refine (C.out.2.2.1 w6 _ _ _ _ ((H.out.1.below H4.out.1).below K6.out.below) ((H.out.2.1.below H4.out.1).below K6.out.below) (D.out.2.2.2.2.1 _ _ (H4.out.2.2.2.1.below K6.out.below)) (D.out.2.2.2.2.2 _ _ (H4.out.2.2.2.2.below K6.out.below))).mono ?_
  rintro e w7 ⟨pc, cc, vc, rfl, hoo, hpc, hbb⟩
  rw [H.out.2.2.2.2.2.2.2.1]
  have K7 := Lib.hid ((K6.out.next hbb).push hoo.toV)
  have Pc := Lib.hid hpc
  have Nc := Lib.hid hbb
  clear hoo hbb hpc hc0 hc1 hc2
  obtain ⟨_, hc0, hc1, hc2⟩ := (H4.out.2.1.next K7.out.below).facts
  go_wp2_with fail
  refine (C.out.2.2.2.1 w7 _ _ _ _ ((H.out.2.2.1.next H4.out.1).next K7.out.below) ((H.out.2.2.2.1.next H4.out.1).next K7.out.below)).mono ?_
  rintro e w7r ⟨pd, cd, ad, pod, pad, nd, cod, cad, rfl, hoo, hwc, hbb⟩
  rw [H.out.2.2.2.2.2.2.2.1]
  clear hc0 hc1 hc2
  go_upto_region 9 with fail
  obtain ⟨w8, hw8⟩ : ∃ x, x = w7r.alloc (.cells #[.int .i64 ad, .slice pod nd cod, .slice pad nd cad] 34) := ⟨_, rfl⟩
  obtain ⟨hbE, hEE⟩ := box_err w7r _ _ _ w8 hw8
  rw [← hw8]
  obtain ⟨gd, hgd⟩ : ∃ x, w7r.heap.size = x := ⟨_, rfl⟩
  rw [hgd] at hEE ⊢
  have K8 := Lib.hid (((K7.out.next hbb).push hoo.toV).next hbE)
  have Pd := Lib.hid (And.intro hEE (hwc.next hbE))
  have Nd := Lib.hid (hbb.trans (hbE.mono hbb.size))
  clear hoo hbb hwc hw8 hbE hEE hgd
  obtain ⟨_, hc0, hc1, hc2⟩ := (H4.out.2.2.1.next K8.out.below).facts
  go_wp2_with fail
  refine (C.out.2.2.2.2.1 w8 _ _ _ _ ((H.out.1.below H4.out.1).below K8.out.below) ((H.out.2.1.below H4.out.1).below K8.out.below) (D.out.2.2.2.2.1 _ _ (H4.out.2.2.2.1.below K8.out.below)) (D.out.2.2.2.2.2 _ _ (H4.out.2.2.2.2.below K8.out.below))).mono ?_
  rintro e w9 ⟨px, cx, vx, rfl, hoo, hpc, hbb⟩
  rw [H.out.2.2.2.2.2.2.2.2]
  have K9 := Lib.hid ((K8.out.next hbb).push hoo.toV)
  have Px := Lib.hid hpc
  have Nx := Lib.hid hbb
  clear hoo hbb hpc hc0 hc1 hc2
  obtain ⟨_, hc0, hc1, hc2⟩ := (H4.out.2.1.next K9.out.below).facts
  go_wp2_with fail
  refine (C.out.2.2.2.2.2 w9 _ _ _ _ ((H.out.2.2.1.next H4.out.1).next K9.out.below) ((H.out.2.2.2.1.next H4.out.1).next K9.out.below)).mono ?_
  rintro e w9r ⟨py, cy, ay, poy, pay, ny, coy, cay, rfl, hoo, hwc, hbb⟩
  rw [H.out.2.2.2.2.2.2.2.2]
  clear hc0 hc1 hc2
  go_upto_region 11 with fail
  obtain ⟨w10, hw10⟩ : ∃ x, x = w9r.alloc (.cells #[.int .i64 ay, .slice poy ny coy, .slice pay ny cay] 34) := ⟨_, rfl⟩
  obtain ⟨hbE, hEE⟩ := box_err w9r _ _ _ w10 hw10
  rw [← hw10]
  obtain ⟨gy, hgy⟩ : ∃ x, w9r.heap.size = x := ⟨_, rfl⟩
  rw [hgy] at hEE ⊢
  have K10 := Lib.hid (((K9.out.next hbb).push hoo.toV).next hbE)
  have Py := Lib.hid (And.intro hEE (hwc.next hbE))
  have Ny := Lib.hid (hbb.trans (hbE.mono hbb.size))
  clear hoo hbb hwc hw10 hbE hEE hgy
  have E9 := Lib.hid Ny.out
  have E8 := Lib.hid (Nx.out.trans (E9.out.mono Nx.out.size))
  have E7 := Lib.hid (Nd.out.trans (E8.out.mono Nd.out.size))
  have E6 := Lib.hid (Nc.out.trans (E7.out.mono Nc.out.size))
  have E5 := Lib.hid (Nb.out.trans (E6.out.mono Nb.out.size))
  have HR := Lib.hid (And.intro ((H.out.1.below H4.out.1).below K10.out.below) ((H.out.2.1.below H4.out.1).below K10.out.below))
  have G0 := Lib.hid (Below.refl w10.heap.size w10)
  go_wp2_with fail
  refine (ints_any pa pb nS nS ca cb S S w10 H.out.2.2.2.2.2.2.1.symm H.out.2.2.2.2.2.2.1.symm ((K10.out.next G0.out).get 5 rfl) ((K10.out.next G0.out).get 4 rfl)).mono ?_
  rintro e y1 ⟨rfl, hbb⟩
  rw [sameI_self]
  have G1 := Lib.hid (G0.out.trans (hbb.mono G0.out.size))
  clear hbb
  obtain ⟨_, hc0, hc1, hc2⟩ := ((Pb.out.1.next E6.out).next G1.out).facts
  have his := is_wcg (HR.out.1.below G1.out) (HR.out.2.below G1.out) H.out.2.2.2.2.1 ((Pa.out.next E5.out).next G1.out) ((Pb.out.2.next E6.out).next G1.out)
  have HI := Lib.hid his
  clear his
  go_wp2_with fail
  refine HI.out.mono ?_
  rintro e y2 ⟨rfl, hbb⟩
  have G2 := Lib.hid (G1.out.trans (hbb.mono G1.out.size))
  clear hbb hc0 hc1 hc2 HI
  go_wp2_with fail
  refine (ints_any pc pd nF nF cc cd F F y2 H.out.2.2.2.2.2.2.2.1.symm H.out.2.2.2.2.2.2.2.1.symm ((K10.out.next G2.out).get 3 rfl) ((K10.out.next G2.out).get 2 rfl)).mono ?_
  rintro e y3 ⟨rfl, hbb⟩
  rw [sameI_self]
  have G3 := Lib.hid (G2.out.trans (hbb.mono G2.out.size))
  clear hbb
  obtain ⟨_, hc0, hc1, hc2⟩ := ((Pd.out.1.next E8.out).next G3.out).facts
  have his := is_wcg (HR.out.1.below G3.out) (HR.out.2.below G3.out) H.out.2.2.2.2.2.1 ((Pc.out.next E7.out).next G3.out) ((Pd.out.2.next E8.out).next G3.out)
  have HI := Lib.hid his
  clear his
  go_wp2_with fail
  refine HI.out.mono ?_
  rintro e y4 ⟨rfl, hbb⟩
  have G4 := Lib.hid (G3.out.trans (hbb.mono G3.out.size))
  clear hbb hc0 hc1 hc2 HI
  go_wp2_with fail
  refine (ints_any px py nU nU cx cy U U y4 H.out.2.2.2.2.2.2.2.2.symm H.out.2.2.2.2.2.2.2.2.symm ((K10.out.next G4.out).get 1 rfl) ((K10.out.next G4.out).get 0 rfl)).mono ?_
  rintro e y5 ⟨rfl, hbb⟩
  rw [sameI_self]
  have G5 := Lib.hid (G4.out.trans (hbb.mono G4.out.size))
  clear hbb
  obtain ⟨_, hc0, hc1, hc2⟩ := ((Py.out.1).next G5.out).facts
  have his := is_wcg (HR.out.1.below G5.out) (HR.out.2.below G5.out) H.out.2.2.2.2.2.1 ((Px.out.next E9.out).next G5.out) ((Py.out.2).next G5.out)
  have HI := Lib.hid his
  clear his
  go_wp2_with fail
  refine HI.out.mono ?_
  rintro e y6 ⟨rfl, hbb⟩
  have G6 := Lib.hid (G5.out.trans (hbb.mono G5.out.size))
  clear hbb hc0 hc1 hc2 HI
  have HK := Lib.hid (K10.out.below.trans (G6.out.mono K10.out.below.size))
  obtain ⟨_, hc0, hc1, hc2⟩ := (H4.out.2.1.next HK.out).facts
  obtain ⟨_, hd0, hd1, hd2⟩ := (H4.out.2.2.1.next HK.out).facts
  go_wp2_with fail
  refine (D.out.2.2.1 y6 g (H4.out.2.2.2.1.below HK.out) ((H.out.2.2.1.next H4.out.1).next HK.out)).mono ?_
  rintro e y7 ⟨rfl, hbb⟩
  have HK7 := Lib.hid (HK.out.trans (hbb.mono HK.out.size))
  clear hbb hc0 hc1 hc2 hd0 hd1 hd2
  go_wp2_with fail
  refine (D.out.2.2.2.1 y7 gl (H4.out.2.2.2.2.below HK7.out) ((H.out.2.2.2.1.next H4.out.1).next HK7.out)).mono ?_
  rintro e y8 ⟨rfl, hbb⟩
  have HZ := Lib.hid (H4.out.1.trans ((HK7.out.trans (hbb.mono HK7.out.size)).mono H4.out.1.size))
  clear hbb
  go_wp2_with fail
  go_ret
  exact ⟨rfl, HZ.out⟩
end Go.Proofs.YtgdjnohhofbcnaaDoor
