/- RowKeeps: its walk. -/
import Derived.Test.YtfgoflaeclfggaaDoorB5
namespace Go.Proofs.YtfgoflaeclfggaaDoor
open Go.RowKit Go.Extern.Stop Go.Stop Go.Extern WordM RuleM NatM
set_option maxRecDepth 100000 in
set_option maxHeartbeats 32000000 in
theorem rkeeps_long (k r a : Int) (pt : Option Addr) (nt ct : Nat) (p q s : Option Addr) (n c m d u e : Nat) (w : World) (A : Nat → Addr) (hr : Roots w A) (hm : 100 < m) :
    Calls Tryd.prog 8 #[.agg #[.int .i64 k, .int .i64 r, .slice pt nt ct], .agg #[.int .i64 a, .slice p n c, .slice q m d, .slice s u e]] w (Tells (.bool true) w) := by
  have HR := Lib.hid hr
  clear hr
  go_enter Tryd.func8, Tryd.ntmps8
  go_upto_region 1 with fail
  obtain ⟨w0, hw0⟩ : ∃ w0, w0 = (w.alloc (.cells #[.int .i64 k, .int .i64 r, .slice pt nt ct] 53)).alloc (.cells #[.int .i64 a, .slice p n c, .slice q m d, .slice s u e] 24) := ⟨_, rfl⟩
  rw [← hw0]
  obtain ⟨hb0, hE0, hF0⟩ := box_rule_row w _ _ _ _ _ _ _ w0 hw0
  have HE := Lib.hid (And.intro hE0 (And.intro hF0 hb0))
  clear hw0 hE0 hF0 hb0
  go_wp2_with fail
  refine (awakeRw w0 A (HR.out.below HE.out.2.2)).mono ?_
  rintro e' w1 ⟨rfl, hb1⟩
  have H1 := Lib.hid (And.intro (HE.out.1.next hb1) (And.intro (HE.out.2.1.next hb1) (HE.out.2.2.trans (hb1.mono HE.out.2.2.size))))
  clear hb1
  obtain ⟨hd0, hd1, hd2, hd3⟩ := H1.out.2.1.facts
  go_wp2_with fail
  go_ret
  exact ⟨rfl, H1.out.2.2⟩
set_option maxRecDepth 100000 in
set_option maxHeartbeats 32000000 in
theorem rkeeps_bad (k r a : Int) (pt : Option Addr) (nt ct : Nat) (t : List Int) (p q s : Option Addr) (n c m d u e : Nat) (L C R : List Int) (w : World) (A : Nat → Addr) (hr : Roots w A) (hnt : nt = t.length) (ht : IntV w.heap.size w pt ct t) (h : RowV w p q s n c m d u e L C R) (hn : n ≤ 17592186043904) (hm : m ≤ 17592186043904) (hu : u ≤ 17592186043904) (h100 : ¬ 100 < m) (X : List (ByteArray × Int)) (M : Nat) (hc : chkZ k r t a L C R = some (X, M)) :
    Calls Tryd.prog 8 #[.agg #[.int .i64 k, .int .i64 r, .slice pt nt ct], .agg #[.int .i64 a, .slice p n c, .slice q m d, .slice s u e]] w (Tells (.bool true) w) := by
  have hle := fun W hW => lentW_any a p q s n c m d u e L C R W hW hn hm hu
  unfold LentWPost at hle
  have HLE := Lib.hid hle
  have HV := Lib.hid h
  have HR := Lib.hid hr
  have HC := Lib.hid (And.intro (fun W g1 g2 g3 hr ht (hl : LentW W g1 g2 g3 L C R) => rStep_bad k r a pt nt ct t (some ⟨g1, 0, none⟩) (some ⟨g2, 0, none⟩) (some ⟨g3, 0, none⟩) n (n + 2) m (m + 2) u (u + 2) L C R W A hr hnt ht (hl.row h.hn h.hm h.hu hn hm hu) hn hm hu X M hc) (fun W g1 g2 g3 hl hv => keptW_any a g1 g2 g3 p q s n c m d u e L C R W hl hv hn hm hu))
  have HT := Lib.hid ht
  clear hr h ht hnt hc hn hm hu hle
  go_enter Tryd.func8, Tryd.ntmps8
  go_upto_region 1 with fail
  obtain ⟨w0, hw0⟩ : ∃ w0, w0 = (w.alloc (.cells #[.int .i64 k, .int .i64 r, .slice pt nt ct] 53)).alloc (.cells #[.int .i64 a, .slice p n c, .slice q m d, .slice s u e] 24) := ⟨_, rfl⟩
  rw [← hw0]
  obtain ⟨hb0, hE0, hF0⟩ := box_rule_row w _ _ _ _ _ _ _ w0 hw0
  have HE := Lib.hid (And.intro hE0 (And.intro hF0 hb0))
  clear hw0 hE0 hF0 hb0
  go_wp2_with fail
  refine (awakeRw w0 A (HR.out.below HE.out.2.2)).mono ?_
  rintro e' w1 ⟨rfl, hb1⟩
  have H1 := Lib.hid (And.intro (HE.out.1.next hb1) (And.intro (HE.out.2.1.next hb1) (HE.out.2.2.trans (hb1.mono HE.out.2.2.size))))
  clear hb1
  obtain ⟨hd0, hd1, hd2, hd3⟩ := H1.out.2.1.facts
  go_wp2_with fail
  refine (HLE.out w1 (HV.out.next H1.out.2.2)).mono ?_
  rintro e' w2 ⟨g1, g2, g3, rfl, hg1, hg2, hg3, hlw, hb2⟩
  go_upto_region 6 with fail
  obtain ⟨w3, hw3⟩ : ∃ x, x = w2.alloc (.cells #[.int .i64 a, .slice (some ⟨g1, 0, none⟩) n (n + 2), .slice (some ⟨g2, 0, none⟩) m (m + 2), .slice (some ⟨g3, 0, none⟩) u (u + 2)] 24) := ⟨_, rfl⟩
  rw [← hw3]
  obtain ⟨hb3, hG3⟩ := box_row w2 _ _ _ _ w3 hw3
  obtain ⟨g5, hg5⟩ : ∃ x, w2.heap.size = x := ⟨_, rfl⟩
  rw [hg5] at hG3 ⊢
  have hb13 : Below w1.heap.size w1 w3 := hb2.trans (hb3.mono hb2.size)
  have hbw3 := H1.out.2.2.trans (hb13.mono H1.out.2.2.size)
  have H3 := Lib.hid (And.intro (H1.out.1.next hb13) (And.intro (H1.out.2.1.next hb13) (And.intro hG3 (And.intro (hlw.below hb3) hbw3))))
  clear hw3 hb3 hG3 hg5 hb13 hbw3 hlw hb2 hg1 hg2 hg3 hd0 hd1 hd2 hd3
  obtain ⟨_, hc0, hc1, hc2⟩ := (H3.out.1.next (Below.refl _ _)).facts
  obtain ⟨hd0, hd1, hd2, hd3⟩ := (H3.out.2.1.next (Below.refl _ _)).facts
  obtain ⟨he0, he1, he2, he3⟩ := (H3.out.2.2.1.next (Below.refl _ _)).facts
  go_wp2_with fail
  refine (HC.out.1 w3 g1 g2 g3 (HR.out.below H3.out.2.2.2.2) (HT.out.next H3.out.2.2.2.2) H3.out.2.2.2.1).mono ?_
  rintro e' w4 ⟨b, rfl, _, hb4⟩
  clear hc0 hc1 hc2 hd0 hd1 hd2 hd3 he0 he1 he2 he3
  go_upto_region 7 with fail
  obtain ⟨w5, hw5⟩ : ∃ x, x = w4.alloc (.cells #[.int .i64 0, .slice none 0 0, .slice none 0 0, .slice none 0 0] 24) := ⟨_, rfl⟩
  rw [← hw5]
  have hb5 : Below w3.heap.size w3 w5 := hb4.trans ((box_row w4 _ _ _ _ w5 hw5).1.mono hb4.size)
  have H5 := Lib.hid hb5
  clear hb4 hw5 hb5
  obtain ⟨_, hc0, hc1, hc2⟩ := (H3.out.1.next H5.out).facts
  obtain ⟨hd0, hd1, hd2, hd3⟩ := (H3.out.2.1.next H5.out).facts
  obtain ⟨he0, he1, he2, he3⟩ := (H3.out.2.2.1.next H5.out).facts
  go_wp2_with fail
  refine (HC.out.2 w5 g1 g2 g3 (H3.out.2.2.2.1.below H5.out) (HV.out.next (H3.out.2.2.2.2.trans (H5.out.mono H3.out.2.2.2.2.size)))).mono ?_
  rintro e' w6 ⟨rfl, hb6⟩
  have HZ := Lib.hid ((H3.out.2.2.2.2.trans (H5.out.mono H3.out.2.2.2.2.size)).trans (hb6.mono (Nat.le_trans H3.out.2.2.2.2.size H5.out.size)))
  clear hb6 hc0 hc1 hc2 hd0 hd1 hd2 hd3 he0 he1 he2 he3
  go_wp2_with fail
  go_ret
  exact ⟨rfl, HZ.out⟩
set_option maxRecDepth 100000 in
set_option maxHeartbeats 32000000 in
theorem rkeeps_ok (k r : Nat) (a : Int) (pt : Option Addr) (nt ct : Nat) (t : List Int) (p q s : Option Addr) (n c m d u e : Nat) (L C R : List Int) (w : World) (A : Nat → Addr) (hr : Roots w A) (hnt : nt = t.length) (ht : IntV w.heap.size w pt ct t) (h : RowV w p q s n c m d u e L C R) (h100 : ¬ 100 < m) (ho : OkR k r t) (hw : OkRw k a L C R) (ha : -4096 ≤ a - (r : Int)) :
    Calls Tryd.prog 8 #[.agg #[.int .i64 (k : Int), .int .i64 (r : Int), .slice pt nt ct], .agg #[.int .i64 a, .slice p n c, .slice q m d, .slice s u e]] w (Tells (.bool true) w) := by
  have h3 := ho.r3
  have hn : n ≤ 17592186043904 := by have := hw.l1; have := h.hn; omega
  have hm : m ≤ 17592186043904 := by omega
  have hu : u ≤ 17592186043904 := by have := hw.r1; have := h.hu; omega
  have hle := fun W hW => lentW_any a p q s n c m d u e L C R W hW hn hm hu
  unfold LentWPost at hle
  have HLE := Lib.hid hle
  have HV := Lib.hid h
  have HR := Lib.hid hr
  obtain ⟨fr, hfr⟩ : ∃ x, a - (r : Int) = x := ⟨_, rfl⟩
  obtain ⟨V, hVV⟩ : ∃ x, m + 2 * r = x := ⟨_, rfl⟩
  have hV106 : V ≤ 106 := by omega
  have l1 : (imgL k r t a L C R).length = n := (imgR_length _ _ _ _ _ _ _ _ _).trans h.hn.symm
  have l2 : (imgC k r t a L C R).length = V := (imgR_length _ _ _ _ _ _ _ _ _).trans (by rw [← h.hm]; exact hVV)
  have l3 : (imgT k r t a L C R).length = u := (imgR_length _ _ _ _ _ _ _ _ _).trans h.hu.symm
  obtain ⟨X1, hX1⟩ : ∃ X, imgL k r t a L C R = X := ⟨_, rfl⟩
  obtain ⟨X2, hX2⟩ : ∃ X, imgC k r t a L C R = X := ⟨_, rfl⟩
  obtain ⟨X3, hX3⟩ : ∃ X, imgT k r t a L C R = X := ⟨_, rfl⟩
  rw [hX1] at l1
  rw [hX2] at l2
  rw [hX3] at l3
  have cS : ∀ (W : World) (g1 g2 g3 : Nat), IntV W.heap.size W pt ct t → LentW W g1 g2 g3 L C R → Calls Tryd.prog 24 #[.agg #[.int .i64 (k : Int), .int .i64 (r : Int), .slice pt nt ct], .agg #[.int .i64 a, .slice (some ⟨g1, 0, none⟩) n (n + 2), .slice (some ⟨g2, 0, none⟩) m (m + 2), .slice (some ⟨g3, 0, none⟩) u (u + 2)]] W (RowOkN W fr n V u X1 X2 X3) := fun W g1 g2 g3 ht hl => by
    have h1 := rStep_ok k r a pt nt ct t (some ⟨g1, 0, none⟩) (some ⟨g2, 0, none⟩) (some ⟨g3, 0, none⟩) n (n + 2) m (m + 2) u (u + 2) L C R W hnt ht (hl.row h.hn h.hm h.hu hn hm hu) ho hw ha (by have := h.hm; omega)
    rw [hX1, hX2, hX3, hfr] at h1
    exact h1.mono fun e' w' hp => hp.lens l1 l2 l3
  have cC : ∀ (W : World) (g1 g2 g3 : Nat), LentW W g1 g2 g3 L C R → Calls Tryd.prog 13 #[.int .i64 (k : Int), .agg #[.int .i64 a, .slice (some ⟨g1, 0, none⟩) n (n + 2), .slice (some ⟨g2, 0, none⟩) m (m + 2), .slice (some ⟨g3, 0, none⟩) u (u + 2)], .int .i64 a, .int .i64 (m : Int)] W fun e' w' => ∃ pa ca, e' = .returned (.tuple #[.slice pa m ca, .nilIface]) ∧ IntO W.heap.size w' pa ca C ∧ Below W.heap.size W w' := fun W g1 g2 g3 hl => by
    have h1 := rCut_ok k a a m (some ⟨g1, 0, none⟩) (some ⟨g2, 0, none⟩) (some ⟨g3, 0, none⟩) n (n + 2) m (m + 2) u (u + 2) L C R W (hl.row h.hn h.hm h.hu hn hm hu) hw (by have := hw.a1; omega) (by have := hw.a2; omega) (by omega)
    rw [show pieceR a L C R a m = C by rw [h.hm]; exact piece_core a L C R] at h1
    exact h1.mono fun e' w' ⟨pa, ca, he, ho, hb⟩ => ⟨pa, ca, by rw [he, ← h.hm], ho, hb⟩
  have cK : ∀ (W : World) (g1 g2 g3 : Nat), LentW W g1 g2 g3 L C R → RowV W p q s n c m d u e L C R → Calls Tryd.prog 19 #[.agg #[.int .i64 a, .slice (some ⟨g1, 0, none⟩) n (n + 2), .slice (some ⟨g2, 0, none⟩) m (m + 2), .slice (some ⟨g3, 0, none⟩) u (u + 2)], .agg #[.int .i64 a, .slice p n c, .slice q m d, .slice s u e]] W (Tells (.bool true) W) := fun W g1 g2 g3 hl hv => keptW_any a g1 g2 g3 p q s n c m d u e L C R W hl hv hn hm hu
  have cI : ∀ (W : World) (x y : Option Addr) (z f : Nat), IntV W.heap.size W x z C → IntV W.heap.size W y f C → Calls Tryd.prog 18 #[.slice x m z, .slice y m f] W (Tells (.bool true) W) := fun W x y z f h1 h2 => by
    have := ints_any x y m m z f C C W h.hm h.hm h1 h2
    rwa [sameI_self] at this
  have cR : ∀ (W : World) (p1 p2 p3 q1 q2 q3 : Option Addr) (c1 c2 c3 d1 d2 d3 : Nat), RowV W p1 p2 p3 n c1 V c2 u c3 X1 X2 X3 → RowV W q1 q2 q3 n d1 V d2 u d3 X1 X2 X3 → Calls Tryd.prog 26 #[.agg #[.int .i64 fr, .slice p1 n c1, .slice p2 V c2, .slice p3 u c3], .agg #[.int .i64 fr, .slice q1 n d1, .slice q2 V d2, .slice q3 u d3]] W (Tells (.bool true) W) := fun W p1 p2 p3 q1 q2 q3 c1 c2 c3 d1 d2 d3 h1 h2 => rows_same fr p1 p2 p3 q1 q2 q3 n c1 V c2 u c3 d1 d2 d3 X1 X2 X3 W h1 h2
  have HC := Lib.hid (And.intro cS (And.intro cC (And.intro cK (And.intro cI cR))))
  have HT := Lib.hid ht
  have hn8 : n ≤ 8192 := by have := hw.l1; have := h.hn; omega
  have hu8 : u ≤ 8192 := by have := hw.r1; have := h.hu; omega
  have HL := Lib.hid (And.intro l1 (And.intro l2 (And.intro l3 (And.intro h.hm (And.intro hn8 hu8)))))
  clear hr h ht hnt hn hm hu hle ho hw ha hfr hVV l1 l2 l3 hX1 hX2 hX3 cS cC cK cI cR hn8 hu8 h3
  go_enter Tryd.func8, Tryd.ntmps8
  go_upto_region 1 with fail
  obtain ⟨w0, hw0⟩ : ∃ w0, w0 = (w.alloc (.cells #[.int .i64 (k : Int), .int .i64 (r : Int), .slice pt nt ct] 53)).alloc (.cells #[.int .i64 a, .slice p n c, .slice q m d, .slice s u e] 24) := ⟨_, rfl⟩
  rw [← hw0]
  obtain ⟨hb0, hE0, hF0⟩ := box_rule_row w _ _ _ _ _ _ _ w0 hw0
  have HE := Lib.hid (And.intro hE0 (And.intro hF0 hb0))
  clear hw0 hE0 hF0 hb0
  go_wp2_with fail
  refine (awakeRw w0 A (HR.out.below HE.out.2.2)).mono ?_
  rintro e' w1 ⟨rfl, hb1⟩
  have H1 := Lib.hid (And.intro (HE.out.1.next hb1) (And.intro (HE.out.2.1.next hb1) (HE.out.2.2.trans (hb1.mono HE.out.2.2.size))))
  clear hb1
  obtain ⟨hd0, hd1, hd2, hd3⟩ := H1.out.2.1.facts
  go_wp2_with fail
  refine (HLE.out w1 (HV.out.next H1.out.2.2)).mono ?_
  rintro e' w2 ⟨g1, g2, g3, rfl, hg1, hg2, hg3, hlw, hb2⟩
  go_upto_region 6 with fail
  obtain ⟨w3, hw3⟩ : ∃ x, x = w2.alloc (.cells #[.int .i64 a, .slice (some ⟨g1, 0, none⟩) n (n + 2), .slice (some ⟨g2, 0, none⟩) m (m + 2), .slice (some ⟨g3, 0, none⟩) u (u + 2)] 24) := ⟨_, rfl⟩
  rw [← hw3]
  obtain ⟨hb3, hG3⟩ := box_row w2 _ _ _ _ w3 hw3
  obtain ⟨g5, hg5⟩ : ∃ x, w2.heap.size = x := ⟨_, rfl⟩
  rw [hg5] at hG3 ⊢
  have hb13 : Below w1.heap.size w1 w3 := hb2.trans (hb3.mono hb2.size)
  have hbw3 := H1.out.2.2.trans (hb13.mono H1.out.2.2.size)
  have H3 := Lib.hid (And.intro (H1.out.1.next hb13) (And.intro (H1.out.2.1.next hb13) (And.intro hG3 (And.intro (hlw.below hb3) hbw3))))
  clear hw3 hb3 hG3 hg5 hb13 hbw3 hlw hb2 hg1 hg2 hg3 hd0 hd1 hd2 hd3
  have K3 := Lib.hid (Kq.start w3)
  obtain ⟨_, hc0, hc1, hc2⟩ := (H3.out.1.next K3.out.below).facts
  obtain ⟨hd0, hd1, hd2, hd3⟩ := (H3.out.2.1.next K3.out.below).facts
  obtain ⟨he0, he1, he2, he3⟩ := (H3.out.2.2.1.next K3.out.below).facts
  go_wp2_with fail
  refine (HC.out.1 w3 g1 g2 g3 (HT.out.next (H3.out.2.2.2.2.trans (K3.out.below.mono H3.out.2.2.2.2.size))) (H3.out.2.2.2.1.below K3.out.below)).mono ?_
  rintro e' w4 ⟨pa1, pac1, pa2, pac2, pa3, pac3, pat1, pat2, rfl, o1, o2, o3, t1, t2, t3, k1, k2, hbx⟩
  have hK := K3.out.push3 hbx o1 o2 o3 t1 t2 t3 k1 k2
  clear hc0 hc1 hc2 hd0 hd1 hd2 hd3 he0 he1 he2 he3 o1 o2 o3 t1 t2 t3 k1 k2 hbx
  go_upto_region 7 with fail
  obtain ⟨w5, hw⟩ : ∃ x, x = w4.alloc (.cells #[.int .i64 fr, .slice pa1 n pac1, .slice pa2 V pac2, .slice pa3 u pac3] 24) := ⟨_, rfl⟩
  rw [← hw]
  obtain ⟨hbn, hG⟩ := box_row w4 _ _ _ _ w5 hw
  obtain ⟨g6, hgg⟩ : ∃ x, w4.heap.size = x := ⟨_, rfl⟩
  rw [hgg] at hG
  have g6B := Lib.hid hG
  have K5 := Lib.hid (hK.next hbn)
  rw [hgg] at K5
  (try rw [hgg])
  clear hK hw hbn hG hgg
  obtain ⟨_, hc0, hc1, hc2⟩ := (H3.out.1.next K5.out.below).facts
  obtain ⟨hd0, hd1, hd2, hd3⟩ := (H3.out.2.1.next K5.out.below).facts
  obtain ⟨he0, he1, he2, he3⟩ := (H3.out.2.2.1.next K5.out.below).facts
  go_wp2_with fail
  refine (HC.out.1 w5 g1 g2 g3 (HT.out.next (H3.out.2.2.2.2.trans (K5.out.below.mono H3.out.2.2.2.2.size))) (H3.out.2.2.2.1.below K5.out.below)).mono ?_
  rintro e' w6 ⟨pb1, pbc1, pb2, pbc2, pb3, pbc3, pbt1, pbt2, rfl, o1, o2, o3, t1, t2, t3, k1, k2, hbx⟩
  have hK := K5.out.push3 hbx o1 o2 o3 t1 t2 t3 k1 k2
  have g6C0 := g6B.out.next hbx
  clear hc0 hc1 hc2 hd0 hd1 hd2 hd3 he0 he1 he2 he3 o1 o2 o3 t1 t2 t3 k1 k2 hbx
  go_upto_region 10 with fail
  obtain ⟨w7, hw⟩ : ∃ x, x = w6.alloc (.cells #[.int .i64 fr, .slice pb1 n pbc1, .slice pb2 V pbc2, .slice pb3 u pbc3] 24) := ⟨_, rfl⟩
  rw [← hw]
  obtain ⟨hbn, hG⟩ := box_row w6 _ _ _ _ w7 hw
  obtain ⟨g8, hgg⟩ : ∃ x, w6.heap.size = x := ⟨_, rfl⟩
  rw [hgg] at hG
  have g8B := Lib.hid hG
  have K7 := Lib.hid (hK.next hbn)
  rw [hgg] at K7
  (try rw [hgg])
  have g6C := Lib.hid (g6C0.next hbn)
  clear g6C0
  clear hK hw hbn hG hgg
  obtain ⟨_, hc0, hc1, hc2⟩ := (H3.out.1.next K7.out.below).facts
  obtain ⟨hd0, hd1, hd2, hd3⟩ := (H3.out.2.1.next K7.out.below).facts
  obtain ⟨he0, he1, he2, he3⟩ := (H3.out.2.2.1.next K7.out.below).facts
  go_wp2_with fail
  refine (HC.out.2.1 w7 g1 g2 g3 (H3.out.2.2.2.1.below K7.out.below)).mono ?_
  rintro e' w8 ⟨pc, cc, rfl, oo, hbx⟩
  have K8 := Lib.hid (K7.out.push hbx oo)
  have g8C := Lib.hid (g8B.out.next hbx)
  have g6D := Lib.hid (g6C.out.next hbx)
  clear hc0 hc1 hc2 hd0 hd1 hd2 hd3 he0 he1 he2 he3 oo hbx
  obtain ⟨_, hc0, hc1, hc2⟩ := (H3.out.1.next K8.out.below).facts
  obtain ⟨hd0, hd1, hd2, hd3⟩ := (H3.out.2.1.next K8.out.below).facts
  obtain ⟨he0, he1, he2, he3⟩ := (H3.out.2.2.1.next K8.out.below).facts
  go_wp2_with fail
  refine (HC.out.2.1 w8 g1 g2 g3 (H3.out.2.2.2.1.below K8.out.below)).mono ?_
  rintro e' w9 ⟨pd, cd, rfl, oo, hbx⟩
  have K9 := Lib.hid (K8.out.push hbx oo)
  have g8D := Lib.hid (g8C.out.next hbx)
  have g6E := Lib.hid (g6D.out.next hbx)
  clear hc0 hc1 hc2 hd0 hd1 hd2 hd3 he0 he1 he2 he3 oo hbx
  obtain ⟨Lo, hLo⟩ : ∃ Lo : List MkI, Lo = [((pd, cd, C), w8.heap.size, w9.heap.size), ((pc, cc, C), w7.heap.size, w8.heap.size), ((pb3, pbc3, X3), pbt2, g8), ((pb2, pbc2, X2), pbt1, pbt2), ((pb1, pbc1, X1), w5.heap.size, pbt1), ((pa3, pac3, X3), pat2, g6), ((pa2, pac2, X2), pat1, pat2), ((pa1, pac1, X1), w3.heap.size, pat1)] := ⟨_, rfl⟩
  have hK : Kq w3 w9 w3.heap.size [] Lo := by rw [hLo]; exact K9.out
  have hgets : Lo[0]? = some ((pd, cd, C), w8.heap.size, w9.heap.size) ∧ Lo[1]? = some ((pc, cc, C), w7.heap.size, w8.heap.size) ∧ Lo[2]? = some ((pb3, pbc3, X3), pbt2, g8) ∧ Lo[3]? = some ((pb2, pbc2, X2), pbt1, pbt2) ∧ Lo[4]? = some ((pb1, pbc1, X1), w5.heap.size, pbt1) ∧ Lo[5]? = some ((pa3, pac3, X3), pat2, g6) ∧ Lo[6]? = some ((pa2, pac2, X2), pat1, pat2) ∧ Lo[7]? = some ((pa1, pac1, X1), w3.heap.size, pat1) := by
    rw [hLo]; exact ⟨rfl, rfl, rfl, rfl, rfl, rfl, rfl, rfl⟩
  have HG := Lib.hid hgets
  have KA := Lib.hid hK
  clear hLo hK K9 K8 K7 K5 hgets g8B g8C g6B g6C g6D
  obtain ⟨_, hc0, hc1, hc2⟩ := (H3.out.1.next KA.out.below).facts
  obtain ⟨hd0, hd1, hd2, hd3⟩ := (H3.out.2.1.next KA.out.below).facts
  obtain ⟨he0, he1, he2, he3⟩ := (H3.out.2.2.1.next KA.out.below).facts
  obtain ⟨hf0, hf1, hf2, hf3⟩ := g6E.out.facts
  obtain ⟨hg0, hg1', hg2', hg3'⟩ := g8D.out.facts
  go_wp2_with fail
  refine (HC.out.2.2.2.2 w9 pa1 pa2 pa3 pb1 pb2 pb3 pac1 pac2 pac3 pbc1 pbc2 pbc3 ⟨HL.out.1.symm, HL.out.2.1.symm, HL.out.2.2.1.symm, KA.out.get 7 HG.out.2.2.2.2.2.2.2, KA.out.get 6 HG.out.2.2.2.2.2.2.1, KA.out.get 5 HG.out.2.2.2.2.2.1⟩ ⟨HL.out.1.symm, HL.out.2.1.symm, HL.out.2.2.1.symm, KA.out.get 4 HG.out.2.2.2.2.1, KA.out.get 3 HG.out.2.2.2.1, KA.out.get 2 HG.out.2.2.1⟩).mono ?_
  rintro e' wB ⟨rfl, hbx⟩
  have KB := Lib.hid (KA.out.next hbx)
  have g6F := Lib.hid (g6E.out.next hbx)
  have g8F := Lib.hid (g8D.out.next hbx)
  clear hbx hf0 hf1 hf2 hf3 hg0 hg1' hg2' hg3' KA g6E g8D hc0 hc1 hc2 hd0 hd1 hd2 hd3 he0 he1 he2 he3
  obtain ⟨_, hc0, hc1, hc2⟩ := (H3.out.1.next KB.out.below).facts
  obtain ⟨hd0, hd1, hd2, hd3⟩ := (H3.out.2.1.next KB.out.below).facts
  obtain ⟨he0, he1, he2, he3⟩ := (H3.out.2.2.1.next KB.out.below).facts
  go_wp2_with fail
  refine (HC.out.2.2.2.1 wB _ _ _ _ (KB.out.get 1 HG.out.2.1) ((HV.out.next H3.out.2.2.2.2).next KB.out.below).c).mono ?_
  rintro e' wC ⟨rfl, hbx⟩
  have KC := Lib.hid (KB.out.next hbx)
  have g6G := Lib.hid (g6F.out.next hbx)
  have g8G := Lib.hid (g8F.out.next hbx)
  clear hbx KB g6F g8F hc0 hc1 hc2 hd0 hd1 hd2 hd3 he0 he1 he2 he3
  obtain ⟨_, hc0, hc1, hc2⟩ := (H3.out.1.next KC.out.below).facts
  obtain ⟨hd0, hd1, hd2, hd3⟩ := (H3.out.2.1.next KC.out.below).facts
  obtain ⟨he0, he1, he2, he3⟩ := (H3.out.2.2.1.next KC.out.below).facts
  go_wp2_with fail
  refine (HC.out.2.2.2.1 wC _ _ _ _ (KC.out.get 0 HG.out.1) ((HV.out.next H3.out.2.2.2.2).next KC.out.below).c).mono ?_
  rintro e' wD ⟨rfl, hbx⟩
  have KD := Lib.hid (KC.out.next hbx)
  obtain ⟨hf0, hf1, hf2, hf3⟩ := (g6G.out.next hbx).facts
  obtain ⟨hg0, hg1', hg2', hg3'⟩ := (g8G.out.next hbx).facts
  clear hbx KC g6G g8G hc0 hc1 hc2 hd0 hd1 hd2 hd3 he0 he1 he2 he3
  obtain ⟨_, hc0, hc1, hc2⟩ := (H3.out.1.next KD.out.below).facts
  obtain ⟨hd0, hd1, hd2, hd3⟩ := (H3.out.2.1.next KD.out.below).facts
  obtain ⟨he0, he1, he2, he3⟩ := (H3.out.2.2.1.next KD.out.below).facts
  have hap := KD.out.apart_call [7, 6, 5, 4, 3, 2, 1, 0] (by decide) #[.slice pa1 n pac1, .slice pa2 V pac2, .slice pa3 u pac3, .slice pb1 n pbc1, .slice pb2 V pbc2, .slice pb3 u pbc3, .slice pc m cc, .slice pd m cd] 22 8 rfl (by omega) (fun k j hk => by
    have h1 := HL.out.1
    have h2 := HL.out.2.1
    have h3 := HL.out.2.2.1
    have h4 := HL.out.2.2.2.1
    have h5 := HL.out.2.2.2.2.1
    have h6 := HL.out.2.2.2.2.2
    rcases k with _ | _ | _ | _ | _ | _ | _ | _ | k
    · obtain rfl := Option.some.inj hk
      exact ⟨_, HG.out.2.2.2.2.2.2.2, by simp [Sl.val, h1], by simp; omega⟩
    · obtain rfl := Option.some.inj hk
      exact ⟨_, HG.out.2.2.2.2.2.2.1, by simp [Sl.val, h2], by simp; omega⟩
    · obtain rfl := Option.some.inj hk
      exact ⟨_, HG.out.2.2.2.2.2.1, by simp [Sl.val, h3], by simp; omega⟩
    · obtain rfl := Option.some.inj hk
      exact ⟨_, HG.out.2.2.2.2.1, by simp [Sl.val, h1], by simp; omega⟩
    · obtain rfl := Option.some.inj hk
      exact ⟨_, HG.out.2.2.2.1, by simp [Sl.val, h2], by simp; omega⟩
    · obtain rfl := Option.some.inj hk
      exact ⟨_, HG.out.2.2.1, by simp [Sl.val, h3], by simp; omega⟩
    · obtain rfl := Option.some.inj hk
      exact ⟨_, HG.out.2.1, by simp [Sl.val, ← h4], by simp; omega⟩
    · obtain rfl := Option.some.inj hk
      exact ⟨_, HG.out.1, by simp [Sl.val, ← h4], by simp; omega⟩
    · simp at hk)
  have HAP := Lib.hid hap
  clear hap
  go_wp2_with fail
  refine HAP.out.mono ?_
  rintro e' wE ⟨rfl, hbE, _, _⟩
  have HB := Lib.hid hbE
  clear HAP hbE hf0 hf1 hf2 hf3 hg0 hg1' hg2' hg3' hc0 hc1 hc2 hd0 hd1 hd2 hd3 he0 he1 he2 he3
  obtain ⟨_, hc0, hc1, hc2⟩ := (H3.out.1.next HB.out).facts
  obtain ⟨hd0, hd1, hd2, hd3⟩ := (H3.out.2.1.next HB.out).facts
  obtain ⟨he0, he1, he2, he3⟩ := (H3.out.2.2.1.next HB.out).facts
  go_wp2_with fail
  refine (HC.out.2.2.1 wE g1 g2 g3 (H3.out.2.2.2.1.below HB.out) ((HV.out.next H3.out.2.2.2.2).next HB.out)).mono ?_
  rintro e' wF ⟨rfl, hbx⟩
  have HZ := Lib.hid ((H3.out.2.2.2.2.trans (HB.out.mono H3.out.2.2.2.2.size)).trans (hbx.mono (Nat.le_trans H3.out.2.2.2.2.size HB.out.size)))
  clear hbx hc0 hc1 hc2 hd0 hd1 hd2 hd3 he0 he1 he2 he3
  go_wp2_with fail
  go_ret
  exact ⟨rfl, HZ.out⟩
end Go.Proofs.YtfgoflaeclfggaaDoor
