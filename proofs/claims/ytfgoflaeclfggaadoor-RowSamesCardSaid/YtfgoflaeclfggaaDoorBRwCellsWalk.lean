/- RowCells: its walk. -/
import Derived.Test.YtfgoflaeclfggaaDoorBRowU
namespace Go.Proofs.YtfgoflaeclfggaaDoor
open Go.RowKit Go.Extern.Stop Go.Stop Go.Extern WordM RuleM NatM
attribute [local go_sem ↓] Go.wp_at_zero Go.wp_at_succ

theorem errR_num {x : Option (Nat × Nat)} (h : ∀ y, x = some y → 2 ≤ y.2 ∧ y.2 ≤ 4) : ∀ y, errR x = some y → 1 ≤ y.2 ∧ y.2 ≤ 11 := fun y hy => by
  unfold errR at hy
  obtain ⟨z, hz, rfl⟩ := Option.map_eq_some_iff.1 hy
  have := h z hz
  simp only
  omega
/-- what Cell tells beside the error -/
def celV (k a : Int) (L C R : List Int) (i : Int) : Int := match chkP k a L C R i with
  | some _ => 0
  | none => rwAt a L C R i
/-- what Cut tells beside the error -/
def cutV (k a : Int) (L C R : List Int) (i x : Int) : List Int := match chkC k a L C R i x with
  | some _ => []
  | none => pieceR a L C R i x.toNat
theorem cellP (k a i : Int) (p q s : Option Addr) (n c m d u e : Nat) (L C R : List Int) (w : World) (A : Nat → Addr) (hr : Roots w A) (h : RowV w p q s n c m d u e L C R) (hn : n ≤ 17592186043904) (hm : m ≤ 17592186043904) (hu : u ≤ 17592186043904) :
    Calls Tryd.prog 11 #[.int .i64 k, .agg #[.int .i64 a, .slice p n c, .slice q m d, .slice s u e], .int .i64 i] w (ProgT w A (errR (chkP k a L C R i)) (.int .i64 (celV k a L C R i))) := by
  unfold celV
  cases hc : chkP k a L C R i with
  | some y => exact (rCell_bad k a i p q s n c m d u e L C R w A hr h hn hm hu y.1 y.2 hc).mono fun e1 w' ⟨b, he, hl, hb⟩ => ⟨_, he, ⟨b, rfl, Chn.one hl⟩, hb⟩
  | none =>
    obtain ⟨h1, h2, h3⟩ := chkP_none hc
    obtain ⟨K, rfl, hw⟩ := chkRw_none h1
    exact (rCell_ok K a i p q s n c m d u e L C R w h hw h2 h3).mono fun e1 w' ⟨he, hb⟩ => ⟨_, he, rfl, hb⟩
theorem cellR (k a i : Int) (p q s : Option Addr) (n c m d u e : Nat) (L C R : List Int) (w : World) (h : RowV w p q s n c m d u e L C R) (hn : n ≤ 17592186043904) (hm : m ≤ 17592186043904) (hu : u ≤ 17592186043904) :
    Calls Tryd.prog 12 #[.int .i64 k, .agg #[.int .i64 a, .slice p n c, .slice q m d, .slice s u e], .int .i64 i] w (RefT w (errR (chkP k a L C R i)) (.int .i64 (celV k a L C R i))) := by
  unfold celV
  cases hc : chkP k a L C R i with
  | some y => exact cell_ref_bad k a i p q s n c m d u e L C R w h hn hm hu y hc
  | none =>
    obtain ⟨h1, h2, h3⟩ := chkP_none hc
    obtain ⟨K, rfl, hw⟩ := chkRw_none h1
    exact cell_ref_ok K a i p q s n c m d u e L C R w h hw h2 h3
theorem cutP (k a i x : Int) (p q s : Option Addr) (n c m d u e : Nat) (L C R : List Int) (w : World) (A : Nat → Addr) (hr : Roots w A) (h : RowV w p q s n c m d u e L C R) (hn : n ≤ 17592186043904) (hm : m ≤ 17592186043904) (hu : u ≤ 17592186043904) :
    Calls Tryd.prog 13 #[.int .i64 k, .agg #[.int .i64 a, .slice p n c, .slice q m d, .slice s u e], .int .i64 i, .int .i64 x] w (ProgL w A (errR (chkC k a L C R i x)) (cutV k a L C R i x)) := by
  unfold cutV
  cases hc : chkC k a L C R i x with
  | some y => exact (rCut_bad k a i x p q s n c m d u e L C R w A hr h hn hm hu y.1 y.2 hc).mono fun e1 w' ⟨b, he, hl, hb⟩ => ⟨none, 0, _, he, IntO.nothing _ _, ⟨b, rfl, Chn.one hl⟩, hb⟩
  | none =>
    obtain ⟨h0, N, rfl, hN⟩ := chkC_none hc
    obtain ⟨h1, h2, h3⟩ := chkP_none h0
    obtain ⟨K, rfl, hw⟩ := chkRw_none h1
    exact (rCut_ok K a i N p q s n c m d u e L C R w h hw h2 h3 hN).mono fun e1 w' hp => ProgL.ok rfl (by simp only []; rw [Int.toNat_natCast]; exact hp)
theorem cutR (k a i x : Int) (p q s : Option Addr) (n c m d u e : Nat) (L C R : List Int) (w : World) (h : RowV w p q s n c m d u e L C R) (hn : n ≤ 17592186043904) (hm : m ≤ 17592186043904) (hu : u ≤ 17592186043904) :
    Calls Tryd.prog 14 #[.int .i64 k, .agg #[.int .i64 a, .slice p n c, .slice q m d, .slice s u e], .int .i64 i, .int .i64 x] w (RefL w (errR (chkC k a L C R i x)) (cutV k a L C R i x)) := by
  unfold cutV
  cases hc : chkC k a L C R i x with
  | some y => exact cut_ref_bad k a i x p q s n c m d u e L C R w h hn hm hu y hc
  | none =>
    obtain ⟨h0, N, rfl, hN⟩ := chkC_none hc
    obtain ⟨h1, h2, h3⟩ := chkP_none h0
    obtain ⟨K, rfl, hw⟩ := chkRw_none h1
    simp only []
    rw [Int.toNat_natCast]
    exact cut_ref_ok K a i N p q s n c m d u e L C R w h hw h2 h3 hN
theorem checkP (k a : Int) (p q s : Option Addr) (n c m d u e : Nat) (L C R : List Int) (w : World) (A : Nat → Addr) (hr : Roots w A) (h : RowV w p q s n c m d u e L C R) (hn : n ≤ 17592186043904) (hm : m ≤ 17592186043904) (hu : u ≤ 17592186043904) :
    Calls Tryd.prog 16 #[.int .i64 k, .agg #[.int .i64 a, .slice p n c, .slice q m d, .slice s u e]] w fun e1 w' => ∃ v, e1 = .returned v ∧ PChn w' A (errR (chkRw k a L C R)) v ∧ Below w.heap.size w w' := by
  cases hc : chkRw k a L C R with
  | some y => exact (rrcheck_bad k a p q s n c m d u e L C R w A hr h hn hm hu y.1 y.2 hc).mono fun e1 w' ⟨b, he, hl, hb⟩ => ⟨_, he, ⟨b, rfl, Chn.one hl⟩, hb⟩
  | none =>
    obtain ⟨K, rfl, hw⟩ := chkRw_none hc
    exact (rrcheck_ok K a p q s n c m d u e L C R w h hw).mono fun e1 w' ⟨he, hb⟩ => ⟨_, he, rfl, hb⟩
theorem checkR (k a : Int) (p q s : Option Addr) (n c m d u e : Nat) (L C R : List Int) (w : World) (h : RowV w p q s n c m d u e L C R) (hn : n ≤ 17592186043904) (hm : m ≤ 17592186043904) (hu : u ≤ 17592186043904) :
    Calls Tryd.prog 17 #[.int .i64 k, .agg #[.int .i64 a, .slice p n c, .slice q m d, .slice s u e]] w fun e1 w' => ∃ x po pa z co ca, e1 = .returned (.agg #[.int .i64 x, .slice po z co, .slice pa z ca]) ∧ WCg w' (errR (chkRw k a L C R)) x po pa z co ca ∧ Below w.heap.size w w' := by
  cases hc : chkRw k a L C R with
  | some y => exact (chk_call k a y.1 y.2 p q s n c m d u e L C R w h hn hm hu hc).mono fun e1 w' ⟨go, ga, co, ca, he, _, _, hw, hb⟩ => ⟨_, _, _, _, _, _, he, ⟨rfl, rfl, hw⟩, hb⟩
  | none =>
    obtain ⟨K, rfl, hw⟩ := chkRw_none hc
    exact (rchk_ref_ok K a p q s n c m d u e L C R w h hw).mono fun e1 w' ⟨he, hb⟩ => ⟨_, _, _, _, _, _, he, ⟨rfl, rfl, rfl, rfl, rfl, rfl⟩, hb⟩
set_option maxRecDepth 100000 in
set_option maxHeartbeats 32000000 in
theorem rcells (k a i x : Int) (p q s : Option Addr) (n c m d u e : Nat) (L C R : List Int) (w : World) (A : Nat → Addr) (hr : Roots w A) (hT : TypeVar w) (h : RowV w p q s n c m d u e L C R) (hn : n ≤ 17592186043904) (hm : m ≤ 17592186043904) (hu : u ≤ 17592186043904) :
    Calls Tryd.prog 3 #[.int .i64 k, .agg #[.int .i64 a, .slice p n c, .slice q m d, .slice s u e], .int .i64 i, .int .i64 x] w (Tells (.bool true) w) := by
  obtain ⟨E0, hE0⟩ : ∃ y, errR (chkRw k a L C R) = y := ⟨_, rfl⟩
  obtain ⟨E1, hE1⟩ : ∃ y, errR (chkP k a L C R i) = y := ⟨_, rfl⟩
  obtain ⟨E2, hE2⟩ : ∃ y, errR (chkC k a L C R i x) = y := ⟨_, rfl⟩
  obtain ⟨cv, hcv⟩ : ∃ y, celV k a L C R i = y := ⟨_, rfl⟩
  obtain ⟨lv, hlv⟩ : ∃ y, cutV k a L C R i x = y := ⟨_, rfl⟩
  obtain ⟨nl, hnl⟩ : ∃ y, lv.length = y := ⟨_, rfl⟩
  have n0 : ∀ y, E0 = some y → 1 ≤ y.2 ∧ y.2 ≤ 11 := by rw [← hE0]; exact errR_num chkRw_num
  have n1 : ∀ y, E1 = some y → 1 ≤ y.2 ∧ y.2 ≤ 11 := by rw [← hE1]; exact errR_num chkP_num
  have n2 : ∀ y, E2 = some y → 1 ≤ y.2 ∧ y.2 ≤ 11 := by rw [← hE2]; exact errR_num chkC_num
  have hle := fun W hW => lentW_any a p q s n c m d u e L C R W hW hn hm hu
  unfold LentWPost at hle
  have cA := fun W A hr p q s c d e h => cellP k a i p q s n c m d u e L C R W A hr h hn hm hu
  have cB := fun W h => cellR k a i p q s n c m d u e L C R W h hn hm hu
  have cC := fun W A hr p q s c d e h => cutP k a i x p q s n c m d u e L C R W A hr h hn hm hu
  have cD := fun W h => cutR k a i x p q s n c m d u e L C R W h hn hm hu
  have cE := fun W A hr p q s c d e h => checkP k a p q s n c m d u e L C R W A hr h hn hm hu
  have cF := fun W h => checkR k a p q s n c m d u e L C R W h hn hm hu
  have cK := fun W g1 g2 g3 hl hv => keptW_any a g1 g2 g3 p q s n c m d u e L C R W hl hv hn hm hu
  rw [hE1, hcv] at cA cB
  rw [hE2, hlv] at cC cD
  rw [hE0] at cE cF
  unfold ProgL at cC
  unfold RefL at cD
  simp only [hnl] at cC cD
  have HC := Lib.hid (And.intro cA (And.intro cB (And.intro cC (And.intro cD (And.intro cE (And.intro cF cK))))))
  have HN := Lib.hid (And.intro n0 (And.intro n1 (And.intro n2 hnl)))
  have HLE := Lib.hid hle
  have HV := Lib.hid (And.intro h (And.intro hr hT))
  have HM := Lib.hid (And.intro h.hn (And.intro h.hm (And.intro h.hu (And.intro hn (And.intro hm hu)))))
  clear hE0 hE1 hE2 hcv hlv hnl n0 n1 n2 hle cA cB cC cD cE cF cK h hr hT hn hm hu
  go_enter Tryd.func3, Tryd.ntmps3
  go_upto_region 1 with fail
  obtain ⟨w0, hw0⟩ : ∃ w0, w0 = w.alloc (.cells #[.int .i64 a, .slice p n c, .slice q m d, .slice s u e] 24) := ⟨_, rfl⟩
  rw [← hw0]
  obtain ⟨hb0, hE0⟩ := box_row w _ _ _ _ w0 hw0
  have HE := Lib.hid (And.intro hE0 hb0)
  clear hw0 hE0 hb0
  go_wp2_with fail
  refine (awakeRw w0 A (HV.out.2.1.below HE.out.2)).mono ?_
  rintro e1 w1 ⟨rfl, hb1⟩
  have H1 := Lib.hid (And.intro (HE.out.1.next hb1) (HE.out.2.trans (hb1.mono HE.out.2.size)))
  clear hb1
  obtain ⟨hd0, hd1, hd2, hd3⟩ := H1.out.1.facts
  go_wp2_with fail
  refine (HLE.out w1 (HV.out.1.next H1.out.2)).mono ?_
  rintro e2 w2 ⟨g1, g2, g3, rfl, _, _, _, hlw, hb2⟩
  go_upto_region 4 with fail
  obtain ⟨w3, hw3⟩ : ∃ x, x = w2.alloc (.cells #[.int .i64 a, .slice (some ⟨g1, 0, none⟩) n (n + 2), .slice (some ⟨g2, 0, none⟩) m (m + 2), .slice (some ⟨g3, 0, none⟩) u (u + 2)] 24) := ⟨_, rfl⟩
  rw [← hw3]
  obtain ⟨hb3, hG3⟩ := box_row w2 _ _ _ _ w3 hw3
  obtain ⟨gm, hgm⟩ : ∃ x, w2.heap.size = x := ⟨_, rfl⟩
  rw [hgm] at hG3 ⊢
  have hb13 : Below w1.heap.size w1 w3 := hb2.trans (hb3.mono hb2.size)
  have H3 := Lib.hid (And.intro (H1.out.1.next hb13) (And.intro hG3 (And.intro (hlw.below hb3) (H1.out.2.trans (hb13.mono H1.out.2.size)))))
  clear hw3 hb3 hG3 hgm hb13 hlw hb2 hd0 hd1 hd2 hd3
  obtain ⟨hd0, hd1, hd2, hd3⟩ := H3.out.1.facts
  obtain ⟨he0, he1, he2, he3⟩ := H3.out.2.1.facts
  have hrow : ∀ W, Below w3.heap.size w3 W → RowV W (some ⟨g1, 0, none⟩) (some ⟨g2, 0, none⟩) (some ⟨g3, 0, none⟩) n (n + 2) m (m + 2) u (u + 2) L C R ∧ RowV W p q s n c m d u e L C R := fun W hb => ⟨(H3.out.2.2.1.below hb).row HM.out.1 HM.out.2.1 HM.out.2.2.1 HM.out.2.2.2.1 HM.out.2.2.2.2.1 HM.out.2.2.2.2.2, (HV.out.1.next H3.out.2.2.2).next hb⟩
  have HW := Lib.hid hrow
  clear hrow
  go_wp2_with fail
  refine (HC.out.1 w3 A (HV.out.2.1.below H3.out.2.2.2) _ _ _ _ _ _ (HW.out w3 (Below.refl _ _)).1).mono ?_
  rintro e4 w4 ⟨f1, rfl, hf1, hb4⟩
  have H4 := Lib.hid (And.intro hb4 hf1)
  clear hb4 hf1 hd0 hd1 hd2 hd3 he0 he1 he2 he3
  obtain ⟨hd0, hd1, hd2, hd3⟩ := (H3.out.1.next H4.out.1).facts
  go_wp2_with fail
  refine (HC.out.2.1 w4 (HW.out w4 H4.out.1).2).mono ?_
  rintro e5 w5 ⟨x1, po1, pa1, z1, co1, ca1, rfl, hwc, hb5⟩
  clear hd0 hd1 hd2 hd3
  go_upto_region 6 with fail
  obtain ⟨w6, hw6⟩ : ∃ x, x = w5.alloc (.cells #[.int .i64 x1, .slice po1 z1 co1, .slice pa1 z1 ca1] 33) := ⟨_, rfl⟩
  rw [← hw6]
  obtain ⟨hb6, hG6⟩ := box_err w5 _ _ _ w6 hw6
  obtain ⟨ge, hge⟩ : ∃ x, w5.heap.size = x := ⟨_, rfl⟩
  rw [hge] at hG6 ⊢
  have h46 := hb5.trans (hb6.mono hb5.size)
  have H6 := Lib.hid (And.intro (H4.out.1.trans (h46.mono H4.out.1.size)) (And.intro (H4.out.2.next h46) (And.intro hG6 (hwc.next hb6))))
  clear hw6 hb6 hG6 hge hb5 hwc h46
  obtain ⟨he0, he1, he2, he3⟩ := (H3.out.2.1.next H6.out.1).facts
  go_wp2_with fail
  refine (HC.out.2.2.1 w6 A ((HV.out.2.1.below H3.out.2.2.2).below H6.out.1) _ _ _ _ _ _ (HW.out w6 H6.out.1).1).mono ?_
  rintro e7 w7 ⟨p7, c7, f2, rfl, o7, hf2, hb7⟩
  have H7 := Lib.hid (And.intro (H6.out.1.trans (hb7.mono H6.out.1.size)) (And.intro (H6.out.2.1.next hb7) (And.intro (H6.out.2.2.1.next hb7) (And.intro (H6.out.2.2.2.next hb7) (And.intro o7.toV hf2)))))
  clear hb7 o7 hf2 he0 he1 he2 he3
  obtain ⟨hd0, hd1, hd2, hd3⟩ := (H3.out.1.next H7.out.1).facts
  go_wp2_with fail
  refine (HC.out.2.2.2.1 w7 (HW.out w7 H7.out.1).2).mono ?_
  rintro e8 w8 ⟨p8, c8, x2, po2, pa2, z2, co2, ca2, rfl, o8, hwc, hb8⟩
  clear hd0 hd1 hd2 hd3
  go_upto_region 8 with fail
  obtain ⟨w9, hw9⟩ : ∃ x, x = w8.alloc (.cells #[.int .i64 x2, .slice po2 z2 co2, .slice pa2 z2 ca2] 33) := ⟨_, rfl⟩
  rw [← hw9]
  obtain ⟨hb9, hG9⟩ := box_err w8 _ _ _ w9 hw9
  obtain ⟨gf, hgf⟩ : ∃ x, w8.heap.size = x := ⟨_, rfl⟩
  rw [hgf] at hG9 ⊢
  have h79 := hb8.trans (hb9.mono hb8.size)
  have H9 := Lib.hid (And.intro (H7.out.1.trans (h79.mono H7.out.1.size)) (And.intro (H7.out.2.1.next h79) (And.intro (H7.out.2.2.1.next h79) (And.intro (H7.out.2.2.2.1.next h79) (And.intro (H7.out.2.2.2.2.1.next h79) (And.intro (H7.out.2.2.2.2.2.next h79) (And.intro hG9 (And.intro (hwc.next hb9) (o8.toV.next hb9)))))))))
  clear hw9 hb9 hG9 hgf hb8 hwc h79 o8
  have hxA : ∀ wx : World, Below w9.heap.size w9 wx → (wx.cell? ⟨gm, 0, none⟩ = some (.int .i64 a) ∧ wx.cell? ⟨gm, 1, none⟩ = some (.slice (some ⟨g1, 0, none⟩) n (n + 2)) ∧ wx.cell? ⟨gm, 2, none⟩ = some (.slice (some ⟨g2, 0, none⟩) m (m + 2)) ∧ wx.cell? ⟨gm, 3, none⟩ = some (.slice (some ⟨g3, 0, none⟩) u (u + 2))) ∧ (wx.cell? ⟨w.heap.size, 0, none⟩ = some (.int .i64 a) ∧ wx.cell? ⟨w.heap.size, 1, none⟩ = some (.slice p n c) ∧ wx.cell? ⟨w.heap.size, 2, none⟩ = some (.slice q m d) ∧ wx.cell? ⟨w.heap.size, 3, none⟩ = some (.slice s u e)) ∧ (wx.cell? ⟨ge, 0, none⟩ = some (.int .i64 x1) ∧ wx.cell? ⟨ge, 1, none⟩ = some (.slice po1 z1 co1) ∧ wx.cell? ⟨ge, 2, none⟩ = some (.slice pa1 z1 ca1)) ∧ (wx.cell? ⟨gf, 0, none⟩ = some (.int .i64 x2) ∧ wx.cell? ⟨gf, 1, none⟩ = some (.slice po2 z2 co2) ∧ wx.cell? ⟨gf, 2, none⟩ = some (.slice pa2 z2 ca2)) := fun wx hb => ⟨((H3.out.2.1.next H9.out.1).next hb).facts, ((H3.out.1.next H9.out.1).next hb).facts, (H9.out.2.2.1.next hb).facts.2, (H9.out.2.2.2.2.2.2.1.next hb).facts.2⟩
  have hdr : Below w9.heap.size w9 w9.drew := (Below.refl _ _).drew
  have hR9 : ∀ wx : World, Below w9.heap.size w9 wx → Roots wx A ∧ TypeVar wx := fun wx hb => ⟨((HV.out.2.1.below H3.out.2.2.2).below H9.out.1).below hb, ((HV.out.2.2.below H3.out.2.2.2).below H9.out.1).below hb⟩
  have hRV : ∀ wx : World, Below w9.heap.size w9 wx → RowV wx (some ⟨g1, 0, none⟩) (some ⟨g2, 0, none⟩) (some ⟨g3, 0, none⟩) n (n + 2) m (m + 2) u (u + 2) L C R ∧ RowV wx p q s n c m d u e L C R := fun wx hb => ⟨(HW.out w9 H9.out.1).1.next hb, (HW.out w9 H9.out.1).2.next hb⟩
  have hin : ∀ (W : World), IntV W.heap.size W p7 c7 lv → IntV W.heap.size W p8 c8 lv → Calls Tryd.prog 18 #[.slice p7 nl c7, .slice p8 nl c8] W (Tells (.bool true) W) := fun W h1 h2 => by
    have := ints_any p7 p8 nl nl c7 c8 lv lv W HN.out.2.2.2.symm HN.out.2.2.2.symm h1 h2
    rwa [sameI_self] at this
  go_region_held3 (fun wx => (wx.cell? ⟨gm, 0, none⟩ = some (.int .i64 a) ∧ wx.cell? ⟨gm, 1, none⟩ = some (.slice (some ⟨g1, 0, none⟩) n (n + 2)) ∧ wx.cell? ⟨gm, 2, none⟩ = some (.slice (some ⟨g2, 0, none⟩) m (m + 2)) ∧ wx.cell? ⟨gm, 3, none⟩ = some (.slice (some ⟨g3, 0, none⟩) u (u + 2))) ∧ (wx.cell? ⟨w.heap.size, 0, none⟩ = some (.int .i64 a) ∧ wx.cell? ⟨w.heap.size, 1, none⟩ = some (.slice p n c) ∧ wx.cell? ⟨w.heap.size, 2, none⟩ = some (.slice q m d) ∧ wx.cell? ⟨w.heap.size, 3, none⟩ = some (.slice s u e)) ∧ (wx.cell? ⟨ge, 0, none⟩ = some (.int .i64 x1) ∧ wx.cell? ⟨ge, 1, none⟩ = some (.slice po1 z1 co1) ∧ wx.cell? ⟨ge, 2, none⟩ = some (.slice pa1 z1 ca1)) ∧ (wx.cell? ⟨gf, 0, none⟩ = some (.int .i64 x2) ∧ wx.cell? ⟨gf, 1, none⟩ = some (.slice po2 z2 co2) ∧ wx.cell? ⟨gf, 2, none⟩ = some (.slice pa2 z2 ca2))) (first | exact hxA _ (by assumption) | exact hxA _ (Below.refl _ _) | exact hxA _ hdr | go_keep) (first
    | (go_at_call 19; refine (HC.out.2.2.2.2.2.2 _ g1 g2 g3 ((H3.out.2.2.1.below H9.out.1).below hB6) (hRV _ hB6).2).mono ?_; rintro e' w16 ⟨rfl, hb16⟩; have hB7 : Below w9.heap.size w9 w16 := hB6.trans (hb16.mono hB6.size))
    | (go_at_call 15; refine (is_wcg (hR9 _ hB5).1 (hR9 _ hB5).2 HN.out.2.2.1 (H9.out.2.2.2.2.2.1.next hB5) (H9.out.2.2.2.2.2.2.2.1.next hB5)).mono ?_; rintro e' w15 ⟨rfl, hb15⟩; have hB6 : Below w9.heap.size w9 w15 := hB5.trans (hb15.mono hB5.size))
    | (go_at_call 18; refine (hin _ (H9.out.2.2.2.2.1.next hB4) (H9.out.2.2.2.2.2.2.2.2.next hB4)).mono ?_; rintro e' w14 ⟨rfl, hb14⟩; have hB5 : Below w9.heap.size w9 w14 := hB4.trans (hb14.mono hB4.size))
    | (go_at_call 15; refine (is_wcg (hR9 _ hB3).1 (hR9 _ hB3).2 HN.out.2.1 (H9.out.2.1.next hB3) (H9.out.2.2.2.1.next hB3)).mono ?_; rintro e' w13 ⟨rfl, hb13⟩; have hB4 : Below w9.heap.size w9 w13 := hB3.trans (hb13.mono hB3.size))
    | (go_at_call 15; refine (is_wcg (hR9 _ hB2).1 (hR9 _ hB2).2 HN.out.1 (hP1.next hb11) hW2).mono ?_; rintro e' w12 ⟨rfl, hb12⟩; have hB3 : Below w9.heap.size w9 w12 := hB2.trans (hb12.mono hB2.size))
    | (go_at_call 17; refine (HC.out.2.2.2.2.2.1 _ (hRV _ hB1).2).mono ?_; rintro e' w11 ⟨x3, po3, pa3, z3, co3, ca3, rfl, hW2, hb11⟩; have hB2 : Below w9.heap.size w9 w11 := hB1.trans (hb11.mono hB1.size))
    | (go_at_call 16; refine (HC.out.2.2.2.2.1 _ A (hR9 _ (by first | exact hdr | exact Below.refl _ _)).1 _ _ _ _ _ _ (hRV _ (by first | exact hdr | exact Below.refl _ _)).1).mono ?_; rintro e' w10 ⟨f3, rfl, hP1, hb10⟩; have hB1 : Below w9.heap.size w9 w10 := (by first | exact hdr.trans (hb10.mono hdr.size) | exact hb10)))
  all_goals
    have HZ := Lib.hid (H3.out.2.2.2.trans ((H9.out.1.trans (hB7.mono H9.out.1.size)).mono H3.out.2.2.2.size))
    clear hxA hdr hR9 hRV hin hb10 hb11 hb12 hb13 hb14 hb15 hb16 hB1 hB2 hB3 hB4 hB5 hB6 hB7 hP1 hW2
    go_wp2_with fail
    go_ret
    exact ⟨rfl, HZ.out⟩
end Go.Proofs.YtfgoflaeclfggaaDoor
