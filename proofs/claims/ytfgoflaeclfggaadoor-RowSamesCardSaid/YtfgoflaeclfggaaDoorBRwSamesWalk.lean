/- RowSames: its walk. -/
import Derived.Test.YtfgoflaeclfggaaDoorBRowU
import Derived.Test.YtfgoflaeclfggaaDoorBRwRingsWalk
import Derived.Test.YtfgoflaeclfggaaDoorBRwCellsWalk
namespace Go.Proofs.YtfgoflaeclfggaaDoor
open Go.RowKit Go.Extern.Stop Go.Stop Go.Extern WordM RuleM NatM
attribute [local go_sem ↓] Go.wp_at_zero Go.wp_at_succ

theorem finS {w wb : World} {g : Nat} {b : Int} {p1 p2 p3 : Option Addr} {n c1 m c2 u c3 : Nat} {X1 X2 X3 : List Int} {z1 z2 z3 z4 : Value} (hB : Below w.heap.size w wb) (hz : Row4 wb g z1 z2 z3 z4) (hg : w.heap.size ≤ g) (h2 : IntV w.heap.size w p2 c2 X2)
    (v1 : IntV (put4 wb g (.int .i64 b) (.slice p1 n c1) (.slice p2 m c2) (.slice p3 u c3)).heap.size (put4 wb g (.int .i64 b) (.slice p1 n c1) (.slice p2 m c2) (.slice p3 u c3)) p1 c1 X1)
    (v3 : IntV (put4 wb g (.int .i64 b) (.slice p1 n c1) (.slice p2 m c2) (.slice p3 u c3)).heap.size (put4 wb g (.int .i64 b) (.slice p1 n c1) (.slice p2 m c2) (.slice p3 u c3)) p3 c3 X3) : FinR w (put4 wb g (.int .i64 b) (.slice p1 n c1) (.slice p2 m c2) (.slice p3 u c3)) g b p1 p2 p3 n c1 m c2 u c3 X1 X2 X3 :=
  ⟨put4_below hB hg _ _ _ _, hz.put _ _ _ _, v1, h2.next (put4_below hB hg _ _ _ _), v3⟩
theorem finT {w wb : World} {b : Int} {p1 p2 p3 : Option Addr} {n c1 m c2 u c3 : Nat} {X1 X2 X3 : List Int} (hB : Below w.heap.size w wb) (h2 : IntV w.heap.size w p2 c2 X2) (v1 : IntV wb.heap.size wb p1 c1 X1) (v3 : IntV wb.heap.size wb p3 c3 X3) :
    FinR w (wb.alloc (.cells #[.int .i64 b, .slice p1 n c1, .slice p2 m c2, .slice p3 u c3] 24)) wb.heap.size b p1 p2 p3 n c1 m c2 u c3 X1 X2 X3 := by
  obtain ⟨h1, h4⟩ := box_row wb (.int .i64 b) (.slice p1 n c1) (.slice p2 m c2) (.slice p3 u c3) _ rfl
  exact ⟨hB.trans (h1.mono hB.size), h4, v1.next h1, (h2.next hB).next h1, v3.next h1⟩
set_option maxRecDepth 100000 in
set_option maxHeartbeats 32000000 in
theorem rsames_bad (k a a' i : Int) (p q s p' q' s' : Option Addr) (n c m d u e n' c' m' d' u' e' : Nat) (L C R L' C' R' : List Int) (w : World) (A : Nat → Addr) (hr : Roots w A) (hT : TypeVar w) (h : RowV w p q s n c m d u e L C R) (h' : RowV w p' q' s' n' c' m' d' u' e' L' C' R') (hn : n ≤ 17592186043904) (hm : m ≤ 17592186043904) (hu : u ≤ 17592186043904) (hn' : n' ≤ 17592186043904) (hm' : m' ≤ 17592186043904) (hu' : u' ≤ 17592186043904) (y : Nat × Nat) (hc : chkE k a L C R a' L' C' R' = some y) :
    Calls Tryd.prog 4 #[.int .i64 k, .agg #[.int .i64 a, .slice p n c, .slice q m d, .slice s u e], .agg #[.int .i64 a', .slice p' n' c', .slice q' m' d', .slice s' u' e'], .int .i64 i] w (Tells (.bool true) w) := by
  have ST := Lib.hid (two_rows w (.int .i64 a) (.slice p n c) (.slice q m d) (.slice s u e) (.int .i64 a') (.slice p' n' c') (.slice q' m' d') (.slice s' u' e'))
  have cA := fun W hr h h' => rSame_bad k a a' p q s p' q' s' n c m d u e n' c' m' d' u' e' L C R L' C' R' W A hr h h' hn hm hu hn' hm' hu' y.1 y.2 hc
  have cB := fun W h h' => same_ref_bad k a a' p q s p' q' s' n c m d u e n' c' m' d' u' e' L C R L' C' R' W h h' hn hm hu hn' hm' hu' y hc
  have hnum : ∀ z, errR (some y) = some z → 1 ≤ z.2 ∧ z.2 ≤ 11 := by rw [← hc]; exact errR_num chkE_num
  obtain ⟨E0, hE0⟩ : ∃ x, errR (some y) = x := ⟨_, rfl⟩
  have cA' : ∀ W, Roots W A → RowV W p q s n c m d u e L C R → RowV W p' q' s' n' c' m' d' u' e' L' C' R' → Calls Tryd.prog 20 #[.int .i64 k, .agg #[.int .i64 a, .slice p n c, .slice q m d, .slice s u e], .agg #[.int .i64 a', .slice p' n' c', .slice q' m' d', .slice s' u' e']] W fun e1 w' => ∃ b, e1 = .returned (.tuple #[.bool false, .iface 73 (.pointer (some ⟨b, 0, none⟩))]) ∧ PChn w' A E0 (.iface 73 (.pointer (some ⟨b, 0, none⟩))) ∧ Below W.heap.size W w' := fun W hr h h' => (cA W hr h h').mono fun e1 w' ⟨b, he, hl, hb⟩ => ⟨b, he, hE0 ▸ ⟨b, rfl, Chn.one hl⟩, hb⟩
  rw [hE0] at cB hnum
  have HC := Lib.hid (And.intro cA' (And.intro cB hnum))
  have HV := Lib.hid (And.intro hr (And.intro hT (And.intro h h')))
  clear hE0 cA cA' cB hnum hc h h' hr hT hn hm hu hn' hm' hu'
  go_enter Tryd.func4, Tryd.ntmps4
  go_upto_region 1 with fail
  obtain ⟨w0, hw0⟩ : ∃ w0, w0 = (w.alloc (.cells #[.int .i64 a, .slice p n c, .slice q m d, .slice s u e] 24)).alloc (.cells #[.int .i64 a', .slice p' n' c', .slice q' m' d', .slice s' u' e'] 24) := ⟨_, rfl⟩
  rw [← hw0]
  obtain ⟨hb0, hE0, hF0⟩ := ST.out w0 hw0
  have HE := Lib.hid (And.intro hE0 (And.intro hF0 hb0))
  clear hw0 hE0 hF0 hb0
  go_wp2_with fail
  refine (awakeRw w0 A (HV.out.1.below HE.out.2.2)).mono ?_
  rintro e1 w1 ⟨rfl, hb1⟩
  have H1 := Lib.hid (And.intro (HE.out.1.next hb1) (And.intro (HE.out.2.1.next hb1) (HE.out.2.2.trans (hb1.mono HE.out.2.2.size))))
  clear hb1
  obtain ⟨hd0, hd1, hd2, hd3⟩ := H1.out.1.facts
  obtain ⟨he0, he1, he2, he3⟩ := H1.out.2.1.facts
  go_wp2_with fail
  refine (HC.out.1 w1 (HV.out.1.below H1.out.2.2) (HV.out.2.2.1.next H1.out.2.2) (HV.out.2.2.2.next H1.out.2.2)).mono ?_
  rintro e2 w2 ⟨b, rfl, hp2, hb2⟩
  have H2 := Lib.hid (And.intro (H1.out.1.next hb2) (And.intro (H1.out.2.1.next hb2) (And.intro hp2 (H1.out.2.2.trans (hb2.mono H1.out.2.2.size)))))
  clear hb2 hp2 hd0 hd1 hd2 hd3 he0 he1 he2 he3
  obtain ⟨hd0, hd1, hd2, hd3⟩ := H2.out.1.facts
  obtain ⟨he0, he1, he2, he3⟩ := H2.out.2.1.facts
  go_wp2_with fail
  refine (HC.out.2.1 w2 (HV.out.2.2.1.next H2.out.2.2.2) (HV.out.2.2.2.next H2.out.2.2.2)).mono ?_
  rintro e3 w3 ⟨x1, po1, pa1, z1, co1, ca1, rfl, hwc, hb3⟩
  clear hd0 hd1 hd2 hd3 he0 he1 he2 he3
  go_upto_region 5 with fail
  obtain ⟨w4, hw4⟩ : ∃ x, x = w3.alloc (.cells #[.int .i64 x1, .slice po1 z1 co1, .slice pa1 z1 ca1] 33) := ⟨_, rfl⟩
  rw [← hw4]
  obtain ⟨hb4, hG4⟩ := box_err w3 _ _ _ w4 hw4
  obtain ⟨ge, hge⟩ : ∃ x, w3.heap.size = x := ⟨_, rfl⟩
  rw [hge] at hG4 ⊢
  have h24 := hb3.trans (hb4.mono hb3.size)
  have H4 := Lib.hid (And.intro hG4 (And.intro (hwc.next hb4) (And.intro (H2.out.2.2.1.next h24) (H2.out.2.2.2.trans (h24.mono H2.out.2.2.2.size)))))
  clear hw4 hb4 hG4 hge hb3 hwc h24
  obtain ⟨_, hg0, hg1, hg2⟩ := H4.out.1.facts
  go_wp2_with fail
  refine (is_wcg (HV.out.1.below H4.out.2.2.2) (HV.out.2.1.below H4.out.2.2.2) HC.out.2.2 H4.out.2.2.1 H4.out.2.1).mono ?_
  rintro e5 w5 ⟨rfl, hb5⟩
  have HZ := Lib.hid (H4.out.2.2.2.trans (hb5.mono H4.out.2.2.2.size))
  clear hb5 hg0 hg1 hg2
  go_wp2_with fail
  go_ret
  exact ⟨rfl, HZ.out⟩
set_option maxRecDepth 100000 in
set_option maxHeartbeats 32000000 in
theorem rsames_t1 (k : Nat) (a a' y : Int) (p q s p' q' s' : Option Addr) (n c m d u e n' c' m' d' u' e' : Nat) (L C R L' C' R' : List Int) (w : World) (A : Nat → Addr) (hr : Roots w A) (hT : TypeVar w) (h : RowV w p q s n c m d u e L C R) (h' : RowV w p' q' s' n' c' m' d' u' e' L' C' R') (hw : OkRw k a L C R) (hw' : OkRw k a' L' C' R') (hB : true = true ↔ OneR a L C R a' L' C' R') (s1 : a - (n : Int) < -4096) :
    Calls Tryd.prog 4 #[.int .i64 (k : Int), .agg #[.int .i64 a, .slice p n c, .slice q m d, .slice s u e], .agg #[.int .i64 a', .slice p' n' c', .slice q' m' d', .slice s' u' e'], .int .i64 y] w (Tells (.bool true) w) := by
  have ST := Lib.hid (two_rows w (.int .i64 a) (.slice p n c) (.slice q m d) (.slice s u e) (.int .i64 a') (.slice p' n' c') (.slice q' m' d') (.slice s' u' e'))
  have zn : n ≤ 8192 := by have := hw.l1; have := h.hn; omega
  have zm : m ≤ 16384 := by have := hw.c1; have := h.hm; omega
  have zu : u ≤ 8192 := by have := hw.r1; have := h.hu; omega
  have za1 := hw.a1
  have za2 := hw.a2
  obtain ⟨D, hD4, q1, q2, q3⟩ := round_modG y 4000 (by omega) (by omega)
  obtain ⟨ys, hys⟩ : ∃ z, y.tmod ((4000 : Nat) : Int) = z := ⟨_, rfl⟩
  rw [hys] at q1 q2 q3
  have hys' : y.tmod 4000 = ys := hys
  have q3' : (ys + 4000).tmod 4000 = (D : Int) := q3
  have wys : IntKind.i64.wrap (ys + 4000) = ys + 4000 := by rw [IntWalk.i64_in _ (by omega)]
  obtain ⟨iv, hiv⟩ : ∃ x, (D : Int) - 2000 = x := ⟨_, rfl⟩
  have wD : IntKind.i64.wrap ((D : Int) - 2000) = iv := by rw [IntWalk.i64_in _ (by omega)]; exact hiv
  obtain ⟨an, han⟩ : ∃ x, a - (n : Int) = x := ⟨_, rfl⟩
  have wan : IntKind.i64.wrap (a - (n : Int)) = an := by rw [IntWalk.i64_in _ (by omega)]; exact han
  obtain ⟨y1, hy1⟩ : ∃ x, (m : Int) + (n : Int) = x := ⟨_, rfl⟩
  have wy1 : IntKind.i64.wrap ((m : Int) + (n : Int)) = y1 := by rw [IntWalk.i64_in _ (by omega)]; exact hy1
  obtain ⟨y2, hy2⟩ : ∃ x, y1 + (u : Int) = x := ⟨_, rfl⟩
  have wy2 : IntKind.i64.wrap (y1 + (u : Int)) = y2 := by rw [IntWalk.i64_in _ (by omega)]; exact hy2
  have cA := fun (W : World) (hW : Below w.heap.size w W) => rSame_ok k a a' p q s p' q' s' n c m d u e n' c' m' d' u' e' L C R L' C' R' W (h.next hW) (h'.next hW) hw hw' true hB
  have cB := fun (W : World) (hW : Below w.heap.size w W) => same_ref_ok k a a' p q s p' q' s' n c m d u e n' c' m' d' u' e' L C R L' C' R' W (h.next hW) (h'.next hW) hw hw' true hB
  have cC := fun (W : World) (hW : Below w.heap.size w W) => rSame_ok k a' a p' q' s' p q s n' c' m' d' u' e' n c m d u e L' C' R' L C R W (h'.next hW) (h.next hW) hw' hw true ⟨fun hz => (hB.1 hz).symm, fun hz => hB.2 hz.symm⟩
  have cD := fun (W : World) (hW : Below w.heap.size w W) => rSame_ok k a a p q s p q s n c m d u e n c m d u e L C R L C R W (h.next hW) (h.next hW) hw hw true ⟨fun _ => OneR.refl a L C R, fun _ => rfl⟩
  obtain ⟨X, hX⟩ : ∃ x, pieceR a L C R iv 100 = x := ⟨_, rfl⟩
  obtain ⟨Y, hY⟩ : ∃ x, pieceR a' L' C' R' iv 100 = x := ⟨_, rfl⟩
  have lX : X.length = 100 := by rw [← hX]; exact pieceR_length _ _ _ _ _ _
  have lY : Y.length = 100 := by rw [← hY]; exact pieceR_length _ _ _ _ _ _
  have cE : ∀ W : World, Below w.heap.size w W → Calls Tryd.prog 13 #[.int .i64 (k : Int), .agg #[.int .i64 a, .slice p n c, .slice q m d, .slice s u e], .int .i64 iv, .int .i64 100] W fun e' w' => ∃ pa ca, e' = .returned (.tuple #[.slice pa 100 ca, .nilIface]) ∧ IntO W.heap.size w' pa ca X ∧ Below W.heap.size W w' := fun W hW => by
    have h4 := rCut_ok k a iv 100 p q s n c m d u e L C R W (h.next hW) hw (by omega) (by omega) (by omega)
    rw [hX] at h4
    exact h4.mono fun e' w' ⟨pa, ca, he, ho, hb⟩ => ⟨pa, ca, by rw [he, lX], ho, hb⟩
  have cF : ∀ W : World, Below w.heap.size w W → Calls Tryd.prog 13 #[.int .i64 (k : Int), .agg #[.int .i64 a', .slice p' n' c', .slice q' m' d', .slice s' u' e'], .int .i64 iv, .int .i64 100] W fun e' w' => ∃ pa ca, e' = .returned (.tuple #[.slice pa 100 ca, .nilIface]) ∧ IntO W.heap.size w' pa ca Y ∧ Below W.heap.size W w' := fun W hW => by
    have h4 := rCut_ok k a' iv 100 p' q' s' n' c' m' d' u' e' L' C' R' W (h'.next hW) hw' (by omega) (by omega) (by omega)
    rw [hY] at h4
    exact h4.mono fun e' w' ⟨pa, ca, he, ho, hb⟩ => ⟨pa, ca, by rw [he, lY], ho, hb⟩
  have hXY : X = Y := by rw [← hX, ← hY]; exact (hB.1 rfl).piece iv 100
  have cI : ∀ (W : World) (x z : Option Addr) (f g : Nat), IntV W.heap.size W x f X → IntV W.heap.size W z g Y → Calls Tryd.prog 18 #[.slice x 100 f, .slice z 100 g] W (Tells (.bool true) W) := fun W x z f g h1 h2 => by
    have := ints_any x z 100 100 f g X Y W lX.symm lY.symm h1 h2
    rw [hXY] at this
    rwa [sameI_self] at this
  rw [han] at s1
  have HC := Lib.hid (And.intro cA (And.intro cB (And.intro cC (And.intro cD (And.intro cE (And.intro cF cI))))))
  have HV := Lib.hid (And.intro hr (And.intro hT (And.intro h h')))
  clear hXY cA cB cC cD cE cF cI h h' hr hT hw hw' hB zn zm zu za1 za2 hD4 q1 q2 q3 hys hiv han hy1 hy2 hX hY lX lY
  go_enter Tryd.func4, Tryd.ntmps4
  go_upto_region 1 with fail
  obtain ⟨w0, hw0⟩ : ∃ w0, w0 = (w.alloc (.cells #[.int .i64 a, .slice p n c, .slice q m d, .slice s u e] 24)).alloc (.cells #[.int .i64 a', .slice p' n' c', .slice q' m' d', .slice s' u' e'] 24) := ⟨_, rfl⟩
  rw [← hw0]
  obtain ⟨hb0, hE0, hF0⟩ := ST.out w0 hw0
  have HE := Lib.hid (And.intro hE0 (And.intro hF0 hb0))
  clear hw0 hE0 hF0 hb0
  go_wp2_with fail
  refine (awakeRw w0 A (HV.out.1.below HE.out.2.2)).mono ?_
  rintro e1 w1 ⟨rfl, hb1⟩
  have H1 := Lib.hid (And.intro (HE.out.1.next hb1) (And.intro (HE.out.2.1.next hb1) (HE.out.2.2.trans (hb1.mono HE.out.2.2.size))))
  clear hb1
  obtain ⟨hd0, hd1, hd2, hd3⟩ := H1.out.1.facts
  obtain ⟨he0, he1, he2, he3⟩ := H1.out.2.1.facts
  go_wp2_with fail
  refine (HC.out.1 w1 H1.out.2.2).mono ?_
  rintro e2 w2 ⟨rfl, hb2⟩
  have H2 := Lib.hid (And.intro (H1.out.1.next hb2) (And.intro (H1.out.2.1.next hb2) (H1.out.2.2.trans (hb2.mono H1.out.2.2.size))))
  clear hb2 hd0 hd1 hd2 hd3 he0 he1 he2 he3
  obtain ⟨hd0, hd1, hd2, hd3⟩ := H2.out.1.facts
  obtain ⟨he0, he1, he2, he3⟩ := H2.out.2.1.facts
  go_wp2_with fail
  refine (HC.out.2.1 w2 H2.out.2.2).mono ?_
  rintro e3 w3 ⟨x1, po1, pa1, z1, co1, ca1, rfl, hwc, hb3⟩
  clear hd0 hd1 hd2 hd3 he0 he1 he2 he3
  go_upto_region 5 with fail
  obtain ⟨w4, hw4⟩ : ∃ x, x = w3.alloc (.cells #[.int .i64 x1, .slice po1 z1 co1, .slice pa1 z1 ca1] 33) := ⟨_, rfl⟩
  rw [← hw4]
  obtain ⟨hb4, hG4⟩ := box_err w3 _ _ _ w4 hw4
  obtain ⟨ge, hge⟩ : ∃ x, w3.heap.size = x := ⟨_, rfl⟩
  rw [hge] at hG4 ⊢
  have h24 := hb3.trans (hb4.mono hb3.size)
  have H4 := Lib.hid (And.intro (H2.out.1.next h24) (And.intro (H2.out.2.1.next h24) (And.intro (hwc.next hb4) (H2.out.2.2.trans (h24.mono H2.out.2.2.size)))))
  obtain ⟨_, hg0, hg1, hg2⟩ := hG4.facts
  clear hw4 hb4 hG4 hge hb3 hwc h24
  go_wp2_with fail
  refine (is_wcg (x := none) (HV.out.1.below H4.out.2.2.2) (HV.out.2.1.below H4.out.2.2.2) (fun y hy => by cases hy) (rfl : PChn w4 A none .nilIface) H4.out.2.2.1).mono ?_
  rintro e5 w5 ⟨rfl, hb5⟩
  have H5 := Lib.hid (And.intro (H4.out.1.next hb5) (And.intro (H4.out.2.1.next hb5) (H4.out.2.2.2.trans (hb5.mono H4.out.2.2.2.size))))
  clear hb5 hg0 hg1 hg2
  obtain ⟨hd0, hd1, hd2, hd3⟩ := H5.out.1.facts
  obtain ⟨he0, he1, he2, he3⟩ := H5.out.2.1.facts
  go_wp2_with fail
  refine (HC.out.2.2.1 w5 H5.out.2.2).mono ?_
  rintro e6 w6 ⟨rfl, hb6⟩
  have H6 := Lib.hid (And.intro (H5.out.1.next hb6) (And.intro (H5.out.2.1.next hb6) (H5.out.2.2.trans (hb6.mono H5.out.2.2.size))))
  clear hb6 hd0 hd1 hd2 hd3 he0 he1 he2 he3
  obtain ⟨hd0, hd1, hd2, hd3⟩ := H6.out.1.facts
  obtain ⟨he0, he1, he2, he3⟩ := H6.out.2.1.facts
  go_wp2_with fail
  refine (HC.out.2.2.2.1 w6 H6.out.2.2).mono ?_
  rintro e7 w7 ⟨rfl, hb7⟩
  have H7 := Lib.hid (And.intro (H6.out.1.next hb7) (And.intro (H6.out.2.1.next hb7) (H6.out.2.2.trans (hb7.mono H6.out.2.2.size))))
  clear hb7 hd0 hd1 hd2 hd3 he0 he1 he2 he3
  obtain ⟨hd0, hd1, hd2, hd3⟩ := H7.out.1.facts
  obtain ⟨he0, he1, he2, he3⟩ := H7.out.2.1.facts
  go_wp2_with fail
  refine (HC.out.2.2.2.2.1 w7 H7.out.2.2).mono ?_
  rintro e8 w8 ⟨p8, c8, rfl, o8, hb8⟩
  have H8 := Lib.hid (And.intro (H7.out.1.next hb8) (And.intro (H7.out.2.1.next hb8) (And.intro o8.toV (H7.out.2.2.trans (hb8.mono H7.out.2.2.size)))))
  clear hb8 o8 hd0 hd1 hd2 hd3 he0 he1 he2 he3
  obtain ⟨hd0, hd1, hd2, hd3⟩ := H8.out.1.facts
  obtain ⟨he0, he1, he2, he3⟩ := H8.out.2.1.facts
  go_wp2_with fail
  refine (HC.out.2.2.2.2.2.1 w8 H8.out.2.2.2).mono ?_
  rintro e9 w9 ⟨p9, c9, rfl, o9, hb9⟩
  have H9 := Lib.hid (And.intro (H8.out.1.next hb9) (And.intro (H8.out.2.2.1.next hb9) (And.intro o9.toV (H8.out.2.2.2.trans (hb9.mono H8.out.2.2.2.size)))))
  clear hb9 o9 hd0 hd1 hd2 hd3 he0 he1 he2 he3
  obtain ⟨hd0, hd1, hd2, hd3⟩ := H9.out.1.facts
  go_wp2_with fail
  refine (HC.out.2.2.2.2.2.2 w9 p8 p9 c8 c9 H9.out.2.1 H9.out.2.2.1).mono ?_
  rintro e10 wt ⟨rfl, hb10⟩
  have HX := Lib.hid (And.intro (H9.out.1.next hb10) (H9.out.2.2.2.trans (hb10.mono H9.out.2.2.2.size)))
  clear hb10 hd0 hd1 hd2 hd3
  obtain ⟨hd0, hd1, hd2, hd3⟩ := HX.out.1.facts
  go_wp2_with fail
  go_ret
  exact ⟨rfl, HX.out.2⟩
set_option maxRecDepth 100000 in
set_option maxHeartbeats 32000000 in
theorem rsames_t2 (k : Nat) (a a' y : Int) (p q s p' q' s' : Option Addr) (n c m d u e n' c' m' d' u' e' : Nat) (L C R L' C' R' : List Int) (w : World) (A : Nat → Addr) (hr : Roots w A) (hT : TypeVar w) (h : RowV w p q s n c m d u e L C R) (h' : RowV w p' q' s' n' c' m' d' u' e' L' C' R') (hw : OkRw k a L C R) (hw' : OkRw k a' L' C' R') (hB : true = true ↔ OneR a L C R a' L' C' R') (s1 : ¬ a - (n : Int) < -4096) (s2 : 16384 < (m : Int) + (n : Int) + (u : Int)) :
    Calls Tryd.prog 4 #[.int .i64 (k : Int), .agg #[.int .i64 a, .slice p n c, .slice q m d, .slice s u e], .agg #[.int .i64 a', .slice p' n' c', .slice q' m' d', .slice s' u' e'], .int .i64 y] w (Tells (.bool true) w) := by
  have ST := Lib.hid (two_rows w (.int .i64 a) (.slice p n c) (.slice q m d) (.slice s u e) (.int .i64 a') (.slice p' n' c') (.slice q' m' d') (.slice s' u' e'))
  have zn : n ≤ 8192 := by have := hw.l1; have := h.hn; omega
  have zm : m ≤ 16384 := by have := hw.c1; have := h.hm; omega
  have zu : u ≤ 8192 := by have := hw.r1; have := h.hu; omega
  have za1 := hw.a1
  have za2 := hw.a2
  obtain ⟨D, hD4, q1, q2, q3⟩ := round_modG y 4000 (by omega) (by omega)
  obtain ⟨ys, hys⟩ : ∃ z, y.tmod ((4000 : Nat) : Int) = z := ⟨_, rfl⟩
  rw [hys] at q1 q2 q3
  have hys' : y.tmod 4000 = ys := hys
  have q3' : (ys + 4000).tmod 4000 = (D : Int) := q3
  have wys : IntKind.i64.wrap (ys + 4000) = ys + 4000 := by rw [IntWalk.i64_in _ (by omega)]
  obtain ⟨iv, hiv⟩ : ∃ x, (D : Int) - 2000 = x := ⟨_, rfl⟩
  have wD : IntKind.i64.wrap ((D : Int) - 2000) = iv := by rw [IntWalk.i64_in _ (by omega)]; exact hiv
  obtain ⟨an, han⟩ : ∃ x, a - (n : Int) = x := ⟨_, rfl⟩
  have wan : IntKind.i64.wrap (a - (n : Int)) = an := by rw [IntWalk.i64_in _ (by omega)]; exact han
  obtain ⟨y1, hy1⟩ : ∃ x, (m : Int) + (n : Int) = x := ⟨_, rfl⟩
  have wy1 : IntKind.i64.wrap ((m : Int) + (n : Int)) = y1 := by rw [IntWalk.i64_in _ (by omega)]; exact hy1
  obtain ⟨y2, hy2⟩ : ∃ x, y1 + (u : Int) = x := ⟨_, rfl⟩
  have wy2 : IntKind.i64.wrap (y1 + (u : Int)) = y2 := by rw [IntWalk.i64_in _ (by omega)]; exact hy2
  have cA := fun (W : World) (hW : Below w.heap.size w W) => rSame_ok k a a' p q s p' q' s' n c m d u e n' c' m' d' u' e' L C R L' C' R' W (h.next hW) (h'.next hW) hw hw' true hB
  have cB := fun (W : World) (hW : Below w.heap.size w W) => same_ref_ok k a a' p q s p' q' s' n c m d u e n' c' m' d' u' e' L C R L' C' R' W (h.next hW) (h'.next hW) hw hw' true hB
  have cC := fun (W : World) (hW : Below w.heap.size w W) => rSame_ok k a' a p' q' s' p q s n' c' m' d' u' e' n c m d u e L' C' R' L C R W (h'.next hW) (h.next hW) hw' hw true ⟨fun hz => (hB.1 hz).symm, fun hz => hB.2 hz.symm⟩
  have cD := fun (W : World) (hW : Below w.heap.size w W) => rSame_ok k a a p q s p q s n c m d u e n c m d u e L C R L C R W (h.next hW) (h.next hW) hw hw true ⟨fun _ => OneR.refl a L C R, fun _ => rfl⟩
  obtain ⟨X, hX⟩ : ∃ x, pieceR a L C R iv 100 = x := ⟨_, rfl⟩
  obtain ⟨Y, hY⟩ : ∃ x, pieceR a' L' C' R' iv 100 = x := ⟨_, rfl⟩
  have lX : X.length = 100 := by rw [← hX]; exact pieceR_length _ _ _ _ _ _
  have lY : Y.length = 100 := by rw [← hY]; exact pieceR_length _ _ _ _ _ _
  have cE : ∀ W : World, Below w.heap.size w W → Calls Tryd.prog 13 #[.int .i64 (k : Int), .agg #[.int .i64 a, .slice p n c, .slice q m d, .slice s u e], .int .i64 iv, .int .i64 100] W fun e' w' => ∃ pa ca, e' = .returned (.tuple #[.slice pa 100 ca, .nilIface]) ∧ IntO W.heap.size w' pa ca X ∧ Below W.heap.size W w' := fun W hW => by
    have h4 := rCut_ok k a iv 100 p q s n c m d u e L C R W (h.next hW) hw (by omega) (by omega) (by omega)
    rw [hX] at h4
    exact h4.mono fun e' w' ⟨pa, ca, he, ho, hb⟩ => ⟨pa, ca, by rw [he, lX], ho, hb⟩
  have cF : ∀ W : World, Below w.heap.size w W → Calls Tryd.prog 13 #[.int .i64 (k : Int), .agg #[.int .i64 a', .slice p' n' c', .slice q' m' d', .slice s' u' e'], .int .i64 iv, .int .i64 100] W fun e' w' => ∃ pa ca, e' = .returned (.tuple #[.slice pa 100 ca, .nilIface]) ∧ IntO W.heap.size w' pa ca Y ∧ Below W.heap.size W w' := fun W hW => by
    have h4 := rCut_ok k a' iv 100 p' q' s' n' c' m' d' u' e' L' C' R' W (h'.next hW) hw' (by omega) (by omega) (by omega)
    rw [hY] at h4
    exact h4.mono fun e' w' ⟨pa, ca, he, ho, hb⟩ => ⟨pa, ca, by rw [he, lY], ho, hb⟩
  have hXY : X = Y := by rw [← hX, ← hY]; exact (hB.1 rfl).piece iv 100
  have cI : ∀ (W : World) (x z : Option Addr) (f g : Nat), IntV W.heap.size W x f X → IntV W.heap.size W z g Y → Calls Tryd.prog 18 #[.slice x 100 f, .slice z 100 g] W (Tells (.bool true) W) := fun W x z f g h1 h2 => by
    have := ints_any x z 100 100 f g X Y W lX.symm lY.symm h1 h2
    rw [hXY] at this
    rwa [sameI_self] at this
  rw [han] at s1
  have HC := Lib.hid (And.intro cA (And.intro cB (And.intro cC (And.intro cD (And.intro cE (And.intro cF cI))))))
  have HV := Lib.hid (And.intro hr (And.intro hT (And.intro h h')))
  rw [hy1, hy2] at s2
  clear hXY cA cB cC cD cE cF cI h h' hr hT hw hw' hB zn zm zu za1 za2 hD4 q1 q2 q3 hys hiv han hy1 hy2 hX hY lX lY
  go_enter Tryd.func4, Tryd.ntmps4
  go_upto_region 1 with fail
  obtain ⟨w0, hw0⟩ : ∃ w0, w0 = (w.alloc (.cells #[.int .i64 a, .slice p n c, .slice q m d, .slice s u e] 24)).alloc (.cells #[.int .i64 a', .slice p' n' c', .slice q' m' d', .slice s' u' e'] 24) := ⟨_, rfl⟩
  rw [← hw0]
  obtain ⟨hb0, hE0, hF0⟩ := ST.out w0 hw0
  have HE := Lib.hid (And.intro hE0 (And.intro hF0 hb0))
  clear hw0 hE0 hF0 hb0
  go_wp2_with fail
  refine (awakeRw w0 A (HV.out.1.below HE.out.2.2)).mono ?_
  rintro e1 w1 ⟨rfl, hb1⟩
  have H1 := Lib.hid (And.intro (HE.out.1.next hb1) (And.intro (HE.out.2.1.next hb1) (HE.out.2.2.trans (hb1.mono HE.out.2.2.size))))
  clear hb1
  obtain ⟨hd0, hd1, hd2, hd3⟩ := H1.out.1.facts
  obtain ⟨he0, he1, he2, he3⟩ := H1.out.2.1.facts
  go_wp2_with fail
  refine (HC.out.1 w1 H1.out.2.2).mono ?_
  rintro e2 w2 ⟨rfl, hb2⟩
  have H2 := Lib.hid (And.intro (H1.out.1.next hb2) (And.intro (H1.out.2.1.next hb2) (H1.out.2.2.trans (hb2.mono H1.out.2.2.size))))
  clear hb2 hd0 hd1 hd2 hd3 he0 he1 he2 he3
  obtain ⟨hd0, hd1, hd2, hd3⟩ := H2.out.1.facts
  obtain ⟨he0, he1, he2, he3⟩ := H2.out.2.1.facts
  go_wp2_with fail
  refine (HC.out.2.1 w2 H2.out.2.2).mono ?_
  rintro e3 w3 ⟨x1, po1, pa1, z1, co1, ca1, rfl, hwc, hb3⟩
  clear hd0 hd1 hd2 hd3 he0 he1 he2 he3
  go_upto_region 5 with fail
  obtain ⟨w4, hw4⟩ : ∃ x, x = w3.alloc (.cells #[.int .i64 x1, .slice po1 z1 co1, .slice pa1 z1 ca1] 33) := ⟨_, rfl⟩
  rw [← hw4]
  obtain ⟨hb4, hG4⟩ := box_err w3 _ _ _ w4 hw4
  obtain ⟨ge, hge⟩ : ∃ x, w3.heap.size = x := ⟨_, rfl⟩
  rw [hge] at hG4 ⊢
  have h24 := hb3.trans (hb4.mono hb3.size)
  have H4 := Lib.hid (And.intro (H2.out.1.next h24) (And.intro (H2.out.2.1.next h24) (And.intro (hwc.next hb4) (H2.out.2.2.trans (h24.mono H2.out.2.2.size)))))
  obtain ⟨_, hg0, hg1, hg2⟩ := hG4.facts
  clear hw4 hb4 hG4 hge hb3 hwc h24
  go_wp2_with fail
  refine (is_wcg (x := none) (HV.out.1.below H4.out.2.2.2) (HV.out.2.1.below H4.out.2.2.2) (fun y hy => by cases hy) (rfl : PChn w4 A none .nilIface) H4.out.2.2.1).mono ?_
  rintro e5 w5 ⟨rfl, hb5⟩
  have H5 := Lib.hid (And.intro (H4.out.1.next hb5) (And.intro (H4.out.2.1.next hb5) (H4.out.2.2.2.trans (hb5.mono H4.out.2.2.2.size))))
  clear hb5 hg0 hg1 hg2
  obtain ⟨hd0, hd1, hd2, hd3⟩ := H5.out.1.facts
  obtain ⟨he0, he1, he2, he3⟩ := H5.out.2.1.facts
  go_wp2_with fail
  refine (HC.out.2.2.1 w5 H5.out.2.2).mono ?_
  rintro e6 w6 ⟨rfl, hb6⟩
  have H6 := Lib.hid (And.intro (H5.out.1.next hb6) (And.intro (H5.out.2.1.next hb6) (H5.out.2.2.trans (hb6.mono H5.out.2.2.size))))
  clear hb6 hd0 hd1 hd2 hd3 he0 he1 he2 he3
  obtain ⟨hd0, hd1, hd2, hd3⟩ := H6.out.1.facts
  obtain ⟨he0, he1, he2, he3⟩ := H6.out.2.1.facts
  go_wp2_with fail
  refine (HC.out.2.2.2.1 w6 H6.out.2.2).mono ?_
  rintro e7 w7 ⟨rfl, hb7⟩
  have H7 := Lib.hid (And.intro (H6.out.1.next hb7) (And.intro (H6.out.2.1.next hb7) (H6.out.2.2.trans (hb7.mono H6.out.2.2.size))))
  clear hb7 hd0 hd1 hd2 hd3 he0 he1 he2 he3
  obtain ⟨hd0, hd1, hd2, hd3⟩ := H7.out.1.facts
  obtain ⟨he0, he1, he2, he3⟩ := H7.out.2.1.facts
  go_wp2_with fail
  refine (HC.out.2.2.2.2.1 w7 H7.out.2.2).mono ?_
  rintro e8 w8 ⟨p8, c8, rfl, o8, hb8⟩
  have H8 := Lib.hid (And.intro (H7.out.1.next hb8) (And.intro (H7.out.2.1.next hb8) (And.intro o8.toV (H7.out.2.2.trans (hb8.mono H7.out.2.2.size)))))
  clear hb8 o8 hd0 hd1 hd2 hd3 he0 he1 he2 he3
  obtain ⟨hd0, hd1, hd2, hd3⟩ := H8.out.1.facts
  obtain ⟨he0, he1, he2, he3⟩ := H8.out.2.1.facts
  go_wp2_with fail
  refine (HC.out.2.2.2.2.2.1 w8 H8.out.2.2.2).mono ?_
  rintro e9 w9 ⟨p9, c9, rfl, o9, hb9⟩
  have H9 := Lib.hid (And.intro (H8.out.1.next hb9) (And.intro (H8.out.2.2.1.next hb9) (And.intro o9.toV (H8.out.2.2.2.trans (hb9.mono H8.out.2.2.2.size)))))
  clear hb9 o9 hd0 hd1 hd2 hd3 he0 he1 he2 he3
  obtain ⟨hd0, hd1, hd2, hd3⟩ := H9.out.1.facts
  go_wp2_with fail
  refine (HC.out.2.2.2.2.2.2 w9 p8 p9 c8 c9 H9.out.2.1 H9.out.2.2.1).mono ?_
  rintro e10 wt ⟨rfl, hb10⟩
  have HX := Lib.hid (And.intro (H9.out.1.next hb10) (H9.out.2.2.2.trans (hb10.mono H9.out.2.2.2.size)))
  clear hb10 hd0 hd1 hd2 hd3
  obtain ⟨hd0, hd1, hd2, hd3⟩ := HX.out.1.facts
  go_wp2_with fail
  go_ret
  exact ⟨rfl, HX.out.2⟩
set_option maxRecDepth 100000 in
set_option maxHeartbeats 32000000 in
theorem rsames_t3 (k : Nat) (a a' y : Int) (p q s p' q' s' : Option Addr) (n c m d u e n' c' m' d' u' e' : Nat) (L C R L' C' R' : List Int) (w : World) (A : Nat → Addr) (hr : Roots w A) (hT : TypeVar w) (h : RowV w p q s n c m d u e L C R) (h' : RowV w p' q' s' n' c' m' d' u' e' L' C' R') (hw : OkRw k a L C R) (hw' : OkRw k a' L' C' R') (hB : true = true ↔ OneR a L C R a' L' C' R') (s1 : ¬ a - (n : Int) < -4096) (s2 : ¬ 16384 < (m : Int) + (n : Int) + (u : Int)) :
    Calls Tryd.prog 4 #[.int .i64 (k : Int), .agg #[.int .i64 a, .slice p n c, .slice q m d, .slice s u e], .agg #[.int .i64 a', .slice p' n' c', .slice q' m' d', .slice s' u' e'], .int .i64 y] w (Tells (.bool true) w) := by
  have ST := Lib.hid (two_rows w (.int .i64 a) (.slice p n c) (.slice q m d) (.slice s u e) (.int .i64 a') (.slice p' n' c') (.slice q' m' d') (.slice s' u' e'))
  have zn : n ≤ 8192 := by have := hw.l1; have := h.hn; omega
  have zm : m ≤ 16384 := by have := hw.c1; have := h.hm; omega
  have zu : u ≤ 8192 := by have := hw.r1; have := h.hu; omega
  have za1 := hw.a1
  have za2 := hw.a2
  obtain ⟨D, hD4, q1, q2, q3⟩ := round_modG y 4000 (by omega) (by omega)
  obtain ⟨ys, hys⟩ : ∃ z, y.tmod ((4000 : Nat) : Int) = z := ⟨_, rfl⟩
  rw [hys] at q1 q2 q3
  have hys' : y.tmod 4000 = ys := hys
  have q3' : (ys + 4000).tmod 4000 = (D : Int) := q3
  have wys : IntKind.i64.wrap (ys + 4000) = ys + 4000 := by rw [IntWalk.i64_in _ (by omega)]
  obtain ⟨iv, hiv⟩ : ∃ x, (D : Int) - 2000 = x := ⟨_, rfl⟩
  have wD : IntKind.i64.wrap ((D : Int) - 2000) = iv := by rw [IntWalk.i64_in _ (by omega)]; exact hiv
  obtain ⟨an, han⟩ : ∃ x, a - (n : Int) = x := ⟨_, rfl⟩
  have wan : IntKind.i64.wrap (a - (n : Int)) = an := by rw [IntWalk.i64_in _ (by omega)]; exact han
  obtain ⟨y1, hy1⟩ : ∃ x, (m : Int) + (n : Int) = x := ⟨_, rfl⟩
  have wy1 : IntKind.i64.wrap ((m : Int) + (n : Int)) = y1 := by rw [IntWalk.i64_in _ (by omega)]; exact hy1
  obtain ⟨y2, hy2⟩ : ∃ x, y1 + (u : Int) = x := ⟨_, rfl⟩
  have wy2 : IntKind.i64.wrap (y1 + (u : Int)) = y2 := by rw [IntWalk.i64_in _ (by omega)]; exact hy2
  have cA := fun (W : World) (hW : Below w.heap.size w W) => rSame_ok k a a' p q s p' q' s' n c m d u e n' c' m' d' u' e' L C R L' C' R' W (h.next hW) (h'.next hW) hw hw' true hB
  have cB := fun (W : World) (hW : Below w.heap.size w W) => same_ref_ok k a a' p q s p' q' s' n c m d u e n' c' m' d' u' e' L C R L' C' R' W (h.next hW) (h'.next hW) hw hw' true hB
  have cC := fun (W : World) (hW : Below w.heap.size w W) => rSame_ok k a' a p' q' s' p q s n' c' m' d' u' e' n c m d u e L' C' R' L C R W (h'.next hW) (h.next hW) hw' hw true ⟨fun hz => (hB.1 hz).symm, fun hz => hB.2 hz.symm⟩
  have cD := fun (W : World) (hW : Below w.heap.size w W) => rSame_ok k a a p q s p q s n c m d u e n c m d u e L C R L C R W (h.next hW) (h.next hW) hw hw true ⟨fun _ => OneR.refl a L C R, fun _ => rfl⟩
  obtain ⟨X, hX⟩ : ∃ x, pieceR a L C R iv 100 = x := ⟨_, rfl⟩
  obtain ⟨Y, hY⟩ : ∃ x, pieceR a' L' C' R' iv 100 = x := ⟨_, rfl⟩
  have lX : X.length = 100 := by rw [← hX]; exact pieceR_length _ _ _ _ _ _
  have lY : Y.length = 100 := by rw [← hY]; exact pieceR_length _ _ _ _ _ _
  have cE : ∀ W : World, Below w.heap.size w W → Calls Tryd.prog 13 #[.int .i64 (k : Int), .agg #[.int .i64 a, .slice p n c, .slice q m d, .slice s u e], .int .i64 iv, .int .i64 100] W fun e' w' => ∃ pa ca, e' = .returned (.tuple #[.slice pa 100 ca, .nilIface]) ∧ IntO W.heap.size w' pa ca X ∧ Below W.heap.size W w' := fun W hW => by
    have h4 := rCut_ok k a iv 100 p q s n c m d u e L C R W (h.next hW) hw (by omega) (by omega) (by omega)
    rw [hX] at h4
    exact h4.mono fun e' w' ⟨pa, ca, he, ho, hb⟩ => ⟨pa, ca, by rw [he, lX], ho, hb⟩
  have cF : ∀ W : World, Below w.heap.size w W → Calls Tryd.prog 13 #[.int .i64 (k : Int), .agg #[.int .i64 a', .slice p' n' c', .slice q' m' d', .slice s' u' e'], .int .i64 iv, .int .i64 100] W fun e' w' => ∃ pa ca, e' = .returned (.tuple #[.slice pa 100 ca, .nilIface]) ∧ IntO W.heap.size w' pa ca Y ∧ Below W.heap.size W w' := fun W hW => by
    have h4 := rCut_ok k a' iv 100 p' q' s' n' c' m' d' u' e' L' C' R' W (h'.next hW) hw' (by omega) (by omega) (by omega)
    rw [hY] at h4
    exact h4.mono fun e' w' ⟨pa, ca, he, ho, hb⟩ => ⟨pa, ca, by rw [he, lY], ho, hb⟩
  have hXY : X = Y := by rw [← hX, ← hY]; exact (hB.1 rfl).piece iv 100
  have cI : ∀ (W : World) (x z : Option Addr) (f g : Nat), IntV W.heap.size W x f X → IntV W.heap.size W z g Y → Calls Tryd.prog 18 #[.slice x 100 f, .slice z 100 g] W (Tells (.bool true) W) := fun W x z f g h1 h2 => by
    have := ints_any x z 100 100 f g X Y W lX.symm lY.symm h1 h2
    rw [hXY] at this
    rwa [sameI_self] at this
  have ln : n = L.length := h.hn
  have lm : m = C.length := h.hm
  have lu : u = R.length := h.hu
  obtain ⟨N1, hN1⟩ : ∃ N1, n + m = N1 := ⟨_, rfl⟩
  obtain ⟨N2, hN2⟩ : ∃ N2, N1 + u = N2 := ⟨_, rfl⟩
  have hN2l : N2 = (L ++ C ++ R).length := by rw [List.length_append, List.length_append, ← ln, ← lm, ← lu, hN1, hN2]
  have hww : OkRw k an L (L ++ C ++ R) R := ⟨hw.k1, hw.k4, by omega, by omega, hw.l0, hw.l1, hw.r0, hw.r1, by rw [← hN2l]; omega, hw.okL, hw.all, hw.okR⟩
  have hone : OneR a L C R an L (L ++ C ++ R) R := by rw [← han, ln]; exact one_wide hw.l0 hw.r0
  have cW : ∀ (W : World) (x1 x2 x3 : Option Addr) (f1 f2 f3 : Nat), Below w.heap.size w W → IntV W.heap.size W x1 f1 L → IntV W.heap.size W x2 f2 (L ++ C ++ R) → IntV W.heap.size W x3 f3 R → Calls Tryd.prog 20 #[.int .i64 (k : Int), .agg #[.int .i64 a, .slice p n c, .slice q m d, .slice s u e], .agg #[.int .i64 an, .slice x1 n f1, .slice x2 N2 f2, .slice x3 u f3]] W (Tells (.tuple #[.bool true, .nilIface]) W) := fun W x1 x2 x3 f1 f2 f3 hW h1 h2 h3 =>
    rSame_ok k a an p q s x1 x2 x3 n c m d u e n f1 N2 f2 u f3 L C R L (L ++ C ++ R) R W (h.next hW) ⟨ln, hN2l, lu, h1, h2, h3⟩ hw hww true ⟨fun _ => hone, fun _ => rfl⟩
  have cL : ∀ W, IntV W.heap.size W p c L → Calls Tryd.prog 22 #[.slice p n c] W fun e' w' => ∃ pa ca, e' = .returned (.slice pa n ca) ∧ IntO W.heap.size w' pa ca L ∧ Below W.heap.size W w' := fun W hW =>
    (copyI_any p n c L W ln hW (by omega)).mono fun e' w' ⟨pa, ca, he, ho, hb⟩ => ⟨pa, ca, by rw [he, ← ln], ho, hb⟩
  have cR : ∀ W, IntV W.heap.size W s e R → Calls Tryd.prog 22 #[.slice s u e] W fun e' w' => ∃ pa ca, e' = .returned (.slice pa u ca) ∧ IntO W.heap.size w' pa ca R ∧ Below W.heap.size W w' := fun W hW =>
    (copyI_any s u e R W lu hW (by omega)).mono fun e' w' ⟨pa, ca, he, ho, hb⟩ => ⟨pa, ca, by rw [he, ← lu], ho, hb⟩
  have HN := Lib.hid (And.intro hN1 (And.intro hN2 (And.intro zn (And.intro zm zu))))
  have HD := Lib.hid (And.intro cL (And.intro cR cW))
  clear ln lm lu hN1 hN2 hN2l hww hone cW cL cR
  rw [han] at s1
  have HC := Lib.hid (And.intro cA (And.intro cB (And.intro cC (And.intro cD (And.intro cE (And.intro cF cI))))))
  have HV := Lib.hid (And.intro hr (And.intro hT (And.intro h h')))
  rw [hy1, hy2] at s2
  clear hXY cA cB cC cD cE cF cI h h' hr hT hw hw' hB zn zm zu za1 za2 hD4 q1 q2 q3 hys hiv han hy1 hy2 hX hY lX lY
  go_enter Tryd.func4, Tryd.ntmps4
  go_upto_region 1 with fail
  obtain ⟨w0, hw0⟩ : ∃ w0, w0 = (w.alloc (.cells #[.int .i64 a, .slice p n c, .slice q m d, .slice s u e] 24)).alloc (.cells #[.int .i64 a', .slice p' n' c', .slice q' m' d', .slice s' u' e'] 24) := ⟨_, rfl⟩
  rw [← hw0]
  obtain ⟨hb0, hE0, hF0⟩ := ST.out w0 hw0
  have HE := Lib.hid (And.intro hE0 (And.intro hF0 hb0))
  clear hw0 hE0 hF0 hb0
  go_wp2_with fail
  refine (awakeRw w0 A (HV.out.1.below HE.out.2.2)).mono ?_
  rintro e1 w1 ⟨rfl, hb1⟩
  have H1 := Lib.hid (And.intro (HE.out.1.next hb1) (And.intro (HE.out.2.1.next hb1) (HE.out.2.2.trans (hb1.mono HE.out.2.2.size))))
  clear hb1
  obtain ⟨hd0, hd1, hd2, hd3⟩ := H1.out.1.facts
  obtain ⟨he0, he1, he2, he3⟩ := H1.out.2.1.facts
  go_wp2_with fail
  refine (HC.out.1 w1 H1.out.2.2).mono ?_
  rintro e2 w2 ⟨rfl, hb2⟩
  have H2 := Lib.hid (And.intro (H1.out.1.next hb2) (And.intro (H1.out.2.1.next hb2) (H1.out.2.2.trans (hb2.mono H1.out.2.2.size))))
  clear hb2 hd0 hd1 hd2 hd3 he0 he1 he2 he3
  obtain ⟨hd0, hd1, hd2, hd3⟩ := H2.out.1.facts
  obtain ⟨he0, he1, he2, he3⟩ := H2.out.2.1.facts
  go_wp2_with fail
  refine (HC.out.2.1 w2 H2.out.2.2).mono ?_
  rintro e3 w3 ⟨x1, po1, pa1, z1, co1, ca1, rfl, hwc, hb3⟩
  clear hd0 hd1 hd2 hd3 he0 he1 he2 he3
  go_upto_region 5 with fail
  obtain ⟨w4, hw4⟩ : ∃ x, x = w3.alloc (.cells #[.int .i64 x1, .slice po1 z1 co1, .slice pa1 z1 ca1] 33) := ⟨_, rfl⟩
  rw [← hw4]
  obtain ⟨hb4, hG4⟩ := box_err w3 _ _ _ w4 hw4
  obtain ⟨ge, hge⟩ : ∃ x, w3.heap.size = x := ⟨_, rfl⟩
  rw [hge] at hG4 ⊢
  have h24 := hb3.trans (hb4.mono hb3.size)
  have H4 := Lib.hid (And.intro (H2.out.1.next h24) (And.intro (H2.out.2.1.next h24) (And.intro (hwc.next hb4) (H2.out.2.2.trans (h24.mono H2.out.2.2.size)))))
  obtain ⟨_, hg0, hg1, hg2⟩ := hG4.facts
  clear hw4 hb4 hG4 hge hb3 hwc h24
  go_wp2_with fail
  refine (is_wcg (x := none) (HV.out.1.below H4.out.2.2.2) (HV.out.2.1.below H4.out.2.2.2) (fun y hy => by cases hy) (rfl : PChn w4 A none .nilIface) H4.out.2.2.1).mono ?_
  rintro e5 w5 ⟨rfl, hb5⟩
  have H5 := Lib.hid (And.intro (H4.out.1.next hb5) (And.intro (H4.out.2.1.next hb5) (H4.out.2.2.2.trans (hb5.mono H4.out.2.2.2.size))))
  clear hb5 hg0 hg1 hg2
  obtain ⟨hd0, hd1, hd2, hd3⟩ := H5.out.1.facts
  obtain ⟨he0, he1, he2, he3⟩ := H5.out.2.1.facts
  go_wp2_with fail
  refine (HC.out.2.2.1 w5 H5.out.2.2).mono ?_
  rintro e6 w6 ⟨rfl, hb6⟩
  have H6 := Lib.hid (And.intro (H5.out.1.next hb6) (And.intro (H5.out.2.1.next hb6) (H5.out.2.2.trans (hb6.mono H5.out.2.2.size))))
  clear hb6 hd0 hd1 hd2 hd3 he0 he1 he2 he3
  obtain ⟨hd0, hd1, hd2, hd3⟩ := H6.out.1.facts
  obtain ⟨he0, he1, he2, he3⟩ := H6.out.2.1.facts
  go_wp2_with fail
  refine (HC.out.2.2.2.1 w6 H6.out.2.2).mono ?_
  rintro e7 w7 ⟨rfl, hb7⟩
  have H7 := Lib.hid (And.intro (H6.out.1.next hb7) (And.intro (H6.out.2.1.next hb7) (H6.out.2.2.trans (hb7.mono H6.out.2.2.size))))
  clear hb7 hd0 hd1 hd2 hd3 he0 he1 he2 he3
  obtain ⟨hd0, hd1, hd2, hd3⟩ := H7.out.1.facts
  obtain ⟨he0, he1, he2, he3⟩ := H7.out.2.1.facts
  go_wp2_with fail
  refine (HC.out.2.2.2.2.1 w7 H7.out.2.2).mono ?_
  rintro e8 w8 ⟨p8, c8, rfl, o8, hb8⟩
  have H8 := Lib.hid (And.intro (H7.out.1.next hb8) (And.intro (H7.out.2.1.next hb8) (And.intro o8.toV (H7.out.2.2.trans (hb8.mono H7.out.2.2.size)))))
  clear hb8 o8 hd0 hd1 hd2 hd3 he0 he1 he2 he3
  obtain ⟨hd0, hd1, hd2, hd3⟩ := H8.out.1.facts
  obtain ⟨he0, he1, he2, he3⟩ := H8.out.2.1.facts
  go_wp2_with fail
  refine (HC.out.2.2.2.2.2.1 w8 H8.out.2.2.2).mono ?_
  rintro e9 w9 ⟨p9, c9, rfl, o9, hb9⟩
  have H9 := Lib.hid (And.intro (H8.out.1.next hb9) (And.intro (H8.out.2.2.1.next hb9) (And.intro o9.toV (H8.out.2.2.2.trans (hb9.mono H8.out.2.2.2.size)))))
  clear hb9 o9 hd0 hd1 hd2 hd3 he0 he1 he2 he3
  obtain ⟨hd0, hd1, hd2, hd3⟩ := H9.out.1.facts
  go_wp2_with fail
  refine (HC.out.2.2.2.2.2.2 w9 p8 p9 c8 c9 H9.out.2.1 H9.out.2.2.1).mono ?_
  rintro e10 wt ⟨rfl, hb10⟩
  have HX := Lib.hid (And.intro (H9.out.1.next hb10) (H9.out.2.2.2.trans (hb10.mono H9.out.2.2.2.size)))
  clear hb10 hd0 hd1 hd2 hd3
  obtain ⟨hd0, hd1, hd2, hd3⟩ := HX.out.1.facts
  go_upto_region 21 with fail
  have hxA : ∀ wx : World, Below wt.heap.size wt wx → wx.cell? ⟨w.heap.size, 0, none⟩ = some (.int .i64 a) ∧ wx.cell? ⟨w.heap.size, 1, none⟩ = some (.slice p n c) ∧ wx.cell? ⟨w.heap.size, 2, none⟩ = some (.slice q m d) ∧ wx.cell? ⟨w.heap.size, 3, none⟩ = some (.slice s u e) := fun wx hb => (HX.out.1.next hb).facts
  have hdr : Below wt.heap.size wt wt.drew := (Below.refl _ _).drew
  go_region_held3 (fun wx => wx.cell? ⟨w.heap.size, 0, none⟩ = some (.int .i64 a) ∧ wx.cell? ⟨w.heap.size, 1, none⟩ = some (.slice p n c) ∧ wx.cell? ⟨w.heap.size, 2, none⟩ = some (.slice q m d) ∧ wx.cell? ⟨w.heap.size, 3, none⟩ = some (.slice s u e)) (first | exact hxA _ (by assumption) | exact hxA _ (Below.refl _ _) | exact hxA _ hdr | go_keep) (first
    | (go_at_call 22; refine (HD.out.1 _ ((HV.out.2.2.1.l.next HX.out.2).next (by first | exact hdr | exact Below.refl _ _))).mono ?_; rintro e' v1 ⟨p1, c1, rfl, o1, hb1⟩; have hB1 : Below wt.heap.size wt v1 := (by first | exact hdr.trans (hb1.mono hdr.size) | exact hb1); have q1 : IntO wt.heap.size v1 p1 c1 L := o1)
    | (refine step_appI (by rfl) _ _ (by rfl) wt.heap.size p2 N1 c2 (L ++ C) (by rfl) (by rw [List.length_append, ← HV.out.2.2.1.hn, ← HV.out.2.2.1.hm, HN.out.1]) q2 hB2.size s u e R (by rfl) HV.out.2.2.1.hu ((HV.out.2.2.1.r.next HX.out.2).next hB2) (by have := HN.out; rw [List.length_append, ← HV.out.2.2.1.hn, ← HV.out.2.2.1.hm]; omega) (by have := HN.out; rw [← HV.out.2.2.1.hu]; omega) N2 HN.out.2.1 ?_; intro p3 c3 v3 q3 hb3; have hB3 : Below wt.heap.size wt v3 := hB2.trans hb3)
    | (refine step_appI (by rfl) _ _ (by rfl) wt.heap.size p1 n c1 L (by rfl) HV.out.2.2.1.hn q1 hB1.size q m d C (by rfl) HV.out.2.2.1.hm ((HV.out.2.2.1.c.next HX.out.2).next hB1) (by have := HN.out; rw [← HV.out.2.2.1.hn]; omega) (by have := HN.out; rw [← HV.out.2.2.1.hm]; omega) N1 HN.out.1 ?_; intro p2 c2 v2 q2 hb2; have hB2 : Below wt.heap.size wt v2 := hB1.trans hb2))
  all_goals
    have HY := Lib.hid (And.intro (HX.out.1.next hB3) (And.intro q3.toV (HX.out.2.trans (hB3.mono HX.out.2.size))))
    clear hxA hdr o1 hb1 hB1 q1 hb2 hB2 q2 hb3 hB3 q3 hd0 hd1 hd2 hd3
    go_upto_region 22 with fail
    have hxA : ∀ wx : World, Below v3.heap.size v3 wx → wx.cell? ⟨w.heap.size, 0, none⟩ = some (.int .i64 a) ∧ wx.cell? ⟨w.heap.size, 1, none⟩ = some (.slice p n c) ∧ wx.cell? ⟨w.heap.size, 2, none⟩ = some (.slice q m d) ∧ wx.cell? ⟨w.heap.size, 3, none⟩ = some (.slice s u e) := fun wx hb => (HY.out.1.next hb).facts
    have hdr : Below v3.heap.size v3 v3.drew := (Below.refl _ _).drew
    have hxP : ∀ (wx : World) (g : Nat), Below v3.heap.size v3 wx → v3.heap.size ≤ g → ∀ x y z v, (fun wx => wx.cell? ⟨w.heap.size, 0, none⟩ = some (.int .i64 a) ∧ wx.cell? ⟨w.heap.size, 1, none⟩ = some (.slice p n c) ∧ wx.cell? ⟨w.heap.size, 2, none⟩ = some (.slice q m d) ∧ wx.cell? ⟨w.heap.size, 3, none⟩ = some (.slice s u e)) (put4 wx g x y z v) := fun wx g hb hg x y z v => by
      have hlt := HY.out.1.lt
      exact (((((HY.out.1.next hb).setOther g 0 (by omega) x).setOther g 1 (by omega) y).setOther g 2 (by omega) z).setOther g 3 (by omega) v).facts
    unfold put4 at hxP
    go_region_held3 (fun wx => wx.cell? ⟨w.heap.size, 0, none⟩ = some (.int .i64 a) ∧ wx.cell? ⟨w.heap.size, 1, none⟩ = some (.slice p n c) ∧ wx.cell? ⟨w.heap.size, 2, none⟩ = some (.slice q m d) ∧ wx.cell? ⟨w.heap.size, 3, none⟩ = some (.slice s u e)) (first | exact hxA _ (by assumption) | exact hxA _ (Below.refl _ _) | exact hxA _ hdr | exact hxA _ (hdr.alloc hdr.size _) | exact hxA _ (hB1.alloc hB1.size _) | exact hxA _ (hB2.alloc hB2.size _) | exact hxP _ _ hB2 (by first | exact hB1.size | exact Nat.le_refl _) _ _ _ _ | exact hxP _ _ (hB2.alloc hB2.size _) hB2.size _ _ _ _ | go_keep) (first
      | (go_at_call 22; refine (HD.out.2.1 _ ((HV.out.2.2.1.r.next HY.out.2.2).next (by first | exact hB1 | exact hB1.alloc hB1.size _))).mono ?_; rintro e' wb ⟨pb, cb, rfl, ob, hb5⟩; have hB2 : Below v3.heap.size v3 wb := (by first | exact hB1.trans (hb5.mono hB1.size) | exact (hB1.alloc hB1.size _).trans (hb5.mono (hB1.alloc hB1.size _).size)); (first | (have hz5 := hz4.next hb5) | (have hz5 := (box_row wa (.int .i64 0) (.slice none 0 0) (.slice none 0 0) (.slice none 0 0) _ rfl).2.next hb5) | skip); (first | (have hf0 := hz5.frozen 0; have hf1 := hz5.frozen 1; have hf2 := hz5.frozen 2; have hf3 := hz5.frozen 3; obtain ⟨hg0, hg1, hg2, hg3⟩ := hz5.facts) | (have hzA := (box_row wb (.int .i64 0) (.slice none 0 0) (.slice none 0 0) (.slice none 0 0) _ rfl).2; have hf0 := hzA.frozen 0; have hf1 := hzA.frozen 1; have hf2 := hzA.frozen 2; have hf3 := hzA.frozen 3; obtain ⟨hg0, hg1, hg2, hg3⟩ := hzA.facts)))
      | (go_at_call 22; refine (HD.out.1 _ ((HV.out.2.2.1.l.next HY.out.2.2).next (by first | exact hdr | exact hdr.alloc hdr.size _))).mono ?_; rintro e' wa ⟨pa, ca, rfl, oa, hb4⟩; have hB1 : Below v3.heap.size v3 wa := (by first | exact hdr.trans (hb4.mono hdr.size) | exact (hdr.alloc hdr.size _).trans (hb4.mono (hdr.alloc hdr.size _).size)); (first | (have hz4 : Row4 wa v3.heap.size (.int .i64 0) (.slice none 0 0) (.slice none 0 0) (.slice none 0 0) := (box_row v3.drew (.int .i64 0) (.slice none 0 0) (.slice none 0 0) (.slice none 0 0) _ rfl).2.next hb4) | skip)))
    all_goals
      first
        | (have hF : FinR v3 (put4 wb wa.heap.size (.int .i64 an) (.slice pa n ca) (.slice p3 N2 c3) (.slice pb u cb)) wa.heap.size an pa p3 pb n ca N2 c3 u cb L (L ++ C ++ R) R := finS hB2 hz5 hB1.size HY.out.2.1 (oa.toV.next (put4_below ((box_row wa (.int .i64 0) (.slice none 0 0) (.slice none 0 0) (.slice none 0 0) _ rfl).1.trans (hb5.mono (box_row wa (.int .i64 0) (.slice none 0 0) (.slice none 0 0) (.slice none 0 0) _ rfl).1.size)) (Nat.le_refl _) _ _ _ _)) (ob.put4 ((box_row wa (.int .i64 0) (.slice none 0 0) (.slice none 0 0) (.slice none 0 0) _ rfl).2.lt) _ _ _ _).toV
           obtain ⟨wf, hwf⟩ : ∃ x, x = put4 wb wa.heap.size (.int .i64 an) (.slice pa n ca) (.slice p3 N2 c3) (.slice pb u cb) := ⟨_, rfl⟩
           rw [← hwf] at hF
           unfold put4 at hwf
           rw [← hwf]
           obtain ⟨gx, hgx⟩ : ∃ x, wa.heap.size = x := ⟨_, rfl⟩
           rw [hgx] at hF ⊢
           have HF := Lib.hid hF
           clear hF hwf hgx)
        | (have hF : FinR v3 (put4 wb v3.heap.size (.int .i64 an) (.slice pa n ca) (.slice p3 N2 c3) (.slice pb u cb)) v3.heap.size an pa p3 pb n ca N2 c3 u cb L (L ++ C ++ R) R := finS hB2 hz5 (Nat.le_refl _) HY.out.2.1 ((oa.next hb5).put4 ((box_row v3.drew (.int .i64 0) (.slice none 0 0) (.slice none 0 0) (.slice none 0 0) _ rfl).2.lt) _ _ _ _).toV (ob.put4 hz4.lt _ _ _ _).toV
           obtain ⟨wf, hwf⟩ : ∃ x, x = put4 wb v3.heap.size (.int .i64 an) (.slice pa n ca) (.slice p3 N2 c3) (.slice pb u cb) := ⟨_, rfl⟩
           rw [← hwf] at hF
           unfold put4 at hwf
           rw [← hwf]
           obtain ⟨gx, hgx⟩ : ∃ x, v3.heap.size = x := ⟨_, rfl⟩
           rw [hgx] at hF ⊢
           have HF := Lib.hid hF
           clear hF hwf hgx)
        | (have hF : FinR v3 (wb.alloc (.cells #[.int .i64 an, .slice pa n ca, .slice p3 N2 c3, .slice pb u cb] 24)) wb.heap.size an pa p3 pb n ca N2 c3 u cb L (L ++ C ++ R) R := finT hB2 HY.out.2.1 (oa.toV.next hb5) ob.toV
           obtain ⟨wf, hwf⟩ : ∃ x, x = wb.alloc (.cells #[.int .i64 an, .slice pa n ca, .slice p3 N2 c3, .slice pb u cb] 24) := ⟨_, rfl⟩
           rw [← hwf] at hF
           rw [← hwf]
           obtain ⟨gx, hgx⟩ : ∃ x, wb.heap.size = x := ⟨_, rfl⟩
           rw [hgx] at hF ⊢
           have HF := Lib.hid hF
           clear hF hwf hgx)
      have HG := Lib.hid (And.intro (HY.out.1.next HF.out.below) (HY.out.2.2.trans (HF.out.below.mono HY.out.2.2.size)))
      clear hxA hxP hdr oa hb4 hB1 ob hb5 hB2 hf0 hf1 hf2 hf3 hg0 hg1 hg2 hg3
      (try clear hz5)
      (try clear hz4)
      (try clear hzA)
      obtain ⟨hd0, hd1, hd2, hd3⟩ := HG.out.1.facts
      obtain ⟨he0, he1, he2, he3⟩ := HF.out.row.facts
      go_wp2_with fail
      refine (HD.out.2.2 wf pa p3 pb ca c3 cb HG.out.2 HF.out.v1 HF.out.v2 HF.out.v3).mono ?_
      rintro e11 wz ⟨rfl, hb11⟩
      have HZ := Lib.hid (HG.out.2.trans (hb11.mono HG.out.2.size))
      clear hb11 hd0 hd1 hd2 hd3 he0 he1 he2 he3
      go_wp2_with fail
      go_ret
      exact ⟨rfl, HZ.out⟩
set_option maxRecDepth 100000 in
set_option maxHeartbeats 32000000 in
theorem rsames_f1 (k : Nat) (a a' y : Int) (p q s p' q' s' : Option Addr) (n c m d u e n' c' m' d' u' e' : Nat) (L C R L' C' R' : List Int) (w : World) (A : Nat → Addr) (hr : Roots w A) (hT : TypeVar w) (h : RowV w p q s n c m d u e L C R) (h' : RowV w p' q' s' n' c' m' d' u' e' L' C' R') (hw : OkRw k a L C R) (hw' : OkRw k a' L' C' R') (hB : false = true ↔ OneR a L C R a' L' C' R') (s1 : a - (n : Int) < -4096) :
    Calls Tryd.prog 4 #[.int .i64 (k : Int), .agg #[.int .i64 a, .slice p n c, .slice q m d, .slice s u e], .agg #[.int .i64 a', .slice p' n' c', .slice q' m' d', .slice s' u' e'], .int .i64 y] w (Tells (.bool true) w) := by
  have ST := Lib.hid (two_rows w (.int .i64 a) (.slice p n c) (.slice q m d) (.slice s u e) (.int .i64 a') (.slice p' n' c') (.slice q' m' d') (.slice s' u' e'))
  have zn : n ≤ 8192 := by have := hw.l1; have := h.hn; omega
  have zm : m ≤ 16384 := by have := hw.c1; have := h.hm; omega
  have zu : u ≤ 8192 := by have := hw.r1; have := h.hu; omega
  have za1 := hw.a1
  have za2 := hw.a2
  obtain ⟨D, hD4, q1, q2, q3⟩ := round_modG y 4000 (by omega) (by omega)
  obtain ⟨ys, hys⟩ : ∃ z, y.tmod ((4000 : Nat) : Int) = z := ⟨_, rfl⟩
  rw [hys] at q1 q2 q3
  have hys' : y.tmod 4000 = ys := hys
  have q3' : (ys + 4000).tmod 4000 = (D : Int) := q3
  have wys : IntKind.i64.wrap (ys + 4000) = ys + 4000 := by rw [IntWalk.i64_in _ (by omega)]
  obtain ⟨iv, hiv⟩ : ∃ x, (D : Int) - 2000 = x := ⟨_, rfl⟩
  have wD : IntKind.i64.wrap ((D : Int) - 2000) = iv := by rw [IntWalk.i64_in _ (by omega)]; exact hiv
  obtain ⟨an, han⟩ : ∃ x, a - (n : Int) = x := ⟨_, rfl⟩
  have wan : IntKind.i64.wrap (a - (n : Int)) = an := by rw [IntWalk.i64_in _ (by omega)]; exact han
  obtain ⟨y1, hy1⟩ : ∃ x, (m : Int) + (n : Int) = x := ⟨_, rfl⟩
  have wy1 : IntKind.i64.wrap ((m : Int) + (n : Int)) = y1 := by rw [IntWalk.i64_in _ (by omega)]; exact hy1
  obtain ⟨y2, hy2⟩ : ∃ x, y1 + (u : Int) = x := ⟨_, rfl⟩
  have wy2 : IntKind.i64.wrap (y1 + (u : Int)) = y2 := by rw [IntWalk.i64_in _ (by omega)]; exact hy2
  have cA := fun (W : World) (hW : Below w.heap.size w W) => rSame_ok k a a' p q s p' q' s' n c m d u e n' c' m' d' u' e' L C R L' C' R' W (h.next hW) (h'.next hW) hw hw' false hB
  have cB := fun (W : World) (hW : Below w.heap.size w W) => same_ref_ok k a a' p q s p' q' s' n c m d u e n' c' m' d' u' e' L C R L' C' R' W (h.next hW) (h'.next hW) hw hw' false hB
  have cC := fun (W : World) (hW : Below w.heap.size w W) => rSame_ok k a' a p' q' s' p q s n' c' m' d' u' e' n c m d u e L' C' R' L C R W (h'.next hW) (h.next hW) hw' hw false ⟨fun hz => (hB.1 hz).symm, fun hz => hB.2 hz.symm⟩
  have cD := fun (W : World) (hW : Below w.heap.size w W) => rSame_ok k a a p q s p q s n c m d u e n c m d u e L C R L C R W (h.next hW) (h.next hW) hw hw true ⟨fun _ => OneR.refl a L C R, fun _ => rfl⟩
  obtain ⟨X, hX⟩ : ∃ x, pieceR a L C R iv 100 = x := ⟨_, rfl⟩
  obtain ⟨Y, hY⟩ : ∃ x, pieceR a' L' C' R' iv 100 = x := ⟨_, rfl⟩
  have lX : X.length = 100 := by rw [← hX]; exact pieceR_length _ _ _ _ _ _
  have lY : Y.length = 100 := by rw [← hY]; exact pieceR_length _ _ _ _ _ _
  have cE : ∀ W : World, Below w.heap.size w W → Calls Tryd.prog 13 #[.int .i64 (k : Int), .agg #[.int .i64 a, .slice p n c, .slice q m d, .slice s u e], .int .i64 iv, .int .i64 100] W fun e' w' => ∃ pa ca, e' = .returned (.tuple #[.slice pa 100 ca, .nilIface]) ∧ IntO W.heap.size w' pa ca X ∧ Below W.heap.size W w' := fun W hW => by
    have h4 := rCut_ok k a iv 100 p q s n c m d u e L C R W (h.next hW) hw (by omega) (by omega) (by omega)
    rw [hX] at h4
    exact h4.mono fun e' w' ⟨pa, ca, he, ho, hb⟩ => ⟨pa, ca, by rw [he, lX], ho, hb⟩
  have cF : ∀ W : World, Below w.heap.size w W → Calls Tryd.prog 13 #[.int .i64 (k : Int), .agg #[.int .i64 a', .slice p' n' c', .slice q' m' d', .slice s' u' e'], .int .i64 iv, .int .i64 100] W fun e' w' => ∃ pa ca, e' = .returned (.tuple #[.slice pa 100 ca, .nilIface]) ∧ IntO W.heap.size w' pa ca Y ∧ Below W.heap.size W w' := fun W hW => by
    have h4 := rCut_ok k a' iv 100 p' q' s' n' c' m' d' u' e' L' C' R' W (h'.next hW) hw' (by omega) (by omega) (by omega)
    rw [hY] at h4
    exact h4.mono fun e' w' ⟨pa, ca, he, ho, hb⟩ => ⟨pa, ca, by rw [he, lY], ho, hb⟩
  have cI : True := trivial
  rw [han] at s1
  have HC := Lib.hid (And.intro cA (And.intro cB (And.intro cC (And.intro cD (And.intro cE (And.intro cF cI))))))
  have HV := Lib.hid (And.intro hr (And.intro hT (And.intro h h')))
  clear cA cB cC cD cE cF cI h h' hr hT hw hw' hB zn zm zu za1 za2 hD4 q1 q2 q3 hys hiv han hy1 hy2 hX hY lX lY
  go_enter Tryd.func4, Tryd.ntmps4
  go_upto_region 1 with fail
  obtain ⟨w0, hw0⟩ : ∃ w0, w0 = (w.alloc (.cells #[.int .i64 a, .slice p n c, .slice q m d, .slice s u e] 24)).alloc (.cells #[.int .i64 a', .slice p' n' c', .slice q' m' d', .slice s' u' e'] 24) := ⟨_, rfl⟩
  rw [← hw0]
  obtain ⟨hb0, hE0, hF0⟩ := ST.out w0 hw0
  have HE := Lib.hid (And.intro hE0 (And.intro hF0 hb0))
  clear hw0 hE0 hF0 hb0
  go_wp2_with fail
  refine (awakeRw w0 A (HV.out.1.below HE.out.2.2)).mono ?_
  rintro e1 w1 ⟨rfl, hb1⟩
  have H1 := Lib.hid (And.intro (HE.out.1.next hb1) (And.intro (HE.out.2.1.next hb1) (HE.out.2.2.trans (hb1.mono HE.out.2.2.size))))
  clear hb1
  obtain ⟨hd0, hd1, hd2, hd3⟩ := H1.out.1.facts
  obtain ⟨he0, he1, he2, he3⟩ := H1.out.2.1.facts
  go_wp2_with fail
  refine (HC.out.1 w1 H1.out.2.2).mono ?_
  rintro e2 w2 ⟨rfl, hb2⟩
  have H2 := Lib.hid (And.intro (H1.out.1.next hb2) (And.intro (H1.out.2.1.next hb2) (H1.out.2.2.trans (hb2.mono H1.out.2.2.size))))
  clear hb2 hd0 hd1 hd2 hd3 he0 he1 he2 he3
  obtain ⟨hd0, hd1, hd2, hd3⟩ := H2.out.1.facts
  obtain ⟨he0, he1, he2, he3⟩ := H2.out.2.1.facts
  go_wp2_with fail
  refine (HC.out.2.1 w2 H2.out.2.2).mono ?_
  rintro e3 w3 ⟨x1, po1, pa1, z1, co1, ca1, rfl, hwc, hb3⟩
  clear hd0 hd1 hd2 hd3 he0 he1 he2 he3
  go_upto_region 5 with fail
  obtain ⟨w4, hw4⟩ : ∃ x, x = w3.alloc (.cells #[.int .i64 x1, .slice po1 z1 co1, .slice pa1 z1 ca1] 33) := ⟨_, rfl⟩
  rw [← hw4]
  obtain ⟨hb4, hG4⟩ := box_err w3 _ _ _ w4 hw4
  obtain ⟨ge, hge⟩ : ∃ x, w3.heap.size = x := ⟨_, rfl⟩
  rw [hge] at hG4 ⊢
  have h24 := hb3.trans (hb4.mono hb3.size)
  have H4 := Lib.hid (And.intro (H2.out.1.next h24) (And.intro (H2.out.2.1.next h24) (And.intro (hwc.next hb4) (H2.out.2.2.trans (h24.mono H2.out.2.2.size)))))
  obtain ⟨_, hg0, hg1, hg2⟩ := hG4.facts
  clear hw4 hb4 hG4 hge hb3 hwc h24
  go_wp2_with fail
  refine (is_wcg (x := none) (HV.out.1.below H4.out.2.2.2) (HV.out.2.1.below H4.out.2.2.2) (fun y hy => by cases hy) (rfl : PChn w4 A none .nilIface) H4.out.2.2.1).mono ?_
  rintro e5 w5 ⟨rfl, hb5⟩
  have H5 := Lib.hid (And.intro (H4.out.1.next hb5) (And.intro (H4.out.2.1.next hb5) (H4.out.2.2.2.trans (hb5.mono H4.out.2.2.2.size))))
  clear hb5 hg0 hg1 hg2
  obtain ⟨hd0, hd1, hd2, hd3⟩ := H5.out.1.facts
  obtain ⟨he0, he1, he2, he3⟩ := H5.out.2.1.facts
  go_wp2_with fail
  refine (HC.out.2.2.1 w5 H5.out.2.2).mono ?_
  rintro e6 w6 ⟨rfl, hb6⟩
  have H6 := Lib.hid (And.intro (H5.out.1.next hb6) (And.intro (H5.out.2.1.next hb6) (H5.out.2.2.trans (hb6.mono H5.out.2.2.size))))
  clear hb6 hd0 hd1 hd2 hd3 he0 he1 he2 he3
  obtain ⟨hd0, hd1, hd2, hd3⟩ := H6.out.1.facts
  obtain ⟨he0, he1, he2, he3⟩ := H6.out.2.1.facts
  go_wp2_with fail
  refine (HC.out.2.2.2.1 w6 H6.out.2.2).mono ?_
  rintro e7 w7 ⟨rfl, hb7⟩
  have H7 := Lib.hid (And.intro (H6.out.1.next hb7) (And.intro (H6.out.2.1.next hb7) (H6.out.2.2.trans (hb7.mono H6.out.2.2.size))))
  clear hb7 hd0 hd1 hd2 hd3 he0 he1 he2 he3
  obtain ⟨hd0, hd1, hd2, hd3⟩ := H7.out.1.facts
  obtain ⟨he0, he1, he2, he3⟩ := H7.out.2.1.facts
  go_wp2_with fail
  refine (HC.out.2.2.2.2.1 w7 H7.out.2.2).mono ?_
  rintro e8 w8 ⟨p8, c8, rfl, o8, hb8⟩
  have H8 := Lib.hid (And.intro (H7.out.1.next hb8) (And.intro (H7.out.2.1.next hb8) (And.intro o8.toV (H7.out.2.2.trans (hb8.mono H7.out.2.2.size)))))
  clear hb8 o8 hd0 hd1 hd2 hd3 he0 he1 he2 he3
  obtain ⟨hd0, hd1, hd2, hd3⟩ := H8.out.1.facts
  obtain ⟨he0, he1, he2, he3⟩ := H8.out.2.1.facts
  go_wp2_with fail
  refine (HC.out.2.2.2.2.2.1 w8 H8.out.2.2.2).mono ?_
  rintro e9 w9 ⟨p9, c9, rfl, o9, hb9⟩
  have H9 := Lib.hid (And.intro (H8.out.1.next hb9) (And.intro (H8.out.2.2.1.next hb9) (And.intro o9.toV (H8.out.2.2.2.trans (hb9.mono H8.out.2.2.2.size)))))
  clear hb9 o9 hd0 hd1 hd2 hd3 he0 he1 he2 he3
  obtain ⟨hd0, hd1, hd2, hd3⟩ := H9.out.1.facts
  obtain ⟨wt, hwt⟩ : ∃ x, w9 = x := ⟨_, rfl⟩
  have HX := Lib.hid (show Row4 wt w.heap.size (.int .i64 a) (.slice p n c) (.slice q m d) (.slice s u e) ∧ Below w.heap.size w wt from hwt ▸ And.intro H9.out.1 H9.out.2.2.2)
  rw [hwt] at hd0 hd1 hd2 hd3 ⊢
  clear hwt
  go_wp2_with fail
  go_ret
  exact ⟨rfl, HX.out.2⟩
set_option maxRecDepth 100000 in
set_option maxHeartbeats 32000000 in
theorem rsames_f2 (k : Nat) (a a' y : Int) (p q s p' q' s' : Option Addr) (n c m d u e n' c' m' d' u' e' : Nat) (L C R L' C' R' : List Int) (w : World) (A : Nat → Addr) (hr : Roots w A) (hT : TypeVar w) (h : RowV w p q s n c m d u e L C R) (h' : RowV w p' q' s' n' c' m' d' u' e' L' C' R') (hw : OkRw k a L C R) (hw' : OkRw k a' L' C' R') (hB : false = true ↔ OneR a L C R a' L' C' R') (s1 : ¬ a - (n : Int) < -4096) (s2 : 16384 < (m : Int) + (n : Int) + (u : Int)) :
    Calls Tryd.prog 4 #[.int .i64 (k : Int), .agg #[.int .i64 a, .slice p n c, .slice q m d, .slice s u e], .agg #[.int .i64 a', .slice p' n' c', .slice q' m' d', .slice s' u' e'], .int .i64 y] w (Tells (.bool true) w) := by
  have ST := Lib.hid (two_rows w (.int .i64 a) (.slice p n c) (.slice q m d) (.slice s u e) (.int .i64 a') (.slice p' n' c') (.slice q' m' d') (.slice s' u' e'))
  have zn : n ≤ 8192 := by have := hw.l1; have := h.hn; omega
  have zm : m ≤ 16384 := by have := hw.c1; have := h.hm; omega
  have zu : u ≤ 8192 := by have := hw.r1; have := h.hu; omega
  have za1 := hw.a1
  have za2 := hw.a2
  obtain ⟨D, hD4, q1, q2, q3⟩ := round_modG y 4000 (by omega) (by omega)
  obtain ⟨ys, hys⟩ : ∃ z, y.tmod ((4000 : Nat) : Int) = z := ⟨_, rfl⟩
  rw [hys] at q1 q2 q3
  have hys' : y.tmod 4000 = ys := hys
  have q3' : (ys + 4000).tmod 4000 = (D : Int) := q3
  have wys : IntKind.i64.wrap (ys + 4000) = ys + 4000 := by rw [IntWalk.i64_in _ (by omega)]
  obtain ⟨iv, hiv⟩ : ∃ x, (D : Int) - 2000 = x := ⟨_, rfl⟩
  have wD : IntKind.i64.wrap ((D : Int) - 2000) = iv := by rw [IntWalk.i64_in _ (by omega)]; exact hiv
  obtain ⟨an, han⟩ : ∃ x, a - (n : Int) = x := ⟨_, rfl⟩
  have wan : IntKind.i64.wrap (a - (n : Int)) = an := by rw [IntWalk.i64_in _ (by omega)]; exact han
  obtain ⟨y1, hy1⟩ : ∃ x, (m : Int) + (n : Int) = x := ⟨_, rfl⟩
  have wy1 : IntKind.i64.wrap ((m : Int) + (n : Int)) = y1 := by rw [IntWalk.i64_in _ (by omega)]; exact hy1
  obtain ⟨y2, hy2⟩ : ∃ x, y1 + (u : Int) = x := ⟨_, rfl⟩
  have wy2 : IntKind.i64.wrap (y1 + (u : Int)) = y2 := by rw [IntWalk.i64_in _ (by omega)]; exact hy2
  have cA := fun (W : World) (hW : Below w.heap.size w W) => rSame_ok k a a' p q s p' q' s' n c m d u e n' c' m' d' u' e' L C R L' C' R' W (h.next hW) (h'.next hW) hw hw' false hB
  have cB := fun (W : World) (hW : Below w.heap.size w W) => same_ref_ok k a a' p q s p' q' s' n c m d u e n' c' m' d' u' e' L C R L' C' R' W (h.next hW) (h'.next hW) hw hw' false hB
  have cC := fun (W : World) (hW : Below w.heap.size w W) => rSame_ok k a' a p' q' s' p q s n' c' m' d' u' e' n c m d u e L' C' R' L C R W (h'.next hW) (h.next hW) hw' hw false ⟨fun hz => (hB.1 hz).symm, fun hz => hB.2 hz.symm⟩
  have cD := fun (W : World) (hW : Below w.heap.size w W) => rSame_ok k a a p q s p q s n c m d u e n c m d u e L C R L C R W (h.next hW) (h.next hW) hw hw true ⟨fun _ => OneR.refl a L C R, fun _ => rfl⟩
  obtain ⟨X, hX⟩ : ∃ x, pieceR a L C R iv 100 = x := ⟨_, rfl⟩
  obtain ⟨Y, hY⟩ : ∃ x, pieceR a' L' C' R' iv 100 = x := ⟨_, rfl⟩
  have lX : X.length = 100 := by rw [← hX]; exact pieceR_length _ _ _ _ _ _
  have lY : Y.length = 100 := by rw [← hY]; exact pieceR_length _ _ _ _ _ _
  have cE : ∀ W : World, Below w.heap.size w W → Calls Tryd.prog 13 #[.int .i64 (k : Int), .agg #[.int .i64 a, .slice p n c, .slice q m d, .slice s u e], .int .i64 iv, .int .i64 100] W fun e' w' => ∃ pa ca, e' = .returned (.tuple #[.slice pa 100 ca, .nilIface]) ∧ IntO W.heap.size w' pa ca X ∧ Below W.heap.size W w' := fun W hW => by
    have h4 := rCut_ok k a iv 100 p q s n c m d u e L C R W (h.next hW) hw (by omega) (by omega) (by omega)
    rw [hX] at h4
    exact h4.mono fun e' w' ⟨pa, ca, he, ho, hb⟩ => ⟨pa, ca, by rw [he, lX], ho, hb⟩
  have cF : ∀ W : World, Below w.heap.size w W → Calls Tryd.prog 13 #[.int .i64 (k : Int), .agg #[.int .i64 a', .slice p' n' c', .slice q' m' d', .slice s' u' e'], .int .i64 iv, .int .i64 100] W fun e' w' => ∃ pa ca, e' = .returned (.tuple #[.slice pa 100 ca, .nilIface]) ∧ IntO W.heap.size w' pa ca Y ∧ Below W.heap.size W w' := fun W hW => by
    have h4 := rCut_ok k a' iv 100 p' q' s' n' c' m' d' u' e' L' C' R' W (h'.next hW) hw' (by omega) (by omega) (by omega)
    rw [hY] at h4
    exact h4.mono fun e' w' ⟨pa, ca, he, ho, hb⟩ => ⟨pa, ca, by rw [he, lY], ho, hb⟩
  have cI : True := trivial
  rw [han] at s1
  have HC := Lib.hid (And.intro cA (And.intro cB (And.intro cC (And.intro cD (And.intro cE (And.intro cF cI))))))
  have HV := Lib.hid (And.intro hr (And.intro hT (And.intro h h')))
  rw [hy1, hy2] at s2
  clear cA cB cC cD cE cF cI h h' hr hT hw hw' hB zn zm zu za1 za2 hD4 q1 q2 q3 hys hiv han hy1 hy2 hX hY lX lY
  go_enter Tryd.func4, Tryd.ntmps4
  go_upto_region 1 with fail
  obtain ⟨w0, hw0⟩ : ∃ w0, w0 = (w.alloc (.cells #[.int .i64 a, .slice p n c, .slice q m d, .slice s u e] 24)).alloc (.cells #[.int .i64 a', .slice p' n' c', .slice q' m' d', .slice s' u' e'] 24) := ⟨_, rfl⟩
  rw [← hw0]
  obtain ⟨hb0, hE0, hF0⟩ := ST.out w0 hw0
  have HE := Lib.hid (And.intro hE0 (And.intro hF0 hb0))
  clear hw0 hE0 hF0 hb0
  go_wp2_with fail
  refine (awakeRw w0 A (HV.out.1.below HE.out.2.2)).mono ?_
  rintro e1 w1 ⟨rfl, hb1⟩
  have H1 := Lib.hid (And.intro (HE.out.1.next hb1) (And.intro (HE.out.2.1.next hb1) (HE.out.2.2.trans (hb1.mono HE.out.2.2.size))))
  clear hb1
  obtain ⟨hd0, hd1, hd2, hd3⟩ := H1.out.1.facts
  obtain ⟨he0, he1, he2, he3⟩ := H1.out.2.1.facts
  go_wp2_with fail
  refine (HC.out.1 w1 H1.out.2.2).mono ?_
  rintro e2 w2 ⟨rfl, hb2⟩
  have H2 := Lib.hid (And.intro (H1.out.1.next hb2) (And.intro (H1.out.2.1.next hb2) (H1.out.2.2.trans (hb2.mono H1.out.2.2.size))))
  clear hb2 hd0 hd1 hd2 hd3 he0 he1 he2 he3
  obtain ⟨hd0, hd1, hd2, hd3⟩ := H2.out.1.facts
  obtain ⟨he0, he1, he2, he3⟩ := H2.out.2.1.facts
  go_wp2_with fail
  refine (HC.out.2.1 w2 H2.out.2.2).mono ?_
  rintro e3 w3 ⟨x1, po1, pa1, z1, co1, ca1, rfl, hwc, hb3⟩
  clear hd0 hd1 hd2 hd3 he0 he1 he2 he3
  go_upto_region 5 with fail
  obtain ⟨w4, hw4⟩ : ∃ x, x = w3.alloc (.cells #[.int .i64 x1, .slice po1 z1 co1, .slice pa1 z1 ca1] 33) := ⟨_, rfl⟩
  rw [← hw4]
  obtain ⟨hb4, hG4⟩ := box_err w3 _ _ _ w4 hw4
  obtain ⟨ge, hge⟩ : ∃ x, w3.heap.size = x := ⟨_, rfl⟩
  rw [hge] at hG4 ⊢
  have h24 := hb3.trans (hb4.mono hb3.size)
  have H4 := Lib.hid (And.intro (H2.out.1.next h24) (And.intro (H2.out.2.1.next h24) (And.intro (hwc.next hb4) (H2.out.2.2.trans (h24.mono H2.out.2.2.size)))))
  obtain ⟨_, hg0, hg1, hg2⟩ := hG4.facts
  clear hw4 hb4 hG4 hge hb3 hwc h24
  go_wp2_with fail
  refine (is_wcg (x := none) (HV.out.1.below H4.out.2.2.2) (HV.out.2.1.below H4.out.2.2.2) (fun y hy => by cases hy) (rfl : PChn w4 A none .nilIface) H4.out.2.2.1).mono ?_
  rintro e5 w5 ⟨rfl, hb5⟩
  have H5 := Lib.hid (And.intro (H4.out.1.next hb5) (And.intro (H4.out.2.1.next hb5) (H4.out.2.2.2.trans (hb5.mono H4.out.2.2.2.size))))
  clear hb5 hg0 hg1 hg2
  obtain ⟨hd0, hd1, hd2, hd3⟩ := H5.out.1.facts
  obtain ⟨he0, he1, he2, he3⟩ := H5.out.2.1.facts
  go_wp2_with fail
  refine (HC.out.2.2.1 w5 H5.out.2.2).mono ?_
  rintro e6 w6 ⟨rfl, hb6⟩
  have H6 := Lib.hid (And.intro (H5.out.1.next hb6) (And.intro (H5.out.2.1.next hb6) (H5.out.2.2.trans (hb6.mono H5.out.2.2.size))))
  clear hb6 hd0 hd1 hd2 hd3 he0 he1 he2 he3
  obtain ⟨hd0, hd1, hd2, hd3⟩ := H6.out.1.facts
  obtain ⟨he0, he1, he2, he3⟩ := H6.out.2.1.facts
  go_wp2_with fail
  refine (HC.out.2.2.2.1 w6 H6.out.2.2).mono ?_
  rintro e7 w7 ⟨rfl, hb7⟩
  have H7 := Lib.hid (And.intro (H6.out.1.next hb7) (And.intro (H6.out.2.1.next hb7) (H6.out.2.2.trans (hb7.mono H6.out.2.2.size))))
  clear hb7 hd0 hd1 hd2 hd3 he0 he1 he2 he3
  obtain ⟨hd0, hd1, hd2, hd3⟩ := H7.out.1.facts
  obtain ⟨he0, he1, he2, he3⟩ := H7.out.2.1.facts
  go_wp2_with fail
  refine (HC.out.2.2.2.2.1 w7 H7.out.2.2).mono ?_
  rintro e8 w8 ⟨p8, c8, rfl, o8, hb8⟩
  have H8 := Lib.hid (And.intro (H7.out.1.next hb8) (And.intro (H7.out.2.1.next hb8) (And.intro o8.toV (H7.out.2.2.trans (hb8.mono H7.out.2.2.size)))))
  clear hb8 o8 hd0 hd1 hd2 hd3 he0 he1 he2 he3
  obtain ⟨hd0, hd1, hd2, hd3⟩ := H8.out.1.facts
  obtain ⟨he0, he1, he2, he3⟩ := H8.out.2.1.facts
  go_wp2_with fail
  refine (HC.out.2.2.2.2.2.1 w8 H8.out.2.2.2).mono ?_
  rintro e9 w9 ⟨p9, c9, rfl, o9, hb9⟩
  have H9 := Lib.hid (And.intro (H8.out.1.next hb9) (And.intro (H8.out.2.2.1.next hb9) (And.intro o9.toV (H8.out.2.2.2.trans (hb9.mono H8.out.2.2.2.size)))))
  clear hb9 o9 hd0 hd1 hd2 hd3 he0 he1 he2 he3
  obtain ⟨hd0, hd1, hd2, hd3⟩ := H9.out.1.facts
  obtain ⟨wt, hwt⟩ : ∃ x, w9 = x := ⟨_, rfl⟩
  have HX := Lib.hid (show Row4 wt w.heap.size (.int .i64 a) (.slice p n c) (.slice q m d) (.slice s u e) ∧ Below w.heap.size w wt from hwt ▸ And.intro H9.out.1 H9.out.2.2.2)
  rw [hwt] at hd0 hd1 hd2 hd3 ⊢
  clear hwt
  go_wp2_with fail
  go_ret
  exact ⟨rfl, HX.out.2⟩
set_option maxRecDepth 100000 in
set_option maxHeartbeats 32000000 in
theorem rsames_f3 (k : Nat) (a a' y : Int) (p q s p' q' s' : Option Addr) (n c m d u e n' c' m' d' u' e' : Nat) (L C R L' C' R' : List Int) (w : World) (A : Nat → Addr) (hr : Roots w A) (hT : TypeVar w) (h : RowV w p q s n c m d u e L C R) (h' : RowV w p' q' s' n' c' m' d' u' e' L' C' R') (hw : OkRw k a L C R) (hw' : OkRw k a' L' C' R') (hB : false = true ↔ OneR a L C R a' L' C' R') (s1 : ¬ a - (n : Int) < -4096) (s2 : ¬ 16384 < (m : Int) + (n : Int) + (u : Int)) :
    Calls Tryd.prog 4 #[.int .i64 (k : Int), .agg #[.int .i64 a, .slice p n c, .slice q m d, .slice s u e], .agg #[.int .i64 a', .slice p' n' c', .slice q' m' d', .slice s' u' e'], .int .i64 y] w (Tells (.bool true) w) := by
  have ST := Lib.hid (two_rows w (.int .i64 a) (.slice p n c) (.slice q m d) (.slice s u e) (.int .i64 a') (.slice p' n' c') (.slice q' m' d') (.slice s' u' e'))
  have zn : n ≤ 8192 := by have := hw.l1; have := h.hn; omega
  have zm : m ≤ 16384 := by have := hw.c1; have := h.hm; omega
  have zu : u ≤ 8192 := by have := hw.r1; have := h.hu; omega
  have za1 := hw.a1
  have za2 := hw.a2
  obtain ⟨D, hD4, q1, q2, q3⟩ := round_modG y 4000 (by omega) (by omega)
  obtain ⟨ys, hys⟩ : ∃ z, y.tmod ((4000 : Nat) : Int) = z := ⟨_, rfl⟩
  rw [hys] at q1 q2 q3
  have hys' : y.tmod 4000 = ys := hys
  have q3' : (ys + 4000).tmod 4000 = (D : Int) := q3
  have wys : IntKind.i64.wrap (ys + 4000) = ys + 4000 := by rw [IntWalk.i64_in _ (by omega)]
  obtain ⟨iv, hiv⟩ : ∃ x, (D : Int) - 2000 = x := ⟨_, rfl⟩
  have wD : IntKind.i64.wrap ((D : Int) - 2000) = iv := by rw [IntWalk.i64_in _ (by omega)]; exact hiv
  obtain ⟨an, han⟩ : ∃ x, a - (n : Int) = x := ⟨_, rfl⟩
  have wan : IntKind.i64.wrap (a - (n : Int)) = an := by rw [IntWalk.i64_in _ (by omega)]; exact han
  obtain ⟨y1, hy1⟩ : ∃ x, (m : Int) + (n : Int) = x := ⟨_, rfl⟩
  have wy1 : IntKind.i64.wrap ((m : Int) + (n : Int)) = y1 := by rw [IntWalk.i64_in _ (by omega)]; exact hy1
  obtain ⟨y2, hy2⟩ : ∃ x, y1 + (u : Int) = x := ⟨_, rfl⟩
  have wy2 : IntKind.i64.wrap (y1 + (u : Int)) = y2 := by rw [IntWalk.i64_in _ (by omega)]; exact hy2
  have cA := fun (W : World) (hW : Below w.heap.size w W) => rSame_ok k a a' p q s p' q' s' n c m d u e n' c' m' d' u' e' L C R L' C' R' W (h.next hW) (h'.next hW) hw hw' false hB
  have cB := fun (W : World) (hW : Below w.heap.size w W) => same_ref_ok k a a' p q s p' q' s' n c m d u e n' c' m' d' u' e' L C R L' C' R' W (h.next hW) (h'.next hW) hw hw' false hB
  have cC := fun (W : World) (hW : Below w.heap.size w W) => rSame_ok k a' a p' q' s' p q s n' c' m' d' u' e' n c m d u e L' C' R' L C R W (h'.next hW) (h.next hW) hw' hw false ⟨fun hz => (hB.1 hz).symm, fun hz => hB.2 hz.symm⟩
  have cD := fun (W : World) (hW : Below w.heap.size w W) => rSame_ok k a a p q s p q s n c m d u e n c m d u e L C R L C R W (h.next hW) (h.next hW) hw hw true ⟨fun _ => OneR.refl a L C R, fun _ => rfl⟩
  obtain ⟨X, hX⟩ : ∃ x, pieceR a L C R iv 100 = x := ⟨_, rfl⟩
  obtain ⟨Y, hY⟩ : ∃ x, pieceR a' L' C' R' iv 100 = x := ⟨_, rfl⟩
  have lX : X.length = 100 := by rw [← hX]; exact pieceR_length _ _ _ _ _ _
  have lY : Y.length = 100 := by rw [← hY]; exact pieceR_length _ _ _ _ _ _
  have cE : ∀ W : World, Below w.heap.size w W → Calls Tryd.prog 13 #[.int .i64 (k : Int), .agg #[.int .i64 a, .slice p n c, .slice q m d, .slice s u e], .int .i64 iv, .int .i64 100] W fun e' w' => ∃ pa ca, e' = .returned (.tuple #[.slice pa 100 ca, .nilIface]) ∧ IntO W.heap.size w' pa ca X ∧ Below W.heap.size W w' := fun W hW => by
    have h4 := rCut_ok k a iv 100 p q s n c m d u e L C R W (h.next hW) hw (by omega) (by omega) (by omega)
    rw [hX] at h4
    exact h4.mono fun e' w' ⟨pa, ca, he, ho, hb⟩ => ⟨pa, ca, by rw [he, lX], ho, hb⟩
  have cF : ∀ W : World, Below w.heap.size w W → Calls Tryd.prog 13 #[.int .i64 (k : Int), .agg #[.int .i64 a', .slice p' n' c', .slice q' m' d', .slice s' u' e'], .int .i64 iv, .int .i64 100] W fun e' w' => ∃ pa ca, e' = .returned (.tuple #[.slice pa 100 ca, .nilIface]) ∧ IntO W.heap.size w' pa ca Y ∧ Below W.heap.size W w' := fun W hW => by
    have h4 := rCut_ok k a' iv 100 p' q' s' n' c' m' d' u' e' L' C' R' W (h'.next hW) hw' (by omega) (by omega) (by omega)
    rw [hY] at h4
    exact h4.mono fun e' w' ⟨pa, ca, he, ho, hb⟩ => ⟨pa, ca, by rw [he, lY], ho, hb⟩
  have cI : True := trivial
  have ln : n = L.length := h.hn
  have lm : m = C.length := h.hm
  have lu : u = R.length := h.hu
  obtain ⟨N1, hN1⟩ : ∃ N1, n + m = N1 := ⟨_, rfl⟩
  obtain ⟨N2, hN2⟩ : ∃ N2, N1 + u = N2 := ⟨_, rfl⟩
  have hN2l : N2 = (L ++ C ++ R).length := by rw [List.length_append, List.length_append, ← ln, ← lm, ← lu, hN1, hN2]
  have hww : OkRw k an L (L ++ C ++ R) R := ⟨hw.k1, hw.k4, by omega, by omega, hw.l0, hw.l1, hw.r0, hw.r1, by rw [← hN2l]; omega, hw.okL, hw.all, hw.okR⟩
  have hone : OneR a L C R an L (L ++ C ++ R) R := by rw [← han, ln]; exact one_wide hw.l0 hw.r0
  have cW : ∀ (W : World) (x1 x2 x3 : Option Addr) (f1 f2 f3 : Nat), Below w.heap.size w W → IntV W.heap.size W x1 f1 L → IntV W.heap.size W x2 f2 (L ++ C ++ R) → IntV W.heap.size W x3 f3 R → Calls Tryd.prog 20 #[.int .i64 (k : Int), .agg #[.int .i64 a, .slice p n c, .slice q m d, .slice s u e], .agg #[.int .i64 an, .slice x1 n f1, .slice x2 N2 f2, .slice x3 u f3]] W (Tells (.tuple #[.bool true, .nilIface]) W) := fun W x1 x2 x3 f1 f2 f3 hW h1 h2 h3 =>
    rSame_ok k a an p q s x1 x2 x3 n c m d u e n f1 N2 f2 u f3 L C R L (L ++ C ++ R) R W (h.next hW) ⟨ln, hN2l, lu, h1, h2, h3⟩ hw hww true ⟨fun _ => hone, fun _ => rfl⟩
  have cL : ∀ W, IntV W.heap.size W p c L → Calls Tryd.prog 22 #[.slice p n c] W fun e' w' => ∃ pa ca, e' = .returned (.slice pa n ca) ∧ IntO W.heap.size w' pa ca L ∧ Below W.heap.size W w' := fun W hW =>
    (copyI_any p n c L W ln hW (by omega)).mono fun e' w' ⟨pa, ca, he, ho, hb⟩ => ⟨pa, ca, by rw [he, ← ln], ho, hb⟩
  have cR : ∀ W, IntV W.heap.size W s e R → Calls Tryd.prog 22 #[.slice s u e] W fun e' w' => ∃ pa ca, e' = .returned (.slice pa u ca) ∧ IntO W.heap.size w' pa ca R ∧ Below W.heap.size W w' := fun W hW =>
    (copyI_any s u e R W lu hW (by omega)).mono fun e' w' ⟨pa, ca, he, ho, hb⟩ => ⟨pa, ca, by rw [he, ← lu], ho, hb⟩
  have HN := Lib.hid (And.intro hN1 (And.intro hN2 (And.intro zn (And.intro zm zu))))
  have HD := Lib.hid (And.intro cL (And.intro cR cW))
  clear ln lm lu hN1 hN2 hN2l hww hone cW cL cR
  rw [han] at s1
  have HC := Lib.hid (And.intro cA (And.intro cB (And.intro cC (And.intro cD (And.intro cE (And.intro cF cI))))))
  have HV := Lib.hid (And.intro hr (And.intro hT (And.intro h h')))
  rw [hy1, hy2] at s2
  clear cA cB cC cD cE cF cI h h' hr hT hw hw' hB zn zm zu za1 za2 hD4 q1 q2 q3 hys hiv han hy1 hy2 hX hY lX lY
  go_enter Tryd.func4, Tryd.ntmps4
  go_upto_region 1 with fail
  obtain ⟨w0, hw0⟩ : ∃ w0, w0 = (w.alloc (.cells #[.int .i64 a, .slice p n c, .slice q m d, .slice s u e] 24)).alloc (.cells #[.int .i64 a', .slice p' n' c', .slice q' m' d', .slice s' u' e'] 24) := ⟨_, rfl⟩
  rw [← hw0]
  obtain ⟨hb0, hE0, hF0⟩ := ST.out w0 hw0
  have HE := Lib.hid (And.intro hE0 (And.intro hF0 hb0))
  clear hw0 hE0 hF0 hb0
  go_wp2_with fail
  refine (awakeRw w0 A (HV.out.1.below HE.out.2.2)).mono ?_
  rintro e1 w1 ⟨rfl, hb1⟩
  have H1 := Lib.hid (And.intro (HE.out.1.next hb1) (And.intro (HE.out.2.1.next hb1) (HE.out.2.2.trans (hb1.mono HE.out.2.2.size))))
  clear hb1
  obtain ⟨hd0, hd1, hd2, hd3⟩ := H1.out.1.facts
  obtain ⟨he0, he1, he2, he3⟩ := H1.out.2.1.facts
  go_wp2_with fail
  refine (HC.out.1 w1 H1.out.2.2).mono ?_
  rintro e2 w2 ⟨rfl, hb2⟩
  have H2 := Lib.hid (And.intro (H1.out.1.next hb2) (And.intro (H1.out.2.1.next hb2) (H1.out.2.2.trans (hb2.mono H1.out.2.2.size))))
  clear hb2 hd0 hd1 hd2 hd3 he0 he1 he2 he3
  obtain ⟨hd0, hd1, hd2, hd3⟩ := H2.out.1.facts
  obtain ⟨he0, he1, he2, he3⟩ := H2.out.2.1.facts
  go_wp2_with fail
  refine (HC.out.2.1 w2 H2.out.2.2).mono ?_
  rintro e3 w3 ⟨x1, po1, pa1, z1, co1, ca1, rfl, hwc, hb3⟩
  clear hd0 hd1 hd2 hd3 he0 he1 he2 he3
  go_upto_region 5 with fail
  obtain ⟨w4, hw4⟩ : ∃ x, x = w3.alloc (.cells #[.int .i64 x1, .slice po1 z1 co1, .slice pa1 z1 ca1] 33) := ⟨_, rfl⟩
  rw [← hw4]
  obtain ⟨hb4, hG4⟩ := box_err w3 _ _ _ w4 hw4
  obtain ⟨ge, hge⟩ : ∃ x, w3.heap.size = x := ⟨_, rfl⟩
  rw [hge] at hG4 ⊢
  have h24 := hb3.trans (hb4.mono hb3.size)
  have H4 := Lib.hid (And.intro (H2.out.1.next h24) (And.intro (H2.out.2.1.next h24) (And.intro (hwc.next hb4) (H2.out.2.2.trans (h24.mono H2.out.2.2.size)))))
  obtain ⟨_, hg0, hg1, hg2⟩ := hG4.facts
  clear hw4 hb4 hG4 hge hb3 hwc h24
  go_wp2_with fail
  refine (is_wcg (x := none) (HV.out.1.below H4.out.2.2.2) (HV.out.2.1.below H4.out.2.2.2) (fun y hy => by cases hy) (rfl : PChn w4 A none .nilIface) H4.out.2.2.1).mono ?_
  rintro e5 w5 ⟨rfl, hb5⟩
  have H5 := Lib.hid (And.intro (H4.out.1.next hb5) (And.intro (H4.out.2.1.next hb5) (H4.out.2.2.2.trans (hb5.mono H4.out.2.2.2.size))))
  clear hb5 hg0 hg1 hg2
  obtain ⟨hd0, hd1, hd2, hd3⟩ := H5.out.1.facts
  obtain ⟨he0, he1, he2, he3⟩ := H5.out.2.1.facts
  go_wp2_with fail
  refine (HC.out.2.2.1 w5 H5.out.2.2).mono ?_
  rintro e6 w6 ⟨rfl, hb6⟩
  have H6 := Lib.hid (And.intro (H5.out.1.next hb6) (And.intro (H5.out.2.1.next hb6) (H5.out.2.2.trans (hb6.mono H5.out.2.2.size))))
  clear hb6 hd0 hd1 hd2 hd3 he0 he1 he2 he3
  obtain ⟨hd0, hd1, hd2, hd3⟩ := H6.out.1.facts
  obtain ⟨he0, he1, he2, he3⟩ := H6.out.2.1.facts
  go_wp2_with fail
  refine (HC.out.2.2.2.1 w6 H6.out.2.2).mono ?_
  rintro e7 w7 ⟨rfl, hb7⟩
  have H7 := Lib.hid (And.intro (H6.out.1.next hb7) (And.intro (H6.out.2.1.next hb7) (H6.out.2.2.trans (hb7.mono H6.out.2.2.size))))
  clear hb7 hd0 hd1 hd2 hd3 he0 he1 he2 he3
  obtain ⟨hd0, hd1, hd2, hd3⟩ := H7.out.1.facts
  obtain ⟨he0, he1, he2, he3⟩ := H7.out.2.1.facts
  go_wp2_with fail
  refine (HC.out.2.2.2.2.1 w7 H7.out.2.2).mono ?_
  rintro e8 w8 ⟨p8, c8, rfl, o8, hb8⟩
  have H8 := Lib.hid (And.intro (H7.out.1.next hb8) (And.intro (H7.out.2.1.next hb8) (And.intro o8.toV (H7.out.2.2.trans (hb8.mono H7.out.2.2.size)))))
  clear hb8 o8 hd0 hd1 hd2 hd3 he0 he1 he2 he3
  obtain ⟨hd0, hd1, hd2, hd3⟩ := H8.out.1.facts
  obtain ⟨he0, he1, he2, he3⟩ := H8.out.2.1.facts
  go_wp2_with fail
  refine (HC.out.2.2.2.2.2.1 w8 H8.out.2.2.2).mono ?_
  rintro e9 w9 ⟨p9, c9, rfl, o9, hb9⟩
  have H9 := Lib.hid (And.intro (H8.out.1.next hb9) (And.intro (H8.out.2.2.1.next hb9) (And.intro o9.toV (H8.out.2.2.2.trans (hb9.mono H8.out.2.2.2.size)))))
  clear hb9 o9 hd0 hd1 hd2 hd3 he0 he1 he2 he3
  obtain ⟨hd0, hd1, hd2, hd3⟩ := H9.out.1.facts
  obtain ⟨wt, hwt⟩ : ∃ x, w9 = x := ⟨_, rfl⟩
  have HX := Lib.hid (show Row4 wt w.heap.size (.int .i64 a) (.slice p n c) (.slice q m d) (.slice s u e) ∧ Below w.heap.size w wt from hwt ▸ And.intro H9.out.1 H9.out.2.2.2)
  rw [hwt] at hd0 hd1 hd2 hd3 ⊢
  clear hwt
  go_upto_region 21 with fail
  have hxA : ∀ wx : World, Below wt.heap.size wt wx → wx.cell? ⟨w.heap.size, 0, none⟩ = some (.int .i64 a) ∧ wx.cell? ⟨w.heap.size, 1, none⟩ = some (.slice p n c) ∧ wx.cell? ⟨w.heap.size, 2, none⟩ = some (.slice q m d) ∧ wx.cell? ⟨w.heap.size, 3, none⟩ = some (.slice s u e) := fun wx hb => (HX.out.1.next hb).facts
  have hdr : Below wt.heap.size wt wt.drew := (Below.refl _ _).drew
  go_region_held3 (fun wx => wx.cell? ⟨w.heap.size, 0, none⟩ = some (.int .i64 a) ∧ wx.cell? ⟨w.heap.size, 1, none⟩ = some (.slice p n c) ∧ wx.cell? ⟨w.heap.size, 2, none⟩ = some (.slice q m d) ∧ wx.cell? ⟨w.heap.size, 3, none⟩ = some (.slice s u e)) (first | exact hxA _ (by assumption) | exact hxA _ (Below.refl _ _) | exact hxA _ hdr | go_keep) (first
    | (go_at_call 22; refine (HD.out.1 _ ((HV.out.2.2.1.l.next HX.out.2).next (by first | exact hdr | exact Below.refl _ _))).mono ?_; rintro e' v1 ⟨p1, c1, rfl, o1, hb1⟩; have hB1 : Below wt.heap.size wt v1 := (by first | exact hdr.trans (hb1.mono hdr.size) | exact hb1); have q1 : IntO wt.heap.size v1 p1 c1 L := o1)
    | (refine step_appI (by rfl) _ _ (by rfl) wt.heap.size p2 N1 c2 (L ++ C) (by rfl) (by rw [List.length_append, ← HV.out.2.2.1.hn, ← HV.out.2.2.1.hm, HN.out.1]) q2 hB2.size s u e R (by rfl) HV.out.2.2.1.hu ((HV.out.2.2.1.r.next HX.out.2).next hB2) (by have := HN.out; rw [List.length_append, ← HV.out.2.2.1.hn, ← HV.out.2.2.1.hm]; omega) (by have := HN.out; rw [← HV.out.2.2.1.hu]; omega) N2 HN.out.2.1 ?_; intro p3 c3 v3 q3 hb3; have hB3 : Below wt.heap.size wt v3 := hB2.trans hb3)
    | (refine step_appI (by rfl) _ _ (by rfl) wt.heap.size p1 n c1 L (by rfl) HV.out.2.2.1.hn q1 hB1.size q m d C (by rfl) HV.out.2.2.1.hm ((HV.out.2.2.1.c.next HX.out.2).next hB1) (by have := HN.out; rw [← HV.out.2.2.1.hn]; omega) (by have := HN.out; rw [← HV.out.2.2.1.hm]; omega) N1 HN.out.1 ?_; intro p2 c2 v2 q2 hb2; have hB2 : Below wt.heap.size wt v2 := hB1.trans hb2))
  all_goals
    have HY := Lib.hid (And.intro (HX.out.1.next hB3) (And.intro q3.toV (HX.out.2.trans (hB3.mono HX.out.2.size))))
    clear hxA hdr o1 hb1 hB1 q1 hb2 hB2 q2 hb3 hB3 q3 hd0 hd1 hd2 hd3
    go_upto_region 22 with fail
    have hxA : ∀ wx : World, Below v3.heap.size v3 wx → wx.cell? ⟨w.heap.size, 0, none⟩ = some (.int .i64 a) ∧ wx.cell? ⟨w.heap.size, 1, none⟩ = some (.slice p n c) ∧ wx.cell? ⟨w.heap.size, 2, none⟩ = some (.slice q m d) ∧ wx.cell? ⟨w.heap.size, 3, none⟩ = some (.slice s u e) := fun wx hb => (HY.out.1.next hb).facts
    have hdr : Below v3.heap.size v3 v3.drew := (Below.refl _ _).drew
    have hxP : ∀ (wx : World) (g : Nat), Below v3.heap.size v3 wx → v3.heap.size ≤ g → ∀ x y z v, (fun wx => wx.cell? ⟨w.heap.size, 0, none⟩ = some (.int .i64 a) ∧ wx.cell? ⟨w.heap.size, 1, none⟩ = some (.slice p n c) ∧ wx.cell? ⟨w.heap.size, 2, none⟩ = some (.slice q m d) ∧ wx.cell? ⟨w.heap.size, 3, none⟩ = some (.slice s u e)) (put4 wx g x y z v) := fun wx g hb hg x y z v => by
      have hlt := HY.out.1.lt
      exact (((((HY.out.1.next hb).setOther g 0 (by omega) x).setOther g 1 (by omega) y).setOther g 2 (by omega) z).setOther g 3 (by omega) v).facts
    unfold put4 at hxP
    go_region_held3 (fun wx => wx.cell? ⟨w.heap.size, 0, none⟩ = some (.int .i64 a) ∧ wx.cell? ⟨w.heap.size, 1, none⟩ = some (.slice p n c) ∧ wx.cell? ⟨w.heap.size, 2, none⟩ = some (.slice q m d) ∧ wx.cell? ⟨w.heap.size, 3, none⟩ = some (.slice s u e)) (first | exact hxA _ (by assumption) | exact hxA _ (Below.refl _ _) | exact hxA _ hdr | exact hxA _ (hdr.alloc hdr.size _) | exact hxA _ (hB1.alloc hB1.size _) | exact hxA _ (hB2.alloc hB2.size _) | exact hxP _ _ hB2 (by first | exact hB1.size | exact Nat.le_refl _) _ _ _ _ | exact hxP _ _ (hB2.alloc hB2.size _) hB2.size _ _ _ _ | go_keep) (first
      | (go_at_call 22; refine (HD.out.2.1 _ ((HV.out.2.2.1.r.next HY.out.2.2).next (by first | exact hB1 | exact hB1.alloc hB1.size _))).mono ?_; rintro e' wb ⟨pb, cb, rfl, ob, hb5⟩; have hB2 : Below v3.heap.size v3 wb := (by first | exact hB1.trans (hb5.mono hB1.size) | exact (hB1.alloc hB1.size _).trans (hb5.mono (hB1.alloc hB1.size _).size)); (first | (have hz5 := hz4.next hb5) | (have hz5 := (box_row wa (.int .i64 0) (.slice none 0 0) (.slice none 0 0) (.slice none 0 0) _ rfl).2.next hb5) | skip); (first | (have hf0 := hz5.frozen 0; have hf1 := hz5.frozen 1; have hf2 := hz5.frozen 2; have hf3 := hz5.frozen 3; obtain ⟨hg0, hg1, hg2, hg3⟩ := hz5.facts) | (have hzA := (box_row wb (.int .i64 0) (.slice none 0 0) (.slice none 0 0) (.slice none 0 0) _ rfl).2; have hf0 := hzA.frozen 0; have hf1 := hzA.frozen 1; have hf2 := hzA.frozen 2; have hf3 := hzA.frozen 3; obtain ⟨hg0, hg1, hg2, hg3⟩ := hzA.facts)))
      | (go_at_call 22; refine (HD.out.1 _ ((HV.out.2.2.1.l.next HY.out.2.2).next (by first | exact hdr | exact hdr.alloc hdr.size _))).mono ?_; rintro e' wa ⟨pa, ca, rfl, oa, hb4⟩; have hB1 : Below v3.heap.size v3 wa := (by first | exact hdr.trans (hb4.mono hdr.size) | exact (hdr.alloc hdr.size _).trans (hb4.mono (hdr.alloc hdr.size _).size)); (first | (have hz4 : Row4 wa v3.heap.size (.int .i64 0) (.slice none 0 0) (.slice none 0 0) (.slice none 0 0) := (box_row v3.drew (.int .i64 0) (.slice none 0 0) (.slice none 0 0) (.slice none 0 0) _ rfl).2.next hb4) | skip)))
    all_goals
      first
        | (have hF : FinR v3 (put4 wb wa.heap.size (.int .i64 an) (.slice pa n ca) (.slice p3 N2 c3) (.slice pb u cb)) wa.heap.size an pa p3 pb n ca N2 c3 u cb L (L ++ C ++ R) R := finS hB2 hz5 hB1.size HY.out.2.1 (oa.toV.next (put4_below ((box_row wa (.int .i64 0) (.slice none 0 0) (.slice none 0 0) (.slice none 0 0) _ rfl).1.trans (hb5.mono (box_row wa (.int .i64 0) (.slice none 0 0) (.slice none 0 0) (.slice none 0 0) _ rfl).1.size)) (Nat.le_refl _) _ _ _ _)) (ob.put4 ((box_row wa (.int .i64 0) (.slice none 0 0) (.slice none 0 0) (.slice none 0 0) _ rfl).2.lt) _ _ _ _).toV
           obtain ⟨wf, hwf⟩ : ∃ x, x = put4 wb wa.heap.size (.int .i64 an) (.slice pa n ca) (.slice p3 N2 c3) (.slice pb u cb) := ⟨_, rfl⟩
           rw [← hwf] at hF
           unfold put4 at hwf
           rw [← hwf]
           obtain ⟨gx, hgx⟩ : ∃ x, wa.heap.size = x := ⟨_, rfl⟩
           rw [hgx] at hF ⊢
           have HF := Lib.hid hF
           clear hF hwf hgx)
        | (have hF : FinR v3 (put4 wb v3.heap.size (.int .i64 an) (.slice pa n ca) (.slice p3 N2 c3) (.slice pb u cb)) v3.heap.size an pa p3 pb n ca N2 c3 u cb L (L ++ C ++ R) R := finS hB2 hz5 (Nat.le_refl _) HY.out.2.1 ((oa.next hb5).put4 ((box_row v3.drew (.int .i64 0) (.slice none 0 0) (.slice none 0 0) (.slice none 0 0) _ rfl).2.lt) _ _ _ _).toV (ob.put4 hz4.lt _ _ _ _).toV
           obtain ⟨wf, hwf⟩ : ∃ x, x = put4 wb v3.heap.size (.int .i64 an) (.slice pa n ca) (.slice p3 N2 c3) (.slice pb u cb) := ⟨_, rfl⟩
           rw [← hwf] at hF
           unfold put4 at hwf
           rw [← hwf]
           obtain ⟨gx, hgx⟩ : ∃ x, v3.heap.size = x := ⟨_, rfl⟩
           rw [hgx] at hF ⊢
           have HF := Lib.hid hF
           clear hF hwf hgx)
        | (have hF : FinR v3 (wb.alloc (.cells #[.int .i64 an, .slice pa n ca, .slice p3 N2 c3, .slice pb u cb] 24)) wb.heap.size an pa p3 pb n ca N2 c3 u cb L (L ++ C ++ R) R := finT hB2 HY.out.2.1 (oa.toV.next hb5) ob.toV
           obtain ⟨wf, hwf⟩ : ∃ x, x = wb.alloc (.cells #[.int .i64 an, .slice pa n ca, .slice p3 N2 c3, .slice pb u cb] 24) := ⟨_, rfl⟩
           rw [← hwf] at hF
           rw [← hwf]
           obtain ⟨gx, hgx⟩ : ∃ x, wb.heap.size = x := ⟨_, rfl⟩
           rw [hgx] at hF ⊢
           have HF := Lib.hid hF
           clear hF hwf hgx)
      have HG := Lib.hid (And.intro (HY.out.1.next HF.out.below) (HY.out.2.2.trans (HF.out.below.mono HY.out.2.2.size)))
      clear hxA hxP hdr oa hb4 hB1 ob hb5 hB2 hf0 hf1 hf2 hf3 hg0 hg1 hg2 hg3
      (try clear hz5)
      (try clear hz4)
      (try clear hzA)
      obtain ⟨hd0, hd1, hd2, hd3⟩ := HG.out.1.facts
      obtain ⟨he0, he1, he2, he3⟩ := HF.out.row.facts
      go_wp2_with fail
      refine (HD.out.2.2 wf pa p3 pb ca c3 cb HG.out.2 HF.out.v1 HF.out.v2 HF.out.v3).mono ?_
      rintro e11 wz ⟨rfl, hb11⟩
      have HZ := Lib.hid (HG.out.2.trans (hb11.mono HG.out.2.size))
      clear hb11 hd0 hd1 hd2 hd3 he0 he1 he2 he3
      go_wp2_with fail
      go_ret
      exact ⟨rfl, HZ.out⟩
end Go.Proofs.YtfgoflaeclfggaaDoor
