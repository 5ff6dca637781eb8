/- RowSteps: its walk. -/
import Derived.Test.YtfgoflaeclfggaaDoorBRowW
import Derived.Test.YtfgoflaeclfggaaDoorB5
namespace Go.Proofs.YtfgoflaeclfggaaDoor
open Go.RowKit Go.Extern.Stop Go.Stop Go.Extern WordM RuleM NatM
attribute [local go_sem ↓] Go.wp_at_zero Go.wp_at_succ

/-- a row and an error of the program's -/
def ProgW (w : World) (A : Nat → Addr) (x : Option (List (ByteArray × Int) × Nat)) (b : Int) (N M V : Nat) (X1 X2 X3 : List Int) (e : Ending) (w' : World) : Prop :=
  ∃ p1 c1 p2 c2 p3 c3 f, e = .returned (.tuple #[.agg #[.int .i64 b, .slice p1 N c1, .slice p2 M c2, .slice p3 V c3], f]) ∧ RowV w' p1 p2 p3 N c1 M c2 V c3 X1 X2 X3 ∧ PChn w' A x f ∧ Below w.heap.size w w'
/-- a row and an error of the document's -/
def RefW (w : World) (x : Option (List (ByteArray × Int) × Nat)) (b : Int) (N M V : Nat) (X1 X2 X3 : List Int) (e : Ending) (w' : World) : Prop :=
  ∃ p1 c1 p2 c2 p3 c3 j po pa z co ca, e = .returned (.tuple #[.agg #[.int .i64 b, .slice p1 N c1, .slice p2 M c2, .slice p3 V c3], .agg #[.int .i64 j, .slice po z co, .slice pa z ca]]) ∧ RowV w' p1 p2 p3 N c1 M c2 V c3 X1 X2 X3 ∧ WCg w' x j po pa z co ca ∧ Below w.heap.size w w'
set_option maxRecDepth 100000 in
set_option maxHeartbeats 32000000 in
theorem rsteps_core (k r a : Int) (x : Option (List (ByteArray × Int) × Nat)) (b : Int) (N M V : Nat) (X1 X2 X3 : List Int) (pt : Option Addr) (nt ct : Nat) (t : List Int) (p q s : Option Addr) (n c m d u e : Nat) (L C R : List Int) (w : World) (A : Nat → Addr) (hr : Roots w A) (hT : TypeVar w) (hnt : nt = t.length) (ht : IntV w.heap.size w pt ct t) (h : RowV w p q s n c m d u e L C R) (hlt : t.length ≤ 17592186043904) (hn : n ≤ 17592186043904) (hm : m ≤ 17592186043904) (hu : u ≤ 17592186043904)
    (hx : ∀ y, x = some y → 1 ≤ y.2 ∧ y.2 ≤ 11)
    (cP : ∀ (W : World) (x0 x1 x2 x3 : Option Addr) (f0 f1 f2 f3 : Nat), Roots W A → IntV W.heap.size W x0 f0 t → RowV W x1 x2 x3 n f1 m f2 u f3 L C R → Calls Tryd.prog 24 #[.agg #[.int .i64 k, .int .i64 r, .slice x0 nt f0], .agg #[.int .i64 a, .slice x1 n f1, .slice x2 m f2, .slice x3 u f3]] W (ProgW W A x b N M V X1 X2 X3))
    (cQ : ∀ (W : World), IntV W.heap.size W pt ct t → RowV W p q s n c m d u e L C R → Calls Tryd.prog 25 #[.agg #[.int .i64 k, .int .i64 r, .slice pt nt ct], .agg #[.int .i64 a, .slice p n c, .slice q m d, .slice s u e]] W (RefW W x b N M V X1 X2 X3)) :
    Calls Tryd.prog 5 #[.agg #[.int .i64 k, .int .i64 r, .slice pt nt ct], .agg #[.int .i64 a, .slice p n c, .slice q m d, .slice s u e]] w (Tells (.bool true) w) := by
  have ST := Lib.hid (box_rule_row w (.int .i64 k) (.int .i64 r) (.slice pt nt ct) (.int .i64 a) (.slice p n c) (.slice q m d) (.slice s u e))
  have cL : ∀ W, IntV W.heap.size W pt ct t → Calls Tryd.prog 23 #[.agg #[.int .i64 k, .int .i64 r, .slice pt nt ct]] W fun e w' => ∃ g, e = .returned (.agg #[.int .i64 k, .int .i64 r, .slice (some ⟨g, 0, none⟩) nt (nt + 2)]) ∧ W.heap.size ≤ g ∧ LentI w' g t ∧ Below W.heap.size W w' := fun W hW => by
    have h1 := lentR_any k r pt nt ct t W hnt hW hlt
    unfold LentR at h1
    rw [← hnt] at h1
    exact h1
  have cW := fun W hW => lentW_any a p q s n c m d u e L C R W hW hn hm hu
  unfold LentWPost at cW
  have cKR : ∀ W g, LentI W g t → IntV W.heap.size W pt ct t → Calls Tryd.prog 27 #[.agg #[.int .i64 k, .int .i64 r, .slice (some ⟨g, 0, none⟩) nt (nt + 2)], .agg #[.int .i64 k, .int .i64 r, .slice pt nt ct]] W (Tells (.bool true) W) := fun W g hg hW => keptR_any g k r pt nt (nt + 2) ct t W hg hW hlt hnt (by omega)
  have cK := fun W g1 g2 g3 hl hv => keptW_any a g1 g2 g3 p q s n c m d u e L C R W hl hv hn hm hu
  have vT : ∀ W g, LentI W g t → IntV W.heap.size W (some ⟨g, 0, none⟩) (nt + 2) t := fun W g hg => hg.vn (by omega) hlt
  have vW : ∀ (W : World) (g1 g2 g3 : Nat), LentW W g1 g2 g3 L C R → RowV W (some ⟨g1, 0, none⟩) (some ⟨g2, 0, none⟩) (some ⟨g3, 0, none⟩) n (n + 2) m (m + 2) u (u + 2) L C R := fun W g1 g2 g3 hl => hl.row h.hn h.hm h.hu hn hm hu
  have HC := Lib.hid (And.intro cP (And.intro cQ hx))
  have D := Lib.hid (And.intro cL (And.intro cW (And.intro cKR (And.intro cK (And.intro vT vW)))))
  have H := Lib.hid (And.intro hr (And.intro hT (And.intro ht h)))
  clear hr hT hnt ht h hlt hn hm hu hx cP cQ cL cW cKR cK vT vW
  go_enter Tryd.func5, Tryd.ntmps5
  go_upto_region 1 with fail
  obtain ⟨w0, hw0⟩ : ∃ w0, w0 = (w.alloc (.cells #[.int .i64 k, .int .i64 r, .slice pt nt ct] 53)).alloc (.cells #[.int .i64 a, .slice p n c, .slice q m d, .slice s u e] 24) := ⟨_, rfl⟩
  rw [← hw0]
  obtain ⟨hb0, hE0, hF0⟩ := ST.out w0 hw0
  have HE := Lib.hid (And.intro hE0 (And.intro hF0 hb0))
  clear hw0 hE0 hF0 hb0
  go_wp2_with fail
  refine (awakeRw w0 A (H.out.1.below HE.out.2.2)).mono ?_
  rintro e1 w1 ⟨rfl, hb1⟩
  have H1 := Lib.hid (And.intro (HE.out.1.next hb1) (And.intro (HE.out.2.1.next hb1) (HE.out.2.2.trans (hb1.mono HE.out.2.2.size))))
  clear hb1
  obtain ⟨hd0, hd1, hd2, hd3⟩ := H1.out.2.1.facts
  go_wp2_with fail
  refine (D.out.2.1 w1 (H.out.2.2.2.next H1.out.2.2)).mono ?_
  rintro e1 w2 ⟨g1, g2, g3, rfl, _, _, _, hlw, hb2⟩
  clear hd0 hd1 hd2 hd3
  go_upto_region 4 with fail
  obtain ⟨w3, hw3⟩ : ∃ x, x = w2.alloc (.cells #[.int .i64 a, .slice (some ⟨g1, 0, none⟩) n (n + 2), .slice (some ⟨g2, 0, none⟩) m (m + 2), .slice (some ⟨g3, 0, none⟩) u (u + 2)] 24) := ⟨_, rfl⟩
  rw [← hw3]
  obtain ⟨hb3, hG3⟩ := box_row w2 _ _ _ _ w3 hw3
  obtain ⟨gm, hgm⟩ : ∃ x, w2.heap.size = x := ⟨_, rfl⟩
  rw [hgm] at hG3 ⊢
  have h13 := hb2.trans (hb3.mono hb2.size)
  have H3 := Lib.hid (And.intro (H1.out.1.next h13) (And.intro (H1.out.2.1.next h13) (And.intro hG3 (And.intro (hlw.below hb3) (H1.out.2.2.trans (h13.mono H1.out.2.2.size))))))
  clear hw3 hb3 hG3 hgm h13 hlw hb2
  obtain ⟨_, hc0, hc1, hc2⟩ := H3.out.1.facts
  go_wp2_with fail
  refine (D.out.1 w3 (H.out.2.2.1.next H3.out.2.2.2.2)).mono ?_
  rintro e1 w4 ⟨g, rfl, _, hLg, hb4⟩
  clear hc0 hc1 hc2
  go_upto_region 5 with fail
  obtain ⟨w5, hw5⟩ : ∃ x, x = w4.alloc (.cells #[.int .i64 k, .int .i64 r, .slice (some ⟨g, 0, none⟩) nt (nt + 2)] 53) := ⟨_, rfl⟩
  obtain ⟨hb5, hE5⟩ := box_rule w4 _ _ _ w5 hw5
  rw [← hw5]
  obtain ⟨gt, hgt⟩ : ∃ x, w4.heap.size = x := ⟨_, rfl⟩
  rw [hgt] at hE5 ⊢
  have h35 := hb4.trans (hb5.mono hb4.size)
  have H5 := Lib.hid (And.intro (H3.out.1.next h35) (And.intro (H3.out.2.1.next h35) (And.intro (H3.out.2.2.1.next h35) (And.intro (H3.out.2.2.2.1.below h35) (And.intro hE5 (And.intro (hLg.below hb5) (H3.out.2.2.2.2.trans (h35.mono H3.out.2.2.2.2.size))))))))
  clear hw5 hb5 hE5 hgt h35 hLg hb4
  obtain ⟨_, hc0, hc1, hc2⟩ := H5.out.2.2.2.2.1.facts
  obtain ⟨hd0, hd1, hd2, hd3⟩ := H5.out.2.2.1.facts
  go_wp2_with fail
  refine (HC.out.1 w5 _ _ _ _ _ _ _ _ (H.out.1.below H5.out.2.2.2.2.2.2) (D.out.2.2.2.2.1 _ _ H5.out.2.2.2.2.2.1) (D.out.2.2.2.2.2 _ _ _ _ H5.out.2.2.2.1)).mono ?_
  rintro e1 w6 ⟨p1, c1, p2, c2, p3, c3, f, rfl, hv6, hp6, hb6⟩
  clear hc0 hc1 hc2 hd0 hd1 hd2 hd3
  go_upto_region 6 with fail
  obtain ⟨w7, hw7⟩ : ∃ x, x = w6.alloc (.cells #[.int .i64 b, .slice p1 N c1, .slice p2 M c2, .slice p3 V c3] 24) := ⟨_, rfl⟩
  rw [← hw7]
  obtain ⟨hb7, hG7⟩ := box_row w6 _ _ _ _ w7 hw7
  obtain ⟨ga, hga⟩ : ∃ x, w6.heap.size = x := ⟨_, rfl⟩
  rw [hga] at hG7 ⊢
  have h57 := hb6.trans (hb7.mono hb6.size)
  have H7 := Lib.hid (And.intro (And.intro (H5.out.1.next h57) (And.intro (H5.out.2.1.next h57) (And.intro (H5.out.2.2.1.next h57) (And.intro (H5.out.2.2.2.1.below h57) (And.intro (H5.out.2.2.2.2.1.next h57) (And.intro (H5.out.2.2.2.2.2.1.below h57) (H5.out.2.2.2.2.2.2.trans (h57.mono H5.out.2.2.2.2.2.2.size)))))))) (And.intro hG7 (And.intro (hv6.next hb7) (hp6.next hb7))))
  clear hw7 hb7 hG7 hga h57 hv6 hp6 hb6
  obtain ⟨_, hc0, hc1, hc2⟩ := H7.out.1.1.facts
  obtain ⟨hd0, hd1, hd2, hd3⟩ := H7.out.1.2.1.facts
  go_wp2_with fail
  refine (HC.out.2.1 w7 (H.out.2.2.1.next H7.out.1.2.2.2.2.2.2) (H.out.2.2.2.next H7.out.1.2.2.2.2.2.2)).mono ?_
  rintro e1 w8 ⟨p4, c4, p5, c5, p6, c6, j, po, pa, z, co, ca, rfl, hv8, hw8, hb8⟩
  clear hc0 hc1 hc2 hd0 hd1 hd2 hd3
  go_upto_region 7 with fail
  obtain ⟨wv, hwv⟩ : ∃ x, x = w8.alloc (.cells #[.int .i64 b, .slice p4 N c4, .slice p5 M c5, .slice p6 V c6] 24) := ⟨_, rfl⟩
  obtain ⟨hb9, hG9⟩ := box_row w8 _ _ _ _ wv hwv
  have hsz : wv.heap.size = w8.heap.size + 1 := by rw [hwv]; simp
  rw [← hwv]
  obtain ⟨w9, hw9⟩ : ∃ x, x = wv.alloc (.cells #[.int .i64 j, .slice po z co, .slice pa z ca] 33) := ⟨_, rfl⟩
  obtain ⟨hbE, hGE⟩ := box_err wv _ _ _ w9 hw9
  rw [← hw9]
  (try rw [← hsz])
  obtain ⟨ge, hge⟩ : ∃ x, wv.heap.size = x := ⟨_, rfl⟩
  obtain ⟨gb, hgb⟩ : ∃ x, w8.heap.size = x := ⟨_, rfl⟩
  rw [hge] at hGE ⊢
  rw [hgb] at hG9 ⊢
  have h89 := hb9.trans (hbE.mono hb9.size)
  have h79 := hb8.trans (h89.mono hb8.size)
  have H9 := Lib.hid (And.intro (And.intro (H7.out.1.1.next h79) (And.intro (H7.out.1.2.1.next h79) (And.intro (H7.out.1.2.2.1.next h79) (And.intro (H7.out.1.2.2.2.1.below h79) (And.intro (H7.out.1.2.2.2.2.1.next h79) (And.intro (H7.out.1.2.2.2.2.2.1.below h79) (H7.out.1.2.2.2.2.2.2.trans (h79.mono H7.out.1.2.2.2.2.2.2.size)))))))) (And.intro (H7.out.2.1.next h79) (And.intro (H7.out.2.2.1.next h79) (And.intro (H7.out.2.2.2.next h79) (And.intro (hG9.next hbE) (And.intro (hv8.next h89) (And.intro hGE (hw8.next h89))))))))
  clear hwv hb9 hG9 hsz hw9 hbE hGE hge hgb h89 h79 hv8 hw8 hb8
  obtain ⟨hc0, hc1, hc2, hc3⟩ := H9.out.2.1.facts
  obtain ⟨hd0, hd1, hd2, hd3⟩ := H9.out.2.2.2.2.1.facts
  go_wp2_with fail
  refine (rows_same b p1 p2 p3 p4 p5 p6 N c1 M c2 V c3 c4 c5 c6 X1 X2 X3 w9 H9.out.2.2.1 H9.out.2.2.2.2.2.1).mono ?_
  rintro e1 y1 ⟨rfl, hbb⟩
  have G1 := Lib.hid hbb
  clear hbb hc0 hc1 hc2 hc3 hd0 hd1 hd2 hd3
  obtain ⟨_, hc0, hc1, hc2⟩ := (H9.out.2.2.2.2.2.2.1.next G1.out).facts
  go_wp2_with fail
  refine (is_wcg ((H.out.1.below H9.out.1.2.2.2.2.2.2).below G1.out) ((H.out.2.1.below H9.out.1.2.2.2.2.2.2).below G1.out) HC.out.2.2 (H9.out.2.2.2.1.next G1.out) (H9.out.2.2.2.2.2.2.2.next G1.out)).mono ?_
  rintro e1 y2 ⟨rfl, hbb⟩
  have G2 := Lib.hid (G1.out.trans (hbb.mono G1.out.size))
  clear hbb hc0 hc1 hc2
  obtain ⟨hc0, hc1, hc2, hc3⟩ := (H9.out.1.2.2.1.next G2.out).facts
  obtain ⟨hd0, hd1, hd2, hd3⟩ := (H9.out.1.2.1.next G2.out).facts
  go_wp2_with fail
  refine (D.out.2.2.2.1 y2 g1 g2 g3 (H9.out.1.2.2.2.1.below G2.out) ((H.out.2.2.2.next H9.out.1.2.2.2.2.2.2).next G2.out)).mono ?_
  rintro e1 y3 ⟨rfl, hbb⟩
  have G3 := Lib.hid (G2.out.trans (hbb.mono G2.out.size))
  clear hbb hc0 hc1 hc2 hc3 hd0 hd1 hd2 hd3
  obtain ⟨_, hc0, hc1, hc2⟩ := (H9.out.1.2.2.2.2.1.next G3.out).facts
  obtain ⟨_, hd0, hd1, hd2⟩ := (H9.out.1.1.next G3.out).facts
  go_wp2_with fail
  refine (D.out.2.2.1 y3 g (H9.out.1.2.2.2.2.2.1.below G3.out) ((H.out.2.2.1.next H9.out.1.2.2.2.2.2.2).next G3.out)).mono ?_
  rintro e1 y4 ⟨rfl, hbb⟩
  have HZ := Lib.hid (H9.out.1.2.2.2.2.2.2.trans ((G3.out.trans (hbb.mono G3.out.size)).mono H9.out.1.2.2.2.2.2.2.size))
  clear hbb hc0 hc1 hc2 hd0 hd1 hd2
  go_wp2_with fail
  go_ret
  exact ⟨rfl, HZ.out⟩
theorem rsteps_any (k r a : Int) (pt : Option Addr) (nt ct : Nat) (t : List Int) (p q s : Option Addr) (n c m d u e : Nat) (L C R : List Int) (w : World) (A : Nat → Addr) (hr : Roots w A) (hT : TypeVar w) (hnt : nt = t.length) (ht : IntV w.heap.size w pt ct t) (h : RowV w p q s n c m d u e L C R) (hlt : t.length ≤ 17592186043904) (hn : n ≤ 17592186043904) (hm : m ≤ 17592186043904) (hu : u ≤ 17592186043904) :
    Calls Tryd.prog 5 #[.agg #[.int .i64 k, .int .i64 r, .slice pt nt ct], .agg #[.int .i64 a, .slice p n c, .slice q m d, .slice s u e]] w (Tells (.bool true) w) := by
  cases hc : chkZ k r t a L C R with
  | some y =>
    obtain ⟨X, M⟩ := y
    have zr : ∀ W : World, RowV W none none none 0 0 0 0 0 0 [] [] [] := fun W => ⟨rfl, rfl, rfl, IntV.nothing W, IntV.nothing W, IntV.nothing W⟩
    refine rsteps_core k r a (some (X, M)) 0 0 0 0 [] [] [] pt nt ct t p q s n c m d u e L C R w A hr hT hnt ht h hlt hn hm hu (fun y hy => chkZ_num y (hc.trans hy)) (fun W x0 x1 x2 x3 f0 f1 f2 f3 hR h0 h1 => ?_) (fun W h0 h1 => ?_)
    · exact (rStep_bad k r a x0 nt f0 t x1 x2 x3 n f1 m f2 u f3 L C R W A hR hnt h0 h1 hn hm hu X M hc).mono fun e1 w' ⟨b, he, hl, hb⟩ => ⟨none, 0, none, 0, none, 0, _, he, zr _, ⟨b, rfl, hl⟩, hb⟩
    · exact (step_ref07_bad k r a pt nt ct t p q s n c m d u e L C R W hnt h0 h1 hn hm hu X M hc).mono fun e1 w' ⟨j, po, pa, z, co, ca, he, hw, hb⟩ => ⟨none, 0, none, 0, none, 0, j, po, pa, z, co, ca, he, zr _, hw, hb⟩
  | none =>
    obtain ⟨K, S, rfl, rfl, ho, hw, ha, hcc⟩ := chkZ_none hc
    have l1 : (imgL K S t a L C R).length = n := (imgR_length _ _ _ _ _ _ _ _ _).trans h.hn.symm
    have l2 : (imgC K S t a L C R).length = m + 2 * S := by rw [h.hm]; exact imgR_length _ _ _ _ _ _ _ _ _
    have l3 : (imgT K S t a L C R).length = u := (imgR_length _ _ _ _ _ _ _ _ _).trans h.hu.symm
    refine rsteps_core (K : Int) (S : Int) a none (a - (S : Int)) n (m + 2 * S) u (imgL K S t a L C R) (imgC K S t a L C R) (imgT K S t a L C R) pt nt ct t p q s n c m d u e L C R w A hr hT hnt ht h hlt hn hm hu (fun y hy => by cases hy) (fun W x0 x1 x2 x3 f0 f1 f2 f3 _ h0 h1 => ?_) (fun W h0 h1 => ?_)
    · refine (rStep_ok K S a x0 nt f0 t x1 x2 x3 n f1 m f2 u f3 L C R W hnt h0 h1 ho hw ha hcc).mono fun e1 w' hp => ?_
      obtain ⟨p1, c1, p2, c2, p3, c3, s1, s2, he, o1, o2, o3, _, _, _, _, _, hb⟩ := hp.lens l1 l2 l3
      exact ⟨p1, c1, p2, c2, p3, c3, _, he, ⟨l1.symm, l2.symm, l3.symm, o1.toV, o2.toV, o3.toV⟩, rfl, hb⟩
    · exact (step_ref07_ok K S a pt nt ct t p q s n c m d u e L C R W hnt h0 h1 ho hw ha hcc).mono fun e1 w' ⟨p1, c1, p2, c2, p3, c3, he, o1, o2, o3, hb⟩ =>
        ⟨p1, c1, p2, c2, p3, c3, _, _, _, _, _, _, he, ⟨l1.symm, l2.symm, l3.symm, o1.toV, o2.toV, o3.toV⟩, ⟨rfl, rfl, rfl, rfl, rfl, rfl⟩, hb⟩
end Go.Proofs.YtfgoflaeclfggaaDoor
