/- FormsComposes: its walk. -/
import Derived.Test.YtienaogmljlmlaaDoorB6
namespace Go.Proofs.YtienaogmljlmlaaDoor
open Go.RowKit Go.Extern.Stop Go.Stop Go.Extern WordM RuleM NatM

set_option maxRecDepth 100000 in
set_option maxHeartbeats 4000000 in
theorem composes_err (k r k' r' k2 r2 : Int) (p q q2 : Option Addr) (n c m d m2 d2 : Nat) (t u : List Int) (w : World) (A : Nat → Addr) (hr : Roots w A) (hn : n = t.length) (hm : m = u.length) (h : IntV w.heap.size w p c t) (h' : IntV w.heap.size w q d u) (L : List (ByteArray × Int)) (x : Nat) (hc : chkCmp k r t k' r' u = some (L, x)) :
    Calls Tryd.prog 4 #[.agg #[.int .i64 k, .int .i64 r, .slice p n c], .agg #[.int .i64 k', .int .i64 r', .slice q m d], .agg #[.int .i64 k2, .int .i64 r2, .slice q2 m2 d2]] w (Tells (.bool true) w) := by
  have ST := Lib.hid (three_rules w (.int .i64 k) (.int .i64 r) (.slice p n c) (.int .i64 k') (.int .i64 r') (.slice q m d) (.int .i64 k2) (.int .i64 r2) (.slice q2 m2 d2))
  have H := Lib.hid (And.intro hr (And.intro hn (And.intro hm (And.intro h (And.intro h' hc)))))
  clear hr hn hm h h' hc
  go_enter Tryd.func4, Tryd.ntmps4
  go_upto_region 1 with fail
  obtain ⟨w0, hw0⟩ : ∃ w0, w0 = ((w.alloc (.cells #[.int .i64 k, .int .i64 r, .slice p n c] 24)).alloc (.cells #[.int .i64 k', .int .i64 r', .slice q m d] 24)).alloc (.cells #[.int .i64 k2, .int .i64 r2, .slice q2 m2 d2] 24) := ⟨_, rfl⟩
  rw [← hw0]
  obtain ⟨hb0, hE0, hG0, hF0⟩ := ST.out w0 hw0
  have HE := Lib.hid (And.intro hb0 (And.intro hE0 (And.intro hG0 hF0)))
  clear hw0 hE0 hb0 hF0 hG0
  go_wp2_with fail
  refine (awakeF w0 A (H.out.1.below HE.out.1)).mono ?_
  rintro e w1 ⟨rfl, hb1⟩
  have hbw := HE.out.1.trans (hb1.mono HE.out.1.size)
  obtain ⟨_, hc0, hc1, hc2⟩ := (HE.out.2.1.next hb1).facts
  obtain ⟨_, hd0, hd1, hd2⟩ := (HE.out.2.2.1.next hb1).facts
  have H1 := Lib.hid hbw
  clear hb1 hbw
  go_wp2_with fail
  refine (fcompose_err k r k' r' p q n c m d t u w1 A (H.out.1.below H1.out) H.out.2.1 H.out.2.2.1 (H.out.2.2.2.1.next H1.out) (H.out.2.2.2.2.1.next H1.out) L x H.out.2.2.2.2.2).mono ?_
  rintro e w2 ⟨b, rfl, _, hb2⟩
  rw [noRule_eq]
  clear hc0 hc1 hc2 hd0 hd1 hd2
  go_upto_region 4 with fail
  obtain ⟨w3, hw3⟩ : ∃ x, x = w2.alloc (.cells #[.int .i64 0, .int .i64 0, .slice none 0 0] 24) := ⟨_, rfl⟩
  obtain ⟨hb3, hE3⟩ := start_rule w2 _ _ _ w3 hw3
  rw [← hw3]
  obtain ⟨_, hc0, hc1, hc2⟩ := hE3.facts
  have h23 := hb2.trans (hb3.mono hb2.size)
  have H3 := Lib.hid (H1.out.trans (h23.mono H1.out.size))
  clear hw3 hb3 hb2 h23 hE3
  go_wp2_with fail
  go_ret
  exact ⟨rfl, H3.out⟩

def sq3 (i : Nat) : Nat := i * i + i / 3
def WordRel (B : Nat) (w1 : World) (f : Nat → Nat) (K N : Nat) (v9 v10 : Value) (wr : World) : Prop :=
  ∃ (j : Nat) (p : Option Addr) (c : Nat), j ≤ N ∧ v10 = .int .i64 (j : Int) ∧ v9 = .slice p j c ∧ IntO B wr p c (madeW f K j) ∧ Below B w1 wr
set_option maxRecDepth 100000 in
set_option maxHeartbeats 16000000 in
theorem composes_ok (K a b : Nat) (k2 r2 : Int) (p q q2 : Option Addr) (n c m d m2 d2 : Nat) (t u v : List Int) (w : World) (A : Nat → Addr) (hr : Roots w A) (hn : n = t.length) (hm : m = u.length) (hm2 : m2 = v.length) (h : IntV w.heap.size w p c t) (h' : IntV w.heap.size w q d u) (h2 : IntV w.heap.size w q2 d2 v) (ho : OkR K a t) (hu : OkR K b u) (h3 : a + b ≤ 3) :
    Calls Tryd.prog 4 #[.agg #[.int .i64 (K : Int), .int .i64 (a : Int), .slice p n c], .agg #[.int .i64 (K : Int), .int .i64 (b : Int), .slice q m d], .agg #[.int .i64 k2, .int .i64 r2, .slice q2 m2 d2]] w (Tells (.bool true) w) := by
  have ST := Lib.hid (three_rules w (.int .i64 (K : Int)) (.int .i64 (a : Int)) (.slice p n c) (.int .i64 (K : Int)) (.int .i64 (b : Int)) (.slice q m d) (.int .i64 k2) (.int .i64 r2) (.slice q2 m2 d2))
  have hcp := fun W hW hW' => fcompose_ok K a b p q n c m d t u W hn hm hW hW' ho hu h3
  have hok := cmpT_ok ho hu h3
  have hk1 := ho.k1
  have hk4 := ho.k4
  obtain ⟨S, hS⟩ : ∃ S, a + b = S := ⟨_, rfl⟩
  obtain ⟨T, hT⟩ : ∃ T, cmpT K a b t u = T := ⟨_, rfl⟩
  obtain ⟨M, hM⟩ : ∃ M, T.length = M := ⟨_, rfl⟩
  rw [hS] at hok
  rw [hT] at hok
  simp only [hS, hT] at hcp
  have e1 : IntKind.i64.wrap ((a : Int) + (b : Int)) = (S : Int) := by rw [IntWalk.i64_in _ (by omega)]; omega
  have hS3 : S ≤ 3 := by omega
  have H := Lib.hid (And.intro hr (And.intro hn (And.intro hm (And.intro h (And.intro h' (And.intro hm2 (And.intro h2 (And.intro ho (And.intro hu (And.intro h3 (And.intro hcp (And.intro hok (And.intro hS (And.intro hT hM))))))))))))))
  clear hr hn hm h h' hm2 h2 ho hu h3 hcp hok hS hT hM
  go_enter Tryd.func4, Tryd.ntmps4
  go_upto_region 1 with fail
  obtain ⟨w0, hw0⟩ : ∃ w0, w0 = ((w.alloc (.cells #[.int .i64 (K : Int), .int .i64 (a : Int), .slice p n c] 24)).alloc (.cells #[.int .i64 (K : Int), .int .i64 (b : Int), .slice q m d] 24)).alloc (.cells #[.int .i64 k2, .int .i64 r2, .slice q2 m2 d2] 24) := ⟨_, rfl⟩
  rw [← hw0]
  obtain ⟨hb0, hE0, hG0, hF0⟩ := ST.out w0 hw0
  have HE := Lib.hid (And.intro hb0 (And.intro hE0 (And.intro hG0 hF0)))
  clear hw0 hE0 hb0 hF0 hG0
  go_wp2_with fail
  refine (awakeF w0 A (H.out.1.below HE.out.1)).mono ?_
  rintro e w1 ⟨rfl, hb1⟩
  have hbw := HE.out.1.trans (hb1.mono HE.out.1.size)
  obtain ⟨_, hc0, hc1, hc2⟩ := (HE.out.2.1.next hb1).facts
  obtain ⟨_, hd0, hd1, hd2⟩ := (HE.out.2.2.1.next hb1).facts
  have H1 := Lib.hid (And.intro hbw (And.intro (HE.out.2.1.next hb1) (And.intro (HE.out.2.2.1.next hb1) (HE.out.2.2.2.next hb1))))
  clear hb1 hbw
  go_wp2_with fail
  refine (H.out.2.2.2.2.2.2.2.2.2.2.1 w1 (H.out.2.2.2.1.next H1.out.1) (H.out.2.2.2.2.1.next H1.out.1)).mono ?_
  rintro e w2 ⟨p2, c2, rfl, ho2, hb2⟩
  rw [H.out.2.2.2.2.2.2.2.2.2.2.2.2.2.2]
  clear hc0 hc1 hc2 hd0 hd1 hd2
  go_upto_region 4 with fail
  obtain ⟨w3, hw3⟩ : ∃ x, x = w2.alloc (.cells #[.int .i64 (K : Int), .int .i64 (S : Int), .slice p2 M c2] 24) := ⟨_, rfl⟩
  obtain ⟨hb3, hE3⟩ := start_rule w2 (.int .i64 (K : Int)) (.int .i64 (S : Int)) (.slice p2 M c2) w3 hw3
  rw [← hw3]
  have h23 := hb2.trans (hb3.mono hb2.size)
  obtain ⟨hab, hhab⟩ : ∃ x, w2.heap.size = x := ⟨_, rfl⟩
  rw [hhab] at hE3 ⊢
  have H3 := Lib.hid (And.intro (H1.out.1.trans (h23.mono H1.out.1.size)) (And.intro (H1.out.2.1.next h23) (And.intro (H1.out.2.2.1.next h23) (And.intro (H1.out.2.2.2.next h23) (And.intro hE3 (ho2.next hb3).toV)))))
  clear hw3 hb3 hb2 h23 hE3 ho2 hhab
  go_upto_region 8 with fail
  have hbm : Below w3.heap.size w3 (w3.alloc (.cells #[] 3)) := (Below.refl _ _).alloc (Nat.le_refl _) _
  have hom : IntO w3.heap.size (w3.alloc (.cells #[] 3)) (some ⟨w3.heap.size, 0, none⟩) 0 (madeW sq3 K 0) := IntO.of_block (Nat.le_refl _) (by rw [madeW_length]; decide) (heap_newN w3 _)
  have HM := Lib.hid (And.intro hom hbm)
  clear hom hbm
  go_loopw [9, 10] (fun v9 v10 wr => WordRel w3.heap.size w3 sq3 K 40 v9 v10 wr) (fun _ v _ => 40 - (intOf v).toNat)
  case atStart => exact ⟨0, _, 0, Nat.zero_le _, rfl, rfl, HM.out.1, HM.out.2⟩
  case round =>
    obtain ⟨j, p9, c9, hj, rfl, rfl, ho9, hb9⟩ := hrel
    obtain ⟨_, hc0, hc1, hc2⟩ := (H3.out.2.1.next hb9).facts
    by_cases hlt : j < 40
    · have hjj : j * j ≤ 40 * 40 := Nat.mul_le_mul hj hj
      obtain ⟨J, hJ⟩ : ∃ J, j * j = J := ⟨_, rfl⟩
      obtain ⟨Q, hQ⟩ : ∃ Q, j / 3 = Q := ⟨_, rfl⟩
      obtain ⟨Z, hZ⟩ : ∃ Z, J + Q = Z := ⟨_, rfl⟩
      obtain ⟨Y, hY⟩ : ∃ Y, Z % K = Y := ⟨_, rfl⟩
      have hfY : sq3 j % K = Y := by unfold sq3; rw [hJ, hQ, hZ, hY]
      have hQj : Q ≤ j := by rw [← hQ]; exact Nat.div_le_self _ _
      rw [hJ] at hjj
      have hKZ : ¬ (K : Int) = 0 := by omega
      have x1 : IntKind.i64.wrap ((j : Int) * (j : Int)) = (J : Int) := by
        rw [show ((j : Int) * (j : Int)) = (J : Int) by rw [← hJ]; push_cast; rfl, IntWalk.i64_in _ (by omega)]
      have x2 : (j : Int).tdiv 3 = (Q : Int) := by rw [Int.tdiv_eq_ediv_of_nonneg (by omega), ← hQ]; rfl
      have x3 : IntKind.i64.wrap (Q : Int) = (Q : Int) := by rw [IntWalk.i64_in _ (by omega)]
      have x4 : IntKind.i64.wrap ((J : Int) + (Q : Int)) = (Z : Int) := by rw [IntWalk.i64_in _ (by omega)]; omega
      have x5 : (Z : Int).tmod (K : Int) = (Y : Int) := by rw [Int.tmod_eq_emod_of_nonneg (by omega), ← hY]; rfl
      have hdA : Below wr.heap.size wr (wr.alloc (.cells #[.int .i64 (Y : Int)] 3)) := (Below.refl _ _).alloc (Nat.le_refl _) _
      have hblk : (wr.alloc (.cells #[.int .i64 (Y : Int)] 3)).heap[wr.heap.size]? = some (.cells #[.int .i64 (Y : Int)] 3 (0, 0)) := heap_newN wr _
      have hoA : IntO w3.heap.size (wr.alloc (.cells #[.int .i64 (Y : Int)] 3)) p9 c9 (madeW sq3 K j) := ho9.next hdA
      have hsA : w3.heap.size ≤ (wr.alloc (.cells #[.int .i64 (Y : Int)] 3)).heap.size := Nat.le_trans hb9.size hdA.size
      have hnx : madeW sq3 K j ++ [(Y : Int)] = madeW sq3 K (j + 1) := by rw [madeW_succ, hfY]
      have hbA := hb9.trans (hdA.mono hb9.size)
      have hml := madeW_length sq3 K j
      have HT := Lib.hid (And.intro hoA (And.intro hsA (And.intro hblk (And.intro hnx (And.intro hbA (And.intro hml (show (madeW sq3 K j).length ≤ 1000000 by omega)))))))
      clear hjj hJ hQ hZ hY hfY hQj hdA hblk hoA hsA hnx hbA ho9 hml hb9
      go_wp2_with (at_builtin; refine wpList_pushI (by rfl) _ _ (by rfl) w3.heap.size p9 j c9 (madeW sq3 K j) (by rfl) HT.out.2.2.2.2.2.1.symm HT.out.1 HT.out.2.1 wr.heap.size (Y : Int) (by rfl) HT.out.2.2.1 HT.out.2.2.2.2.2.2 ?_; intro p8 c8 w8 ho8 hb8; have HP := Lib.hid (And.intro ho8 (HT.out.2.2.2.2.1.trans hb8)); clear ho8 hb8)
      go_roundw
      case rel => exact ⟨j + 1, p8, c8, by omega, by go_num, rfl, by rw [← HT.out.2.2.2.1]; exact HP.out.1, HP.out.2⟩
      case measure => simp [intOf]; omega
    · obtain rfl : j = 40 := by omega
      have HW := Lib.hid (And.intro ho9 hb9)
      clear ho9 hb9 hc0 hc1 hc2 HM
      obtain ⟨W, hW⟩ : ∃ W, madeW sq3 K 40 = W := ⟨_, rfl⟩
      have hWl : W.length = 40 := by rw [← hW]; exact madeW_length _ _ _
      have hWo : okW K W := by rw [← hW]; exact madeW_ok hk1 _ _
      obtain ⟨X, hX⟩ : ∃ X, imgW K b u W = X := ⟨_, rfl⟩
      have hXo : okW K X := by rw [← hX]; exact imgW_ok H.out.2.2.2.2.2.2.2.2.1 hWo
      have hXl : X.length ≤ 40 := by rw [← hX, imgW_length, hWl]; omega
      obtain ⟨Y, hY⟩ : ∃ Y, imgW K a t X = Y := ⟨_, rfl⟩
      have hZ : imgW K S T W = Y := by
        rw [← H.out.2.2.2.2.2.2.2.2.2.2.2.2.2.1, ← H.out.2.2.2.2.2.2.2.2.2.2.2.2.1, img_cmp H.out.2.2.2.2.2.2.2.2.1 hWo, hX, hY]
      obtain ⟨lx, hlx⟩ : ∃ l, X.length = l := ⟨_, rfl⟩
      obtain ⟨ly, hly⟩ : ∃ l, Y.length = l := ⟨_, rfl⟩
      have hbw : Below w.heap.size w wr := H3.out.1.trans (HW.out.2.mono H3.out.1.size)
      have hpw : IntO w3.heap.size wr p9 c9 W := by have := HW.out.1; rwa [hW] at this
      have HV := Lib.hid (And.intro hWl (And.intro hWo (And.intro hX (And.intro hXo (And.intro hXl (And.intro hY (And.intro hZ (And.intro hlx hly))))))))
      have G0 := Lib.hid (And.intro hbw (And.intro (H3.out.2.1.next HW.out.2) (And.intro (H3.out.2.2.1.next HW.out.2) (And.intro (H3.out.2.2.2.1.next HW.out.2) (And.intro (H3.out.2.2.2.2.1.next HW.out.2) (And.intro (H3.out.2.2.2.2.2.next HW.out.2) hpw.toV))))))
      clear hW hWl hWo hX hXo hXl hY hZ hlx hly hbw hpw HW
      obtain ⟨_, hc0, hc1, hc2⟩ := G0.out.2.2.1.facts
      go_wp2_with fail
      refine (image_ok K b q p9 m d 40 c9 u W wr H.out.2.2.1 HV.out.1.symm (H.out.2.2.2.2.1.next G0.out.1) G0.out.2.2.2.2.2.2 H.out.2.2.2.2.2.2.2.2.1 (by rw [HV.out.1]; omega) HV.out.2.1).mono ?_
      rw [HV.out.2.2.1]
      rintro e x1 ⟨p4, c4, rfl, ho4, hb4⟩
      rw [HV.out.2.2.2.2.2.2.2.1]
      clear hc0 hc1 hc2
      have G1 := Lib.hid (And.intro hb4 ho4.toV)
      clear hb4 ho4
      obtain ⟨_, hc0, hc1, hc2⟩ := (G0.out.2.1.next G1.out.1).facts
      go_wp2_with fail
      refine (image_ok K a p p4 n c lx c4 t X x1 H.out.2.1 HV.out.2.2.2.2.2.2.2.1.symm ((H.out.2.2.2.1.next G0.out.1).next G1.out.1) G1.out.2 H.out.2.2.2.2.2.2.2.1 (by have := HV.out.2.2.2.2.1; omega) HV.out.2.2.2.1).mono ?_
      rw [HV.out.2.2.2.2.2.1]
      rintro e x2 ⟨p5, c5, rfl, ho5, hb5⟩
      rw [HV.out.2.2.2.2.2.2.2.2]
      clear hc0 hc1 hc2
      have G2 := Lib.hid (And.intro (G1.out.1.trans (hb5.mono G1.out.1.size)) ho5.toV)
      clear hb5 ho5
      obtain ⟨_, hc0, hc1, hc2⟩ := (G0.out.2.2.2.2.1.next G2.out.1).facts
      go_wp2_with fail
      refine (image_ok K S p2 p9 M c2 40 c9 T W x2 H.out.2.2.2.2.2.2.2.2.2.2.2.2.2.2.symm HV.out.1.symm (G0.out.2.2.2.2.2.1.next G2.out.1) (G0.out.2.2.2.2.2.2.next G2.out.1) H.out.2.2.2.2.2.2.2.2.2.2.2.1 (by rw [HV.out.1]; omega) HV.out.2.1).mono ?_
      rw [HV.out.2.2.2.2.2.2.1]
      rintro e x3 ⟨p6, c6, rfl, ho6, hb6⟩
      rw [HV.out.2.2.2.2.2.2.2.2]
      clear hc0 hc1 hc2
      have G3 := Lib.hid (And.intro (G2.out.1.trans (hb6.mono G2.out.1.size)) (And.intro (G2.out.2.next hb6) ho6.toV))
      clear hb6 ho6
      go_wp2_with fail
      refine (ints_any p5 p6 ly ly c5 c6 Y Y x3 HV.out.2.2.2.2.2.2.2.2.symm HV.out.2.2.2.2.2.2.2.2.symm G3.out.2.1 G3.out.2.2).mono ?_
      rintro e x4 ⟨rfl, hb7⟩
      rw [sameI_self]
      have h4 := G3.out.1.trans (hb7.mono G3.out.1.size)
      have hw4 := G0.out.1.trans (h4.mono G0.out.1.size)
      have G4 := Lib.hid (And.intro hw4 (And.intro (G0.out.2.1.next h4) (And.intro (G0.out.2.2.1.next h4) (And.intro (G0.out.2.2.2.1.next h4) (And.intro (G0.out.2.2.2.2.1.next h4) (G0.out.2.2.2.2.2.1.next h4))))))
      clear hb7 h4 hw4
      obtain ⟨_, ha0, ha1, ha2⟩ := G4.out.2.1.facts
      obtain ⟨_, hc0, hc1, hc2⟩ := G4.out.2.2.1.facts
      obtain ⟨_, hd0, hd1, hd2⟩ := G4.out.2.2.2.1.facts
      obtain ⟨_, hg0, hg1, hg2⟩ := G4.out.2.2.2.2.1.facts
      cases hcc : chkCmp (K : Int) (b : Int) u k2 r2 v with
      | some yy =>
        obtain ⟨L, x⟩ := yy
        have HC := Lib.hid hcc
        clear hcc
        go_wp2_with fail
        refine (fcompose_err (K : Int) (b : Int) k2 r2 q q2 m d m2 d2 u v x4 A (H.out.1.below G4.out.1) H.out.2.2.1 H.out.2.2.2.2.2.1 (H.out.2.2.2.2.1.next G4.out.1) (H.out.2.2.2.2.2.2.1.next G4.out.1) L x HC.out).mono ?_
        rintro e x5 ⟨b5, rfl, _, hb5⟩
        rw [noRule_eq]
        clear ha0 ha1 ha2 hc0 hc1 hc2 hd0 hd1 hd2 hg0 hg1 hg2
        go_upto_region 17 with fail
        obtain ⟨x6, hx6⟩ : ∃ x, x = x5.alloc (.cells #[.int .i64 0, .int .i64 0, .slice none 0 0] 24) := ⟨_, rfl⟩
        obtain ⟨hb6, _⟩ := start_rule x5 _ _ _ x6 hx6
        rw [← hx6]
        have h56 := hb5.trans (hb6.mono hb5.size)
        have G6 := Lib.hid (G4.out.1.trans (h56.mono G4.out.1.size))
        clear hx6 hb6 hb5 h56
        go_wp2_with fail
        go_ret
        exact ⟨rfl, G6.out⟩
      | none =>
        obtain ⟨K2, b', cc, hKK, hbb, hk2, hr2, hob, hov, hbc⟩ := chkCmp_none hcc
        obtain rfl : K = K2 := by omega
        obtain rfl : b = b' := by omega
        subst hk2 hr2
        have hc3 := hov.r3
        have hcp := fun W hW hW' => fcompose_ok K b cc q q2 m d m2 d2 u v W H.out.2.2.1 H.out.2.2.2.2.2.1 hW hW' hob hov hbc
        have hBCok := cmpT_ok hob hov hbc
        obtain ⟨S2, hS2⟩ : ∃ s, b + cc = s := ⟨_, rfl⟩
        obtain ⟨BC, hBC⟩ : ∃ x, cmpT K b cc u v = x := ⟨_, rfl⟩
        obtain ⟨M2, hM2⟩ : ∃ x, BC.length = x := ⟨_, rfl⟩
        rw [hS2, hBC] at hBCok
        simp only [hS2, hBC] at hcp
        have e2 : IntKind.i64.wrap ((S : Int) + (cc : Int)) = ((S : Int) + (cc : Int)) := by rw [IntWalk.i64_in _ (by omega)]
        have HC := Lib.hid (And.intro hob (And.intro hov (And.intro hcp (And.intro hBCok (And.intro hS2 (And.intro hBC hM2))))))
        clear hcc hKK hbb hob hov hcp hBCok hBC hM2 hbc
        go_wp2_with fail
        refine (HC.out.2.2.1 x4 (H.out.2.2.2.2.1.next G4.out.1) (H.out.2.2.2.2.2.2.1.next G4.out.1)).mono ?_
        rintro e x5 ⟨p7, c7, rfl, ho7, hb5⟩
        rw [HC.out.2.2.2.2.2.2]
        clear ha0 ha1 ha2 hc0 hc1 hc2 hd0 hd1 hd2 hg0 hg1 hg2
        go_upto_region 17 with fail
        obtain ⟨x6, hx6⟩ : ∃ x, x = x5.alloc (.cells #[.int .i64 (K : Int), .int .i64 (S2 : Int), .slice p7 M2 c7] 24) := ⟨_, rfl⟩
        obtain ⟨hb6, hE6⟩ := start_rule x5 (.int .i64 (K : Int)) (.int .i64 (S2 : Int)) (.slice p7 M2 c7) x6 hx6
        rw [← hx6]
        obtain ⟨hbc, hhbc⟩ : ∃ x, x5.heap.size = x := ⟨_, rfl⟩
        rw [hhbc] at hE6 ⊢
        have h56 := hb5.trans (hb6.mono hb5.size)
        have hw6 := G4.out.1.trans (h56.mono G4.out.1.size)
        have G6 := Lib.hid (And.intro hw6 (And.intro (G4.out.2.1.next h56) (And.intro (G4.out.2.2.2.1.next h56) (And.intro (G4.out.2.2.2.2.1.next h56) (And.intro (G4.out.2.2.2.2.2.next h56) (And.intro hE6 (ho7.next hb6).toV))))))
        clear hx6 hb6 hb5 h56 hE6 hw6 ho7 hhbc
        obtain ⟨_, ha0, ha1, ha2⟩ := G6.out.2.1.facts
        obtain ⟨_, hd0, hd1, hd2⟩ := G6.out.2.2.1.facts
        obtain ⟨_, hg0, hg1, hg2⟩ := G6.out.2.2.2.1.facts
        obtain ⟨_, hi0, hi1, hi2⟩ := G6.out.2.2.2.2.2.1.facts
        by_cases hgt : (3 : Int) < (S : Int) + (cc : Int)
        · go_wp2_with fail
          go_ret
          exact ⟨rfl, G6.out.1⟩
        · have hle : S + cc ≤ 3 := by omega
          have hle2 : a + S2 ≤ 3 := by have := H.out.2.2.2.2.2.2.2.2.2.2.2.2.1; omega
          have hcl := fun W hW hW' => fcompose_ok K S cc p2 q2 M c2 m2 d2 T v W H.out.2.2.2.2.2.2.2.2.2.2.2.2.2.2.symm H.out.2.2.2.2.2.1 hW hW' H.out.2.2.2.2.2.2.2.2.2.2.2.1 HC.out.2.1 hle
          have hcr := fun W hW hW' => fcompose_ok K a S2 p p7 n c M2 c7 t BC W H.out.2.1 HC.out.2.2.2.2.2.2.symm hW hW' H.out.2.2.2.2.2.2.2.1 HC.out.2.2.2.1 hle2
          have has : cmpT K S cc T v = cmpT K a S2 t BC := by
            rw [← H.out.2.2.2.2.2.2.2.2.2.2.2.2.2.1, ← H.out.2.2.2.2.2.2.2.2.2.2.2.2.1, ← HC.out.2.2.2.2.2.1, ← HC.out.2.2.2.2.1]
            exact cmp_assoc H.out.2.2.2.2.2.2.2.1 HC.out.1 HC.out.2.1 (by have := H.out.2.2.2.2.2.2.2.2.2.2.2.2.1; omega)
          have hss : a + S2 = S + cc := by have := H.out.2.2.2.2.2.2.2.2.2.2.2.2.1; have := HC.out.2.2.2.2.1; omega
          rw [hss] at hcr
          obtain ⟨N, hN⟩ : ∃ x, S + cc = x := ⟨_, rfl⟩
          obtain ⟨LT, hLT⟩ : ∃ x, cmpT K a S2 t BC = x := ⟨_, rfl⟩
          obtain ⟨ML, hML⟩ : ∃ x, LT.length = x := ⟨_, rfl⟩
          rw [has] at hcl
          rw [hLT] at hcl hcr
          rw [hN] at hcl hcr
          have HL := Lib.hid (And.intro hcl (And.intro hcr hML))
          clear hcl hcr hML hLT hN hss has hle hle2
          go_wp2_with fail
          refine (HL.out.1 x6 G6.out.2.2.2.2.1 (H.out.2.2.2.2.2.2.1.next G6.out.1)).mono ?_
          rintro e x7 ⟨p8, c8, rfl, ho8, hb7⟩
          rw [HL.out.2.2]
          clear ha0 ha1 ha2 hd0 hd1 hd2 hg0 hg1 hg2 hi0 hi1 hi2
          go_upto_region 20 with fail
          obtain ⟨x8, hx8⟩ : ∃ x, x = x7.alloc (.cells #[.int .i64 (K : Int), .int .i64 (N : Int), .slice p8 ML c8] 24) := ⟨_, rfl⟩
          obtain ⟨hb8, hE8⟩ := start_rule x7 (.int .i64 (K : Int)) (.int .i64 (N : Int)) (.slice p8 ML c8) x8 hx8
          rw [← hx8]
          obtain ⟨hlf, hhlf⟩ : ∃ x, x7.heap.size = x := ⟨_, rfl⟩
          rw [hhlf] at hE8 ⊢
          have h78 := hb7.trans (hb8.mono hb7.size)
          have hw8 := G6.out.1.trans (h78.mono G6.out.1.size)
          have G8 := Lib.hid (And.intro hw8 (And.intro (G6.out.2.1.next h78) (And.intro (G6.out.2.2.2.2.2.1.next h78) (And.intro (G6.out.2.2.2.2.2.2.next h78) (And.intro hE8 (ho8.next hb8).toV)))))
          clear hx8 hb8 hb7 h78 hE8 hw8 ho8 hhlf
          obtain ⟨_, ha0, ha1, ha2⟩ := G8.out.2.1.facts
          obtain ⟨_, hi0, hi1, hi2⟩ := G8.out.2.2.1.facts
          go_wp2_with fail
          refine (HL.out.2.1 x8 (H.out.2.2.2.1.next G8.out.1) G8.out.2.2.2.1).mono ?_
          rintro e y1 ⟨pa, ca, rfl, hoa, hba⟩
          rw [HL.out.2.2]
          clear ha0 ha1 ha2 hi0 hi1 hi2
          go_upto_region 21 with fail
          obtain ⟨y2, hy2⟩ : ∃ x, x = y1.alloc (.cells #[.int .i64 (K : Int), .int .i64 (N : Int), .slice pa ML ca] 24) := ⟨_, rfl⟩
          obtain ⟨hby, hEy⟩ := start_rule y1 (.int .i64 (K : Int)) (.int .i64 (N : Int)) (.slice pa ML ca) y2 hy2
          rw [← hy2]
          have hyy := hba.trans (hby.mono hba.size)
          have hwy := G8.out.1.trans (hyy.mono G8.out.1.size)
          obtain ⟨_, ha0, ha1, ha2⟩ := hEy.facts
          obtain ⟨_, hi0, hi1, hi2⟩ := (G8.out.2.2.2.2.1.next hyy).facts
          have G9 := Lib.hid (And.intro hwy (And.intro (G8.out.2.2.2.2.2.next hyy) (hoa.next hby).toV))
          clear hy2 hby hEy hyy hwy hoa hba
          go_wp2_with fail
          refine (rules_same (K : Int) (N : Int) p8 pa ML c8 ca LT y2 HL.out.2.2.symm G9.out.2.1 G9.out.2.2).mono ?_
          rintro e y3 ⟨rfl, hb9⟩
          have GZ := Lib.hid (G9.out.1.trans (hb9.mono G9.out.1.size))
          clear hb9
          go_wp2_with fail
          go_ret
          exact ⟨rfl, GZ.out⟩
end Go.Proofs.YtienaogmljlmlaaDoor
