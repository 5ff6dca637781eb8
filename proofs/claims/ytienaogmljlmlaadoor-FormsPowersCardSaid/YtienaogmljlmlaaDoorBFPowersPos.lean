/- FormsPowers: its walk where the radius is not 0. -/
import Derived.Test.YtienaogmljlmlaaDoorB6
import Derived.Test.YtienaogmljlmlaaDoorBFormQ
namespace Go.Proofs.YtienaogmljlmlaaDoor
open Go.RowKit Go.Extern.Stop Go.Stop Go.Extern WordM RuleM NatM

/-- where Power refuses -/
def chkPow (k r : Int) (t : List Int) (d : Int) : Option (List (ByteArray × Int) × Nat) := match chkR k r t with
  | some i => some ([(formsOp, 0), (ruleOp, (i : Int))], 1)
  | none => if d < 0 then some ([(formsOp, 0)], 3) else if 3 < r.toNat * d.toNat then some ([(formsOp, 0)], 4) else none
theorem chkPow_none {k r d : Int} {t : List Int} (h : chkPow k r t d = none) : ∃ K R N : Nat, k = K ∧ r = R ∧ d = N ∧ OkR K R t ∧ R * N ≤ 3 := by
  unfold chkPow at h
  cases hk : chkR k r t with
  | some i => rw [hk] at h; cases h
  | none =>
    rw [hk] at h
    obtain ⟨K, R, rfl, rfl, ho⟩ := chkR_none hk
    by_cases h1 : d < 0
    · simp [h1] at h
    · obtain ⟨N, rfl⟩ : ∃ N : Nat, d = N := ⟨d.toNat, by omega⟩
      simp only [] at h
      rw [if_neg (by omega), Int.toNat_natCast, Int.toNat_natCast] at h
      by_cases h2 : 3 < R * N
      · rw [if_pos h2] at h; cases h
      · exact ⟨K, R, N, rfl, rfl, rfl, ho, by omega⟩
theorem fpow_err (k r d : Int) (p : Option Addr) (n c : Nat) (t : List Int) (w : World) (A : Nat → Addr) (hr : Roots w A) (hn : n = t.length) (h : IntV w.heap.size w p c t) (L : List (ByteArray × Int)) (x : Nat) (hc : chkPow k r t d = some (L, x)) :
    Calls Tryd.prog 15 #[.agg #[.int .i64 k, .int .i64 r, .slice p n c], .int .i64 d] w (FErr2 w A L x noRule) := by
  unfold chkPow at hc
  cases hk : chkR k r t with
  | some i =>
    rw [hk] at hc
    obtain ⟨rfl, rfl⟩ := Prod.mk.inj (Option.some.inj hc)
    exact fpow_bad k r d p n c t w A hr hn h i hk
  | none =>
    rw [hk] at hc
    obtain ⟨K, R, rfl, rfl, ho⟩ := chkR_none hk
    by_cases h1 : d < 0
    · simp [h1] at hc
      obtain ⟨rfl, rfl⟩ := hc
      exact fpow_arg K R d p n c t w A hr hn h ho h1
    · obtain ⟨N, rfl⟩ : ∃ N : Nat, d = N := ⟨d.toNat, by omega⟩
      simp only [] at hc
      rw [if_neg (by omega), Int.toNat_natCast, Int.toNat_natCast] at hc
      by_cases h2 : 3 < R * N
      · rw [if_pos h2] at hc
        obtain ⟨rfl, rfl⟩ := Prod.mk.inj (Option.some.inj hc)
        exact fpow_big K R N p n c t w A hr hn h ho h2
      · rw [if_neg h2] at hc; cases hc

set_option maxRecDepth 100000 in
set_option maxHeartbeats 4000000 in
theorem powers_err (k r s d : Int) (p : Option Addr) (n c : Nat) (t : List Int) (w : World) (A : Nat → Addr) (hr : Roots w A) (hn : n = t.length) (h : IntV w.heap.size w p c t) (L : List (ByteArray × Int)) (x : Nat) (hc : chkPow k r t d = some (L, x)) :
    Calls Tryd.prog 5 #[.agg #[.int .i64 k, .int .i64 r, .slice p n c], .int .i64 s, .int .i64 d] w (Tells (.bool true) w) := by
  have ST := Lib.hid (start_rule w (.int .i64 k) (.int .i64 r) (.slice p n c))
  have H := Lib.hid (And.intro hr (And.intro hn (And.intro h hc)))
  clear hr hn h hc
  go_enter Tryd.func5, Tryd.ntmps5
  go_upto_region 1 with fail
  obtain ⟨w0, hw0⟩ : ∃ w0, w0 = w.alloc (.cells #[.int .i64 k, .int .i64 r, .slice p n c] 24) := ⟨_, rfl⟩
  rw [← hw0]
  obtain ⟨hb0, hE0⟩ := ST.out w0 hw0
  have HE := Lib.hid (And.intro hE0 hb0)
  clear hw0 hE0 hb0
  go_wp2_with fail
  refine (awakeF w0 A (H.out.1.below HE.out.2)).mono ?_
  rintro e w1 ⟨rfl, hb1⟩
  have hbw := HE.out.2.trans (hb1.mono HE.out.2.size)
  obtain ⟨_, hc0, hc1, hc2⟩ := (HE.out.1.next hb1).facts
  have H1 := Lib.hid hbw
  clear hb1 hbw
  go_wp2_with fail
  refine (fpow_err k r d p n c t w1 A (H.out.1.below H1.out) H.out.2.1 (H.out.2.2.1.next H1.out) L x H.out.2.2.2).mono ?_
  rintro e w2 ⟨b, rfl, _, hb2⟩
  rw [noRule_eq]
  clear hc0 hc1 hc2
  go_upto_region 4 with fail
  obtain ⟨w3, hw3⟩ : ∃ x, x = w2.alloc (.cells #[.int .i64 0, .int .i64 0, .slice none 0 0] 24) := ⟨_, rfl⟩
  obtain ⟨hb3, hE3⟩ := start_rule w2 _ _ _ w3 hw3
  rw [← hw3]
  obtain ⟨_, hc0, hc1, hc2⟩ := hE3.facts
  have h23 := hb2.trans (hb3.mono hb2.size)
  have H3 := Lib.hid (H1.out.trans (h23.mono H1.out.size))
  clear hw3 hb3 hb2 h23 hE3
  go_wp2_with fail
  go_ret
  exact ⟨rfl, H3.out⟩

theorem halves {s : Int} (h1 : -9223372036854775808 ≤ s) (h2 : s ≤ 9223372036854775807) : -4611686018427387905 ≤ s.tdiv 2 ∧ s.tdiv 2 ≤ 4611686018427387903 ∧ -1 ≤ s.tmod 2 ∧ s.tmod 2 ≤ 1 ∧ (s.tdiv 2 + s.tmod 2) ≤ 4611686018427387904 := by
  rcases (by omega : 0 ≤ s ∨ s < 0) with h | h
  · rw [Int.tdiv_eq_ediv_of_nonneg h, Int.tmod_eq_emod_of_nonneg h]; omega
  · obtain ⟨m, rfl⟩ : ∃ m : Int, s = -m := ⟨-s, by omega⟩
    rw [Int.neg_tdiv, Int.neg_tmod, Int.tdiv_eq_ediv_of_nonneg (by omega), Int.tmod_eq_emod_of_nonneg (by omega)]; omega
def sq2 (i : Nat) : Nat := i * i / 2 + i
def WordRel2 (B : Nat) (w1 : World) (f : Nat → Nat) (K N : Nat) (v9 v10 : Value) (wr : World) : Prop :=
  ∃ (j : Nat) (p : Option Addr) (c : Nat), j ≤ N ∧ v10 = .int .i64 (j : Int) ∧ v9 = .slice p j c ∧ IntO B wr p c (madeW f K j) ∧ Below B w1 wr
def FPRel (w1 : World) (K R : Nat) (t W : List Int) (N : Nat) (v13 v14 : Value) (wr : World) : Prop :=
  ∃ (j : Nat) (p : Option Addr) (l c : Nat), j ≤ N ∧ v14 = .int .i64 (j : Int) ∧ v13 = .slice p l c ∧ l = (imgN K R t W j).length ∧ IntV wr.heap.size wr p c (imgN K R t W j) ∧ Below w1.heap.size w1 wr
set_option maxRecDepth 100000 in
set_option maxHeartbeats 32000000 in
theorem powers_pos (K R N : Nat) (s : Int) (p : Option Addr) (n c : Nat) (t : List Int) (w : World) (A : Nat → Addr) (hr : Roots w A) (hn : n = t.length) (h : IntV w.heap.size w p c t) (ho : OkR K R t) (hN : N ≤ 9223372036854775807) (h3 : R * N ≤ 3) (hs1 : -9223372036854775808 ≤ s) (hs2 : s ≤ 9223372036854775807) (hR : 0 < R) :
    Calls Tryd.prog 5 #[.agg #[.int .i64 (K : Int), .int .i64 (R : Int), .slice p n c], .int .i64 s, .int .i64 (N : Int)] w (Tells (.bool true) w) := by
  have ST := Lib.hid (start_rule w (.int .i64 (K : Int)) (.int .i64 (R : Int)) (.slice p n c))
  have hk1 := ho.k1
  have hk4 := ho.k4
  have hPok := powT_ok ho N h3
  have hip := fun (W : List Int) hW => img_pow (w := W) ho hW N h3
  have hpw := fun W hW => fpow_ok K R N p n c t W hn hW ho hN h3
  obtain ⟨S, hS⟩ : ∃ S, R * N = S := ⟨_, rfl⟩
  obtain ⟨P, hP⟩ : ∃ P, powT K R t N = P := ⟨_, rfl⟩
  obtain ⟨lP, hlP⟩ : ∃ l, P.length = l := ⟨_, rfl⟩
  rw [hS, hP] at hPok
  simp only [hS, hP] at hpw hip
  have hS3 : S ≤ 3 := by omega
  -- the shifts
  obtain ⟨dd, hdd⟩ : ∃ d, N % 2 = d := ⟨_, rfl⟩
  have hdd1 : dd ≤ 1 := by omega
  have hsa := fun W => fshift_ok K (dd : Int) W hk1 hk4 (by omega) (by omega)
  have hsb := fun W => fshift_ok K (-(dd : Int)) W hk1 hk4 (by omega) (by omega)
  have hsn := fun W => fshift_ok K 0 W hk1 hk4 (by omega) (by omega)
  have hoa : OkR K dd (shiT K (dd : Int)) := by have := shiT_ok (d := (dd : Int)) hk1 hk4 (by omega); rwa [show ((dd : Int)).natAbs = dd by omega] at this
  have hob : OkR K dd (shiT K (-(dd : Int))) := by have := shiT_ok (d := -(dd : Int)) hk1 hk4 (by omega); rwa [show (-(dd : Int)).natAbs = dd by omega] at this
  have hon : OkR K 0 (shiT K 0) := shiT_ok (d := 0) hk1 hk4 (by decide)
  have hnar := shift_back hk1 hk4 hdd1
  have hcok := cmpT_ok hoa hob (by omega)
  rw [show ((dd : Int)).natAbs = dd by omega] at hsa
  rw [show (-(dd : Int)).natAbs = dd by omega] at hsb
  rw [show (0 : Int).natAbs = 0 by rfl] at hsn
  have hcc := fun W pa ca pb cb hA hB => fcompose_ok K dd dd pa pb (shiT K (dd : Int)).length ca (shiT K (-(dd : Int))).length cb _ _ W rfl rfl hA hB hoa hob (by omega)
  obtain ⟨SA, hSA⟩ : ∃ x, shiT K (dd : Int) = x := ⟨_, rfl⟩
  obtain ⟨SB, hSB⟩ : ∃ x, shiT K (-(dd : Int)) = x := ⟨_, rfl⟩
  obtain ⟨SN, hSN⟩ : ∃ x, shiT K 0 = x := ⟨_, rfl⟩
  rw [hSA, hSB] at hcok hnar
  simp only [hSA, hSB] at hcc
  rw [hSA] at hsa
  rw [hSB] at hsb
  rw [hSN] at hsn hnar hon
  obtain ⟨CB, hCB⟩ : ∃ x, cmpT K dd dd SA SB = x := ⟨_, rfl⟩
  obtain ⟨d2, hd2⟩ : ∃ x, dd + dd = x := ⟨_, rfl⟩
  rw [hCB, hd2] at hcok hnar
  simp only [hCB, hd2] at hcc
  obtain ⟨ls, hls⟩ : ∃ x, SA.length = x := ⟨_, rfl⟩
  obtain ⟨ls2, hls2⟩ : ∃ x, SB.length = x := ⟨_, rfl⟩
  obtain ⟨ls3, hls3⟩ : ∃ x, SN.length = x := ⟨_, rfl⟩
  obtain ⟨ls4, hls4⟩ : ∃ x, CB.length = x := ⟨_, rfl⟩
  simp only [hls, hls2] at hcc
  have HS := Lib.hid (And.intro hsa (And.intro hsb (And.intro hsn (And.intro hcc (And.intro hls (And.intro hls2 (And.intro hls3 (And.intro hls4 (And.intro hcok (And.intro hon hnar))))))))))
  have tm1 : (N : Int).tmod 2 = (dd : Int) := by rw [Int.tmod_eq_emod_of_nonneg (by omega)]; omega
  have wm1 : IntKind.i64.wrap ((dd : Int) + 2) = ((dd + 2 : Nat) : Int) := by rw [IntWalk.i64_in _ (by omega)]; omega
  obtain ⟨de, hde⟩ : ∃ x, dd + 2 = x := ⟨_, rfl⟩
  rw [hde] at wm1
  have tm2 : (de : Int).tmod 2 = (dd : Int) := by rw [Int.tmod_eq_emod_of_nonneg (by omega)]; omega
  have wm3 : IntKind.i64.wrap ((dd : Int)) = (dd : Int) := by rw [IntWalk.i64_in _ (by omega)]
  have wm4 : IntKind.i64.wrap (-(dd : Int)) = -(dd : Int) := by rw [IntWalk.i64_in _ (by omega)]
  clear hsa hsb hsn hcc hls hls2 hls3 hls4 hcok hon hnar hoa hob hSA hSB hSN hCB hd2 hdd
  -- the halves of s
  have ts1 := halves hs1 hs2
  have hN3 : N ≤ 3 := Nat.le_trans (Nat.le_mul_of_pos_left N hR) h3
  have hRpos : (0 : Int) < (R : Int) := by omega
  have hRne : ¬ (R : Int) = 0 := by omega
  have wRN : IntKind.i64.wrap ((R : Int) * (N : Int)) = (S : Int) := by
    rw [show ((R : Int) * (N : Int)) = (S : Int) by rw [← hS]; push_cast; rfl, IntWalk.i64_in _ (by omega)]
  have hR3 := ho.r3
  obtain ⟨s1, hs1'⟩ : ∃ x, s.tdiv 2 = x := ⟨_, rfl⟩
  obtain ⟨s2, hs2'⟩ : ∃ x, s.tmod 2 = x := ⟨_, rfl⟩
  rw [hs1', hs2'] at ts1
  have ws1 : IntKind.i64.wrap s1 = s1 := by rw [IntWalk.i64_in _ (by omega)]
  have ws2 : IntKind.i64.wrap (s1 + s2) = s1 + s2 := by rw [IntWalk.i64_in _ (by omega)]
  clear ts1
  have H := Lib.hid (And.intro hr (And.intro hn (And.intro h (And.intro ho (And.intro hPok (And.intro hpw (And.intro hlP (And.intro hip (And.intro hS hP)))))))))
  clear hS hr hn h ho hPok hpw hlP hip hP h3 hN
  go_enter Tryd.func5, Tryd.ntmps5
  go_upto_region 1 with fail
  obtain ⟨w0, hw0⟩ : ∃ w0, w0 = w.alloc (.cells #[.int .i64 (K : Int), .int .i64 (R : Int), .slice p n c] 24) := ⟨_, rfl⟩
  rw [← hw0]
  obtain ⟨hb0, hE0⟩ := ST.out w0 hw0
  have HE := Lib.hid (And.intro hE0 hb0)
  clear hw0 hE0 hb0
  go_wp2_with fail
  refine (awakeF w0 A (H.out.1.below HE.out.2)).mono ?_
  rintro e w1 ⟨rfl, hb1⟩
  have H1 := Lib.hid (And.intro (HE.out.1.next hb1) (HE.out.2.trans (hb1.mono HE.out.2.size)))
  clear hb1
  obtain ⟨_, hc0, hc1, hc2⟩ := H1.out.1.facts
  go_wp2_with fail
  refine (H.out.2.2.2.2.2.1 w1 (H.out.2.2.1.next H1.out.2)).mono ?_
  rintro e w2 ⟨p2, c2, rfl, ho2, hb2⟩
  rw [H.out.2.2.2.2.2.2.1]
  clear hc0 hc1 hc2
  go_upto_region 4 with fail
  obtain ⟨w3, hw3⟩ : ∃ x, x = w2.alloc (.cells #[.int .i64 (K : Int), .int .i64 (S : Int), .slice p2 lP c2] 24) := ⟨_, rfl⟩
  obtain ⟨hb3, hE3⟩ := start_rule w2 (.int .i64 (K : Int)) (.int .i64 (S : Int)) (.slice p2 lP c2) w3 hw3
  rw [← hw3]
  have h23 := hb2.trans (hb3.mono hb2.size)
  obtain ⟨hab, hhab⟩ : ∃ x, w2.heap.size = x := ⟨_, rfl⟩
  rw [hhab] at hE3 ⊢
  have H3 := Lib.hid (And.intro (H1.out.2.trans (h23.mono H1.out.2.size)) (And.intro (H1.out.1.next h23) (And.intro hE3 (ho2.next hb3).toV)))
  clear hw3 hb3 hb2 h23 hE3 ho2 hhab
  go_upto_region 8 with fail
  have hbm : Below w3.heap.size w3 (w3.alloc (.cells #[] 3)) := (Below.refl _ _).alloc (Nat.le_refl _) _
  have hom : IntO w3.heap.size (w3.alloc (.cells #[] 3)) (some ⟨w3.heap.size, 0, none⟩) 0 (madeW sq2 K 0) := IntO.of_block (Nat.le_refl _) (by rw [madeW_length]; decide) (heap_newN w3 _)
  have HM := Lib.hid (And.intro hom hbm)
  clear hom hbm
  go_loopw [9, 10] (fun v9 v10 wr => WordRel2 w3.heap.size w3 sq2 K 30 v9 v10 wr) (fun _ v _ => 30 - (intOf v).toNat)
  case atStart => exact ⟨0, _, 0, Nat.zero_le _, rfl, rfl, HM.out.1, HM.out.2⟩
  case round =>
    obtain ⟨j, p9, c9, hj, rfl, rfl, ho9, hb9⟩ := hrel
    obtain ⟨_, hc0, hc1, hc2⟩ := (H3.out.2.1.next hb9).facts
    by_cases hlt : j < 30
    · have hjj : j * j ≤ 30 * 30 := Nat.mul_le_mul hj hj
      obtain ⟨J, hJ⟩ : ∃ J, j * j = J := ⟨_, rfl⟩
      obtain ⟨Q, hQ⟩ : ∃ Q, J / 2 = Q := ⟨_, rfl⟩
      obtain ⟨Z, hZ⟩ : ∃ Z, Q + j = Z := ⟨_, rfl⟩
      obtain ⟨Y, hY⟩ : ∃ Y, Z % K = Y := ⟨_, rfl⟩
      have hfY : sq2 j % K = Y := by unfold sq2; rw [hJ, hQ, hZ, hY]
      have hQj : Q ≤ J := by rw [← hQ]; exact Nat.div_le_self _ _
      rw [hJ] at hjj
      have hKZ : ¬ (K : Int) = 0 := by omega
      have x1 : IntKind.i64.wrap ((j : Int) * (j : Int)) = (J : Int) := by
        rw [show ((j : Int) * (j : Int)) = (J : Int) by rw [← hJ]; push_cast; rfl, IntWalk.i64_in _ (by omega)]
      have x2 : (J : Int).tdiv 2 = (Q : Int) := by rw [Int.tdiv_eq_ediv_of_nonneg (by omega), ← hQ]; rfl
      have x3 : IntKind.i64.wrap (Q : Int) = (Q : Int) := by rw [IntWalk.i64_in _ (by omega)]
      have x4 : IntKind.i64.wrap ((Q : Int) + (j : Int)) = (Z : Int) := by rw [IntWalk.i64_in _ (by omega)]; omega
      have x5 : (Z : Int).tmod (K : Int) = (Y : Int) := by rw [Int.tmod_eq_emod_of_nonneg (by omega), ← hY]; rfl
      have hdA : Below wr.heap.size wr (wr.alloc (.cells #[.int .i64 (Y : Int)] 3)) := (Below.refl _ _).alloc (Nat.le_refl _) _
      have hblk : (wr.alloc (.cells #[.int .i64 (Y : Int)] 3)).heap[wr.heap.size]? = some (.cells #[.int .i64 (Y : Int)] 3 (0, 0)) := heap_newN wr _
      have hoA : IntO w3.heap.size (wr.alloc (.cells #[.int .i64 (Y : Int)] 3)) p9 c9 (madeW sq2 K j) := ho9.next hdA
      have hsA : w3.heap.size ≤ (wr.alloc (.cells #[.int .i64 (Y : Int)] 3)).heap.size := Nat.le_trans hb9.size hdA.size
      have hnx : madeW sq2 K j ++ [(Y : Int)] = madeW sq2 K (j + 1) := by rw [madeW_succ, hfY]
      have hbA := hb9.trans (hdA.mono hb9.size)
      have hml := madeW_length sq2 K j
      have HT := Lib.hid (And.intro hoA (And.intro hsA (And.intro hblk (And.intro hnx (And.intro hbA (And.intro hml (show (madeW sq2 K j).length ≤ 1000000 by omega)))))))
      clear hjj hJ hQ hZ hY hfY hQj hdA hblk hoA hsA hnx hbA ho9 hml hb9
      go_wp2_with (at_builtin; refine wpList_pushI (by rfl) _ _ (by rfl) w3.heap.size p9 j c9 (madeW sq2 K j) (by rfl) HT.out.2.2.2.2.2.1.symm HT.out.1 HT.out.2.1 wr.heap.size (Y : Int) (by rfl) HT.out.2.2.1 HT.out.2.2.2.2.2.2 ?_; intro p8 c8 w8 ho8 hb8; have HP := Lib.hid (And.intro ho8 (HT.out.2.2.2.2.1.trans hb8)); clear ho8 hb8)
      go_roundw
      case rel => exact ⟨j + 1, p8, c8, by omega, by go_num, rfl, by rw [← HT.out.2.2.2.1]; exact HP.out.1, HP.out.2⟩
      case measure => simp [intOf]; omega
    · obtain rfl : j = 30 := by omega
      have HW := Lib.hid (And.intro ho9 hb9)
      clear ho9 hb9 hc0 hc1 hc2 HM
      obtain ⟨W, hW⟩ : ∃ W, madeW sq2 K 30 = W := ⟨_, rfl⟩
      have hWl : W.length = 30 := by rw [← hW]; exact madeW_length _ _ _
      have hWo : okW K W := by rw [← hW]; exact madeW_ok hk1 _ _
      have hX := H.out.2.2.2.2.2.2.2.1 W hWo
      obtain ⟨X, hXN⟩ : ∃ X, imgN K R t W N = X := ⟨_, rfl⟩
      rw [hXN] at hX
      obtain ⟨lx, hlx⟩ : ∃ l, X.length = l := ⟨_, rfl⟩
      have hbw : Below w.heap.size w wr := H3.out.1.trans (HW.out.2.mono H3.out.1.size)
      have hpw : IntO w3.heap.size wr p9 c9 W := by have := HW.out.1; rwa [hW] at this
      have HV := Lib.hid (And.intro hWl (And.intro hWo (And.intro hX (And.intro hXN hlx))))
      have G0 := Lib.hid (And.intro hbw (And.intro (H3.out.2.1.next HW.out.2) (And.intro (H3.out.2.2.1.next HW.out.2) (And.intro (H3.out.2.2.2.next HW.out.2) hpw.toV))))
      clear hW hWl hWo hX hXN hlx hbw hpw HW
      obtain ⟨_, hc0, hc1, hc2⟩ := G0.out.2.2.1.facts
      go_wp2_with fail
      refine (image_ok K S p2 p9 lP c2 30 c9 P W wr H.out.2.2.2.2.2.2.1.symm HV.out.1.symm G0.out.2.2.2.1 G0.out.2.2.2.2 H.out.2.2.2.2.1 (by rw [HV.out.1]; omega) HV.out.2.1).mono ?_
      rw [HV.out.2.2.1]
      rintro e x1 ⟨p4, c4, rfl, ho4, hb4⟩
      rw [HV.out.2.2.2.2]
      clear hc0 hc1 hc2
      have G1 := Lib.hid (And.intro hb4 ho4.toV)
      have E1 := Lib.hid (And.intro (G0.out.2.1.next hb4) (And.intro (G0.out.2.2.1.next hb4) (G0.out.1.trans (hb4.mono G0.out.1.size))))
      clear hb4 ho4
      go_upto_region 14 with fail
      go_loopw [13, 14] (fun v13 v14 wq => FPRel x1 K R t W N v13 v14 wq) (fun _ v _ => N - (intOf v).toNat)
      case atStart => exact ⟨0, p9, 30, c9, Nat.zero_le _, rfl, rfl, HV.out.1.symm, G0.out.2.2.2.2.next G1.out.1, Below.refl _ _⟩
      case round =>
        obtain ⟨i, pi, li, ci, hi, rfl, rfl, hli, hvi, hbi⟩ := hrel
        obtain ⟨_, hc0, hc1, hc2⟩ := (E1.out.1.next hbi).facts
        by_cases hlt2 : i < N
        · have hio := imgN_ok H.out.2.2.2.1 HV.out.2.1 i
          have hil : (imgN K R t W i).length ≤ 30 := by rw [imgN_length, HV.out.1]; omega
          have him := image_ok K R p pi n c li ci t (imgN K R t W i) wr H.out.2.1 hli ((H.out.2.2.1.next E1.out.2.2).next hbi) hvi H.out.2.2.2.1 (by omega) hio
          obtain ⟨lj, hlj⟩ : ∃ l, (imgN K R t W (i + 1)).length = l := ⟨_, rfl⟩
          have HI := Lib.hid (And.intro him (And.intro hbi hlj))
          clear hio hil him hvi hbi hli hlj
          go_wp2_with fail
          refine HI.out.1.mono ?_
          show ∀ e w', ImgPost wr (imgN K R t W (i + 1)) true e w' → _
          rintro e xq ⟨pq, cq, rfl, hoq, hbq⟩
          rw [HI.out.2.2]
          have HQ := Lib.hid (And.intro hoq.toV (HI.out.2.1.trans (hbq.mono HI.out.2.1.size)))
          clear hoq hbq hc0 hc1 hc2
          go_wp2_with fail
          go_roundw
          case rel => exact ⟨i + 1, pq, lj, cq, by omega, by go_num, rfl, HI.out.2.2.symm, HQ.out.1, HQ.out.2⟩
          case measure => simp [intOf]; omega
        · obtain rfl : i = N := by omega
          rw [HV.out.2.2.2.1] at hvi hli
          have E2 := Lib.hid (And.intro (E1.out.1.next hbi) (And.intro (E1.out.2.1.next hbi) (E1.out.2.2.trans (hbi.mono E1.out.2.2.size))))
          have V2 := Lib.hid (And.intro (G1.out.2.next hbi) (And.intro hvi hli))
          clear hvi hbi hli
          obtain ⟨_, hg0, hg1, hg2⟩ := E2.out.2.1.facts
          go_wp2_with fail
          refine (ints_any p4 pi lx li c4 ci X X wr HV.out.2.2.2.2.symm V2.out.2.2 V2.out.1 V2.out.2.1).mono ?_
          rintro e x2 ⟨rfl, hb7⟩
          rw [sameI_self]
          clear hc0 hc1 hc2 hg0 hg1 hg2
          have J := Lib.hid (E2.out.2.2.trans (hb7.mono E2.out.2.2.size))
          have E := Lib.hid (E2.out.1.next hb7)
          have F := Lib.hid (E2.out.2.1.next hb7)
          clear hb7
          obtain ⟨_, hc0, hc1, hc2⟩ := E.out.facts
          obtain ⟨_, hg0, hg1, hg2⟩ := F.out.facts
          go_upto_region 31 with fail
          clear hc0 hc1 hc2 hg0 hg1 hg2
          obtain ⟨_, hc0, hc1, hc2⟩ := E.out.facts
          go_wp2_with fail
          refine (HS.out.1 x2).mono ?_
          rintro e ya ⟨pa, ca, rfl, hoa, hya⟩
          rw [HS.out.2.2.2.2.1]
          clear hc0 hc1 hc2
          go_upto_region 32 with fail
          obtain ⟨za, hz⟩ : ∃ x, x = ya.alloc (.cells #[.int .i64 (K : Int), .int .i64 (dd : Int), .slice pa ls ca] 24) := ⟨_, rfl⟩
          obtain ⟨hbz, hEz⟩ := start_rule ya (.int .i64 (K : Int)) (.int .i64 (dd : Int)) (.slice pa ls ca) za hz
          rw [← hz]
          obtain ⟨hah, hhz⟩ : ∃ x, ya.heap.size = x := ⟨_, rfl⟩
          rw [hhz] at hEz ⊢
          have hyz := hya.trans (hbz.mono hya.size)
          have Ja := Lib.hid (J.out.trans (hyz.mono J.out.size))
          have Ea := Lib.hid (E.out.next hyz)
          have Xa := Lib.hid (And.intro hEz (hoa.next hbz).toV)
          clear hz hbz hEz hyz hhz hya hoa
          obtain ⟨_, hc0, hc1, hc2⟩ := Ea.out.facts
          go_wp2_with fail
          refine (HS.out.2.1 za).mono ?_
          rintro e yb ⟨pb, cb, rfl, hob, hyb⟩
          rw [HS.out.2.2.2.2.2.1]
          clear hc0 hc1 hc2
          go_upto_region 33 with fail
          obtain ⟨zb, hz⟩ : ∃ x, x = yb.alloc (.cells #[.int .i64 (K : Int), .int .i64 (dd : Int), .slice pb ls2 cb] 24) := ⟨_, rfl⟩
          obtain ⟨hbz, hEz⟩ := start_rule yb (.int .i64 (K : Int)) (.int .i64 (dd : Int)) (.slice pb ls2 cb) zb hz
          rw [← hz]
          obtain ⟨hbh, hhz⟩ : ∃ x, yb.heap.size = x := ⟨_, rfl⟩
          rw [hhz] at hEz ⊢
          have hyz := hyb.trans (hbz.mono hyb.size)
          have Jab := Lib.hid (Ja.out.trans (hyz.mono Ja.out.size))
          have Eab := Lib.hid (Ea.out.next hyz)
          have Xa2 := Lib.hid (And.intro (Xa.out.1.next hyz) (Xa.out.2.next hyz))
          have Xb := Lib.hid (And.intro hEz (hob.next hbz).toV)
          clear hz hbz hEz hyz hhz hyb hob
          obtain ⟨_, hc0, hc1, hc2⟩ := Eab.out.facts
          go_wp2_with fail
          refine (HS.out.2.2.1 zb).mono ?_
          rintro e yn ⟨pn, cn, rfl, hon, hyn⟩
          rw [HS.out.2.2.2.2.2.2.1]
          clear hc0 hc1 hc2
          go_upto_region 34 with fail
          obtain ⟨zn, hz⟩ : ∃ x, x = yn.alloc (.cells #[.int .i64 (K : Int), .int .i64 0, .slice pn ls3 cn] 24) := ⟨_, rfl⟩
          obtain ⟨hbz, hEz⟩ := start_rule yn (.int .i64 (K : Int)) (.int .i64 0) (.slice pn ls3 cn) zn hz
          rw [← hz]
          obtain ⟨hnh, hhz⟩ : ∃ x, yn.heap.size = x := ⟨_, rfl⟩
          rw [hhz] at hEz ⊢
          have hyz := hyn.trans (hbz.mono hyn.size)
          have Jabn := Lib.hid (Jab.out.trans (hyz.mono Jab.out.size))
          have Eabn := Lib.hid (Eab.out.next hyz)
          have Xa3 := Lib.hid (And.intro (Xa2.out.1.next hyz) (Xa2.out.2.next hyz))
          have Xb3 := Lib.hid (And.intro (Xb.out.1.next hyz) (Xb.out.2.next hyz))
          have Xn := Lib.hid (And.intro hEz (hon.next hbz).toV)
          clear hz hbz hEz hyz hhz hyn hon
          obtain ⟨_, hc0, hc1, hc2⟩ := Xa3.out.1.facts
          obtain ⟨_, hd0, hd1, hd2⟩ := Xb3.out.1.facts
          go_wp2_with fail
          refine (HS.out.2.2.2.1 zn pa ca pb cb Xa3.out.2 Xb3.out.2).mono ?_
          rintro e yc ⟨pc, cc, rfl, hoc, hyc⟩
          rw [HS.out.2.2.2.2.2.2.2.1]
          clear hc0 hc1 hc2 hd0 hd1 hd2
          go_upto_region 35 with fail
          obtain ⟨zc, hz⟩ : ∃ x, x = yc.alloc (.cells #[.int .i64 (K : Int), .int .i64 (d2 : Int), .slice pc ls4 cc] 24) := ⟨_, rfl⟩
          obtain ⟨hbz, hEz⟩ := start_rule yc (.int .i64 (K : Int)) (.int .i64 (d2 : Int)) (.slice pc ls4 cc) zc hz
          rw [← hz]
          obtain ⟨hch, hhz⟩ : ∃ x, yc.heap.size = x := ⟨_, rfl⟩
          rw [hhz] at hEz ⊢
          have hyz := hyc.trans (hbz.mono hyc.size)
          have Jabnc := Lib.hid (Jabn.out.trans (hyz.mono Jabn.out.size))
          have Xn3 := Lib.hid (And.intro (Xn.out.1.next hyz) (Xn.out.2.next hyz))
          have Xc := Lib.hid (And.intro hEz (hoc.next hbz).toV)
          clear hz hbz hEz hyz hhz hyc hoc
          obtain ⟨_, hc0, hc1, hc2⟩ := Xc.out.1.facts
          obtain ⟨_, hd0, hd1, hd2⟩ := Xn3.out.1.facts
          go_wp2_with fail
          refine (fsame_ok K d2 K 0 pc pn ls4 cc ls3 cn CB SN zc HS.out.2.2.2.2.2.2.2.1.symm HS.out.2.2.2.2.2.2.1.symm Xc.out.2 Xn3.out.2 HS.out.2.2.2.2.2.2.2.2.1 HS.out.2.2.2.2.2.2.2.2.2.1).mono ?_
          rintro e ye ⟨B, rfl, hBiff, hye⟩
          obtain rfl : B = true := hBiff.2 ⟨0, SN, 0, SN, HS.out.2.2.2.2.2.2.2.2.2.2, nar_zero HS.out.2.2.2.2.2.2.2.2.2.1, rfl, rfl, rfl⟩
          have JZ := Lib.hid (Jabnc.out.trans (hye.mono Jabnc.out.size))
          clear hye hBiff hc0 hc1 hc2 hd0 hd1 hd2
          go_wp2_with fail
          go_ret
          exact ⟨rfl, JZ.out⟩
end Go.Proofs.YtienaogmljlmlaaDoor
