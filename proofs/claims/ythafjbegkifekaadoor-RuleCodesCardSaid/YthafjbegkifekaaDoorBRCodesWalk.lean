/- RuleCodes: its walk. -/
import Derived.Test.YthafjbegkifekaaDoorBPairC
import Derived.Test.YthafjbegkifekaaDoorB5
import Derived.Test.YthafjbegkifekaaDoorB2
namespace Go.Proofs.YthafjbegkifekaaDoor
open Go.RowKit Go.Extern.Stop Go.Stop Go.Extern WordM RuleM NatM

theorem LentB.vc {w : World} {g n m : Nat} {l : List Nat} (h : LentB w g l) (hn : n = l.length) (hm : m = n + 2) (ok : ok32 l) (hl : l.length ≤ 100000) : NatV w.heap.size w (some ⟨g, 0, none⟩) m l := by
  subst hn hm
  exact (LentB.own (base := 0) (Nat.zero_le _) ok hl h).toV
theorem two_blocks (w : World) (a b c x y z : Value) (w0 : World) (hw0 : w0 = (w.alloc (.cells #[a, b, c] 24)).alloc (.cells #[x, y, z] 33)) :
    Below w.heap.size w w0 ∧ Rul3 w0 w.heap.size a b c ∧ Err3 w0 (w.heap.size + 1) x y z := by
  have h1 : Below w.heap.size w (w.alloc (.cells #[a, b, c] 24)) := (Below.refl _ _).alloc (Nat.le_refl _) _
  have h2 : Below (w.alloc (.cells #[a, b, c] 24)).heap.size (w.alloc (.cells #[a, b, c] 24)) w0 := by rw [hw0]; exact (Below.refl _ _).alloc (Nat.le_refl _) _
  have hs : (w.alloc (.cells #[a, b, c] 24)).heap.size = w.heap.size + 1 := by simp
  have h3 : Err3 w0 (w.alloc (.cells #[a, b, c] 24)).heap.size x y z := by rw [hw0]; exact ⟨heap_newN _ _⟩
  rw [hs] at h3
  exact ⟨h1.trans (h2.mono h1.size), (Rul3.new w a b c).next h2, h3⟩

set_option maxRecDepth 100000 in
set_option maxHeartbeats 4000000 in
theorem rcodes_long (k r kk rr : Int) (p q : Option Addr) (n c m d : Nat) (w : World) (A : Nat → Addr) (hr : Roots w A) (hm : m ≤ 9223372036854775807) (hc : 200 < m) :
    Calls Tryd.prog 6 #[.agg #[.int .i64 k, .int .i64 r, .slice p n c], .int .i64 kk, .int .i64 rr, .slice q m d] w (Tells (.bool true) w) := by
  have H := Lib.hid hr
  clear hr
  go_enter Tryd.func6, Tryd.ntmps6
  go_upto_region 1 with fail
  obtain ⟨w0, hw0⟩ : ∃ w0, w0 = w.alloc (.cells #[.int .i64 k, .int .i64 r, .slice p n c] 24) := ⟨_, rfl⟩
  have hb0 : Below w.heap.size w w0 := by rw [hw0]; exact (Below.refl _ _).alloc (Nat.le_refl _) _
  rw [← hw0]
  have HE := Lib.hid hb0
  clear hw0 hb0
  go_wp2_with fail
  refine (awakeR w0 A (H.out.below HE.out)).mono ?_
  rintro e w1 ⟨rfl, hb1⟩
  have H1 := Lib.hid (HE.out.trans (hb1.mono HE.out.size))
  clear hb1
  go_wp2_with fail
  go_ret
  exact ⟨rfl, H1.out⟩

set_option maxRecDepth 100000 in
set_option maxHeartbeats 16000000 in
theorem rcodes_ok (k r kk rr : Int) (p q : Option Addr) (n c m d : Nat) (t : List Int) (a : List Nat) (w : World) (A : Nat → Addr) (hr : Roots w A) (hT : TypeVar w) (hn : n = t.length) (hm : a.length = m) (h : IntV w.heap.size w p c t) (hq : NatV w.heap.size w q d a) (hm2 : ¬ 200 < m) :
    Calls Tryd.prog 6 #[.agg #[.int .i64 k, .int .i64 r, .slice p n c], .int .i64 kk, .int .i64 rr, .slice q m d] w (Tells (.bool true) w) := by
  have hlent := fun W hW => lent_any q d a W hW (by omega)
  unfold LentPost at hlent
  simp only [hm] at hlent
  have H := Lib.hid (And.intro hr (And.intro hT (And.intro hn (And.intro hm (And.intro h (And.intro hq hlent))))))
  clear hr hT hn hm h hq hlent
  go_enter Tryd.func6, Tryd.ntmps6
  go_upto_region 1 with fail
  obtain ⟨w0, hw0⟩ : ∃ w0, w0 = w.alloc (.cells #[.int .i64 k, .int .i64 r, .slice p n c] 24) := ⟨_, rfl⟩
  have hb0 : Below w.heap.size w w0 := by rw [hw0]; exact (Below.refl _ _).alloc (Nat.le_refl _) _
  have hE0 : Rul3 w0 w.heap.size (.int .i64 k) (.int .i64 r) (.slice p n c) := by rw [hw0]; exact Rul3.new w _ _ _
  rw [← hw0]
  have HE := Lib.hid (And.intro hE0 hb0)
  clear hw0 hE0 hb0
  go_wp2_with fail
  refine (awakeR w0 A (H.out.1.below HE.out.2)).mono ?_
  rintro e w1 ⟨rfl, hb1⟩
  have H1 := Lib.hid (And.intro (HE.out.1.next hb1) (HE.out.2.trans (hb1.mono HE.out.2.size)))
  clear hb1
  go_wp2_with fail
  refine (H.out.2.2.2.2.2.2 w1 (H.out.2.2.2.2.2.1.next H1.out.2)).mono ?_
  rintro e w2 ⟨rfl, hL, hb2⟩
  obtain ⟨g, hg⟩ : ∃ g, w1.heap.size = g := ⟨_, rfl⟩
  rw [hg] at hL ⊢
  have hR2 := H1.out.1.next hb2
  obtain ⟨_, hc0, hc1, hc2⟩ := hR2.facts
  have H2 := Lib.hid (And.intro hL (And.intro (H1.out.2.trans (hb2.mono H1.out.2.size)) hR2))
  clear hL hb2 hg hR2
  obtain ⟨N, hN⟩ : ∃ N, codeN k r t = N := ⟨_, rfl⟩
  go_wp2_with fail
  have hca := code_a k r p n c t w2 A (H.out.1.below H2.out.2.1) H.out.2.2.1 (H.out.2.2.2.2.1.next H2.out.2.1)
  rw [hN] at hca
  refine hca.mono ?_
  clear hca
  rintro e w3 ⟨p3, c3, v3, rfl, ho3, he3, hb3⟩
  clear hc0 hc1 hc2
  have hR3 := H2.out.2.2.next hb3
  obtain ⟨_, hc0, hc1, hc2⟩ := hR3.facts
  have H3 := Lib.hid (And.intro (H2.out.1.below hb3) (And.intro (H2.out.2.1.trans (hb3.mono H2.out.2.1.size)) (And.intro hR3 (And.intro ho3.toV he3))))
  clear hb3 hR3 ho3 he3
  go_wp2_with fail
  have hcb := code_b k r p n c t w3 H.out.2.2.1 (H.out.2.2.2.2.1.next H3.out.2.1)
  rw [hN] at hcb
  refine hcb.mono ?_
  clear hcb
  rintro e w4 ⟨p4, c4, a4, po4, pa4, z4, rfl, ho4, he4, hb4⟩
  go_upto_region 8 with fail
  obtain ⟨w5, hw5⟩ : ∃ x, x = w4.alloc (.cells #[.int .i64 a4, .slice po4 z4 z4, .slice pa4 z4 z4] 33) := ⟨_, rfl⟩
  have hb5 : Below w4.heap.size w4 w5 := by rw [hw5]; exact (Below.refl _ _).alloc (Nat.le_refl _) _
  have hE5 : Err3 w5 w4.heap.size (.int .i64 a4) (.slice po4 z4 z4) (.slice pa4 z4 z4) := by rw [hw5]; exact ⟨heap_newN w4 _⟩
  rw [← hw5]
  have h35 := hb4.trans (hb5.mono hb4.size)
  have H5 := Lib.hid (And.intro (H3.out.1.below h35) (And.intro (H3.out.2.1.trans (h35.mono H3.out.2.1.size)) (And.intro (H3.out.2.2.1.next h35) (And.intro (H3.out.2.2.2.1.next h35) (And.intro (H3.out.2.2.2.2.next h35) (And.intro (ho4.next hb5).toV (And.intro (he4.next hb5) hE5)))))))
  clear hw5 hb5 hE5 h35 ho4 he4 hb4 hc0 hc1 hc2
  obtain ⟨V, hV⟩ : ∃ V, V32 a = V := ⟨_, rfl⟩
  have HV := Lib.hid (And.intro hV hN)
  go_wp2_with fail
  have hfa := from_a kk rr _ m _ a w5 A (H.out.1.below H5.out.2.1) H.out.2.2.2.1.symm (H5.out.1.vc (m := m + 2) H.out.2.2.2.1.symm rfl H.out.2.2.2.2.2.1.ok (by have := H.out.2.2.2.1; omega)) (by have := H.out.2.2.2.1; omega)
  rw [hV] at hfa
  refine hfa.mono ?_
  clear hfa
  rintro e w6 ⟨K6, R6, t6, p6, c6, v6, hI6, rfl, ho6, he6, hb6⟩
  go_upto_region 9 with fail
  obtain ⟨u, hu⟩ : ∃ u, t6.length = u := ⟨_, rfl⟩
  rw [hu]
  obtain ⟨w7, hw7⟩ : ∃ x, x = w6.alloc (.cells #[.int .i64 K6, .int .i64 R6, .slice p6 u c6] 24) := ⟨_, rfl⟩
  have hb7 : Below w6.heap.size w6 w7 := by rw [hw7]; exact (Below.refl _ _).alloc (Nat.le_refl _) _
  have hE7 : Rul3 w7 w6.heap.size (.int .i64 K6) (.int .i64 R6) (.slice p6 u c6) := by rw [hw7]; exact Rul3.new w6 _ _ _
  rw [← hw7]
  have h57 := hb6.trans (hb7.mono hb6.size)
  have H7 := Lib.hid (And.intro h57 (And.intro hE7 (And.intro (ho6.next hb7).toV (And.intro (he6.next hb7) hI6))))
  clear hw7 hb7 hE7 h57 ho6 he6 hb6 hI6
  go_wp2_with fail
  have hfb := from_b kk rr q m d a w7 H.out.2.2.2.1 ((H.out.2.2.2.2.2.1.next H5.out.2.1).next H7.out.1) (by have := H.out.2.2.2.1; omega)
  rw [hV] at hfb
  refine hfb.mono ?_
  clear hfb
  rintro e w8 ⟨K8, R8, t8, p8, c8, a8, po8, pa8, z8, hI8, rfl, ho8, he8, hb8⟩
  obtain ⟨rfl, rfl, rfl⟩ := FromIs.unique hI8 H7.out.2.2.2.2
  rw [hu]
  go_upto_region 10 with fail
  obtain ⟨w9, hw9⟩ : ∃ x, x = (w8.alloc (.cells #[.int .i64 K8, .int .i64 R8, .slice p8 u c8] 24)).alloc (.cells #[.int .i64 a8, .slice po8 z8 z8, .slice pa8 z8 z8] 33) := ⟨_, rfl⟩
  have hsz9 : (w8.alloc (.cells #[.int .i64 K8, .int .i64 R8, .slice p8 u c8] 24)).heap.size = w8.heap.size + 1 := by simp
  obtain ⟨hb9, hR9, hE9⟩ := two_blocks w8 _ _ _ _ _ _ w9 hw9
  rw [← hw9]
  have h79 := hb8.trans (hb9.mono hb8.size)
  have h59 := H7.out.1.trans (h79.mono H7.out.1.size)
  have hw9' := H5.out.2.1.trans (h59.mono H5.out.2.1.size)
  have H9 := Lib.hid (And.intro hw9' (And.intro (H5.out.1.below h59) (And.intro (H5.out.2.2.1.next h59) (And.intro (H5.out.2.2.2.1.next h59) (And.intro (H5.out.2.2.2.2.1.next h59) (And.intro (H5.out.2.2.2.2.2.1.next h59) (And.intro (H5.out.2.2.2.2.2.2.1.next h59) (H5.out.2.2.2.2.2.2.2.next h59))))))))
  have H8 := Lib.hid (And.intro (H7.out.2.1.next h79) (And.intro (H7.out.2.2.1.next h79) (And.intro (H7.out.2.2.2.1.next h79) (And.intro (ho8.next hb9).toV (And.intro (he8.next hb9) (And.intro hR9 (And.intro hE9 hI8)))))))
  clear hw9 hb9 hR9 hE9 h79 h59 hw9' ho8 he8 hb8 hI8
  go_wp2_with fail
  refine (nats_same _ _ _ _ (D32 N) _ H9.out.2.2.2.1 H9.out.2.2.2.2.2.1).mono ?_
  rintro e y1 ⟨rfl, hy1⟩
  have G1 := Lib.hid hy1
  clear hy1
  obtain ⟨_, hc0, hc1, hc2⟩ := (H9.out.2.2.2.2.2.2.2.next G1.out).facts
  have hr1 := (H.out.1.below H9.out.1).below G1.out
  have ht1 := (H.out.2.1.below H9.out.1).below G1.out
  have his1 := is_pair hr1 ht1 (numOk_chkS k r t) (H9.out.2.2.2.2.1.next G1.out) (H9.out.2.2.2.2.2.2.1.next G1.out)
  have HI1 := Lib.hid his1
  clear hr1 ht1 his1
  go_wp2_with fail
  refine HI1.out.mono ?_
  rintro e y2 ⟨rfl, hy2⟩
  have G2 := Lib.hid (G1.out.trans (hy2.mono G1.out.size))
  clear hy2 hc0 hc1 hc2 HI1
  obtain ⟨_, hc0, hc1, hc2⟩ := (H8.out.1.next G2.out).facts
  obtain ⟨_, hd0, hd1, hd2⟩ := (H8.out.2.2.2.2.2.1.next G2.out).facts
  go_wp2_with fail
  refine (rules_same K8 R8 p6 p8 u c6 c8 t8 y2 hu.symm (H8.out.2.1.next G2.out) (H8.out.2.2.2.1.next G2.out)).mono ?_
  rintro e y3 ⟨rfl, hy3⟩
  have G3 := Lib.hid (G2.out.trans (hy3.mono G2.out.size))
  clear hy3 hc0 hc1 hc2 hd0 hd1 hd2
  obtain ⟨_, hc0, hc1, hc2⟩ := (H8.out.2.2.2.2.2.2.1.next G3.out).facts
  have hr1 := (H.out.1.below H9.out.1).below G3.out
  have ht1 := (H.out.2.1.below H9.out.1).below G3.out
  have his1 := is_pair hr1 ht1 (numOk_chkF kk rr V) (H8.out.2.2.1.next G3.out) (H8.out.2.2.2.2.1.next G3.out)
  have HI1 := Lib.hid his1
  clear hr1 ht1 his1
  go_wp2_with fail
  refine HI1.out.mono ?_
  rintro e y4 ⟨rfl, hy4⟩
  have G4 := Lib.hid (G3.out.trans (hy4.mono G3.out.size))
  clear hy4 hc0 hc1 hc2 HI1
  go_wp2_with fail
  have hk4 := kept_any g q m (m + 2) d a y4 (H9.out.2.1.below G4.out) ((H.out.2.2.2.2.2.1.next H9.out.1).next G4.out) (by have := H.out.2.2.2.1; omega) H.out.2.2.2.1.symm (by rw [H.out.2.2.2.1])
  rw [H.out.2.2.2.1] at hk4
  refine hk4.mono ?_
  clear hk4
  rintro e y5 ⟨rfl, hy5⟩
  have G5 := Lib.hid (G4.out.trans (hy5.mono G4.out.size))
  clear hy5 hN hV
  have HW := Lib.hid (H9.out.1.trans (G5.out.mono H9.out.1.size))
  have hv3 := H9.out.2.2.2.2.1
  have hv6 := H8.out.2.2.1
  have hIs := H8.out.2.2.2.2.2.2.2
  have hcN := HV.out.2
  unfold FromIs at hIs
  unfold codeN at hcN
  unfold ErrA at hv3 hv6
  cases hS : chkS k r t with
  | some yS =>
    rw [hS] at hv3
    obtain ⟨b3, rfl, _⟩ := hv3
    clear hcN
    cases hF : chkF kk rr V with
    | some yF =>
      rw [hF] at hv6
      obtain ⟨b6, rfl, _⟩ := hv6
      clear hIs
      go_wp2_with fail
      go_ret
      exact ⟨rfl, HW.out⟩
    | none =>
      rw [hF] at hv6 hIs
      subst hv6
      obtain ⟨rfl, rfl, hoF, hcF⟩ := hIs
      obtain ⟨KF, RF, hkF, hrF, _, _, _, hsF, _⟩ := chkF_none hF
      subst hkF hrF
      rw [Int.toNat_natCast] at hcF hoF
      rw [Int.toNat_natCast] at hoF
      obtain ⟨_, hc0, hc1, hc2⟩ := (H8.out.1.next G5.out).facts
      have hcd := code_ok KF RF p6 u c6 t8 y5 hu.symm (H8.out.2.1.next G5.out) hoF (by rw [hoF.len]; exact hsF)
      rw [hcF] at hcd
      have HCD := Lib.hid hcd
      clear hcd hoF hcF hF
      go_wp2_with fail
      refine HCD.out.mono ?_
      rintro e z1 ⟨pz, cz, rfl, hoz, hbz⟩
      have Gz := Lib.hid (G5.out.trans (hbz.mono G5.out.size))
      have hcm := cmp_any pz q cz d (D32 V) a z1 hoz.toV ((H.out.2.2.2.2.2.1.next H9.out.1).next Gz.out)
      rw [H.out.2.2.2.1] at hcm
      have hcv : cmpV (D32 V) a = .int .i64 0 := by unfold cmpV; rw [V32_D32, HV.out.1, cmp_eq]
      rw [hcv] at hcm
      have HCM := Lib.hid hcm
      clear hcm hcv hoz hbz hc0 hc1 hc2
      go_wp2_with fail
      refine HCM.out.mono ?_
      rintro e z2 ⟨rfl, hbz2⟩
      have GZ := Lib.hid (H9.out.1.trans ((Gz.out.trans (hbz2.mono Gz.out.size)).mono H9.out.1.size))
      clear hbz2
      go_wp2_with fail
      go_ret
      exact ⟨rfl, GZ.out⟩
  | none =>
    rw [hS] at hv3 hcN
    subst hv3
    obtain ⟨KS, RS, rfl, rfl, hoS, hsS⟩ := chkS_none hS
    have hcN' : codeR KS t = N := hcN
    have hfr := from_ok KS RS p3 (D32 N).length c3 (D32 N) y5 rfl (H9.out.2.2.2.1.next G5.out) (by
      have h1 := valW_len hoS.k4 hoS.rev
      rw [← hcN']
      unfold codeR
      rw [List.length_reverse] at h1
      omega) hoS.k1 hoS.k4 hoS.r3 (by rw [← hoS.len]; exact hsS) (by rw [V32_D32, ← hcN']; exact code_lt hoS)
    rw [V32_D32] at hfr
    have hfr2 : Calls Tryd.prog 29 #[.int .i64 (KS : Int), .int .i64 (RS : Int), .slice p3 (D32 N).length c3] y5 (RuleOk y5 KS RS t) := hfr.mono fun e w' ⟨t', h1, h2, h3⟩ => by
      obtain rfl : t' = t := code_inj h1 hoS (by rw [h2, hcN'])
      exact h3
    obtain ⟨_, hc0, hc1, hc2⟩ := (H9.out.2.2.1.next G5.out).facts
    have HFR := Lib.hid hfr2
    clear hfr hfr2 hcN hcN' hoS hsS
    go_wp2_with fail
    refine HFR.out.mono ?_
    rintro e x1 ⟨px, cx, rfl, hox, hbx⟩
    rw [← H.out.2.2.1]
    go_upto_region 14 with fail
    obtain ⟨x2, hx2⟩ : ∃ x, x = x1.alloc (.cells #[.int .i64 (KS : Int), .int .i64 (RS : Int), .slice px n cx] 24) := ⟨_, rfl⟩
    have hbx2 : Below x1.heap.size x1 x2 := by rw [hx2]; exact (Below.refl _ _).alloc (Nat.le_refl _) _
    have hEx : Rul3 x2 x1.heap.size (.int .i64 (KS : Int)) (.int .i64 (RS : Int)) (.slice px n cx) := by rw [hx2]; exact Rul3.new x1 _ _ _
    rw [← hx2]
    have hy5x := hbx.trans (hbx2.mono hbx.size)
    have GX := Lib.hid (G5.out.trans (hy5x.mono G5.out.size))
    have HOX := Lib.hid (hox.next hbx2).toV
    clear hx2 hbx2 hbx hox hy5x hc0 hc1 hc2
    obtain ⟨_, hc0, hc1, hc2⟩ := hEx.facts
    obtain ⟨_, hd0, hd1, hd2⟩ := (H9.out.2.2.1.next GX.out).facts
    clear hEx
    go_wp2_with fail
    refine (rules_same (KS : Int) (RS : Int) px p n cx c t x2 H.out.2.2.1 HOX.out ((H.out.2.2.2.2.1.next H9.out.1).next GX.out)).mono ?_
    rintro e x3 ⟨rfl, hbx3⟩
    have G6 := Lib.hid (GX.out.trans (hbx3.mono GX.out.size))
    have HW6 := Lib.hid (H9.out.1.trans (G6.out.mono H9.out.1.size))
    clear hbx3 hc0 hc1 hc2 hd0 hd1 hd2
    cases hF : chkF kk rr V with
    | some yF =>
      rw [hF] at hv6
      obtain ⟨b6, rfl, _⟩ := hv6
      clear hIs
      go_wp2_with fail
      go_ret
      exact ⟨rfl, HW6.out⟩
    | none =>
      rw [hF] at hv6 hIs
      subst hv6
      obtain ⟨rfl, rfl, hoF, hcF⟩ := hIs
      obtain ⟨KF, RF, hkF, hrF, _, _, _, hsF, _⟩ := chkF_none hF
      subst hkF hrF
      rw [Int.toNat_natCast] at hcF hoF
      rw [Int.toNat_natCast] at hoF
      obtain ⟨_, hc0, hc1, hc2⟩ := (H8.out.1.next G6.out).facts
      have hcd := code_ok KF RF p6 u c6 t8 x3 hu.symm (H8.out.2.1.next G6.out) hoF (by rw [hoF.len]; exact hsF)
      rw [hcF] at hcd
      have HCD := Lib.hid hcd
      clear hcd hoF hcF hF
      go_wp2_with fail
      refine HCD.out.mono ?_
      rintro e z1 ⟨pz, cz, rfl, hoz, hbz⟩
      have Gz := Lib.hid (G6.out.trans (hbz.mono G6.out.size))
      have hcm := cmp_any pz q cz d (D32 V) a z1 hoz.toV ((H.out.2.2.2.2.2.1.next H9.out.1).next Gz.out)
      rw [H.out.2.2.2.1] at hcm
      have hcv : cmpV (D32 V) a = .int .i64 0 := by unfold cmpV; rw [V32_D32, HV.out.1, cmp_eq]
      rw [hcv] at hcm
      have HCM := Lib.hid hcm
      clear hcm hcv hoz hbz hc0 hc1 hc2
      go_wp2_with fail
      refine HCM.out.mono ?_
      rintro e z2 ⟨rfl, hbz2⟩
      have GZ := Lib.hid (H9.out.1.trans ((Gz.out.trans (hbz2.mono Gz.out.size)).mono H9.out.1.size))
      clear hbz2
      go_wp2_with fail
      go_ret
      exact ⟨rfl, GZ.out⟩

theorem rcodes_any (k r kk rr : Int) (p q : Option Addr) (n c d : Nat) (t : List Int) (a : List Nat) (w : World) (A : Nat → Addr) (hr : Roots w A) (hT : TypeVar w) (hn : n = t.length) (h : IntV w.heap.size w p c t) (hq : NatV w.heap.size w q d a) :
    Calls Tryd.prog 6 #[.agg #[.int .i64 k, .int .i64 r, .slice p n c], .int .i64 kk, .int .i64 rr, .slice q a.length d] w (Tells (.bool true) w) := by
  have h1 := hq.le
  have h2 := hq.cap
  unfold maxLen at h2
  by_cases hb : 200 < a.length
  · exact rcodes_long k r kk rr p q n c a.length d w A hr (by omega) hb
  · exact rcodes_ok k r kk rr p q n c a.length d t a w A hr hT hn rfl h hq hb
end Go.Proofs.YthafjbegkifekaaDoor
