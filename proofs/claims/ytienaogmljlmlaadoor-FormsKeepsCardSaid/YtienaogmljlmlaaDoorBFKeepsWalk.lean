/- FormsKeeps: its walk. -/
import Derived.Test.YtienaogmljlmlaaDoorB6
namespace Go.Proofs.YtienaogmljlmlaaDoor
open Go.RowKit Go.Extern.Stop Go.Stop Go.Extern WordM RuleM NatM

theorem Kq.one {w w2 : World} {g : Nat} {t : List Int} (hb : Below w.heap.size w w2) (hg : LentI w2 g t) (h1 : w.heap.size ≤ g) : Kq w w2 w2.heap.size [(g, t)] [] := by
  refine ⟨hb, fun i x hi => ?_, fun i j x y hi hj hne' => ?_, Nat.le_refl _, hb.size, fun i e he => by simp at he, fun i j e f _ he => by simp at he⟩
  · rcases i with _ | i
    · obtain rfl := Option.some.inj hi
      exact ⟨hg, h1, hg.lt⟩
    · simp at hi
  · rcases i with _ | i <;> rcases j with _ | j <;> first | exact absurd rfl hne' | (simp at hi; done) | (simp at hj; done)
theorem Rul3.farF {w w' : World} {h : Nat} {a b c : Value} (k : Rul3 w h a b c) (e : w'.heap[h]? = w.heap[h]?) : Rul3 w' h a b c := ⟨e.trans k.heap⟩

set_option maxRecDepth 100000 in
set_option maxHeartbeats 8000000 in
theorem fkeeps_bad (k r : Int) (p : Option Addr) (n c : Nat) (t : List Int) (w : World) (A : Nat → Addr) (hr : Roots w A) (hn : n = t.length) (h : IntV w.heap.size w p c t) (hl : t.length ≤ 17592186043904) (i : Nat) (hc : chkR k r t = some i) :
    Calls Tryd.prog 6 #[.agg #[.int .i64 k, .int .i64 r, .slice p n c]] w (Tells (.bool true) w) := by
  have ST := Lib.hid (start_rule w (.int .i64 k) (.int .i64 r) (.slice p n c))
  have hlent := fun W hW => lentR_any k r p n c t W hn hW hl
  unfold LentR at hlent
  simp only [← hn] at hlent
  have HL := Lib.hid hlent
  have H := Lib.hid (And.intro hr (And.intro hn (And.intro h (And.intro hl hc))))
  clear hr hn h hl hc hlent
  go_enter Tryd.func6, Tryd.ntmps6
  go_upto_region 1 with fail
  obtain ⟨w0, hw0⟩ : ∃ w0, w0 = w.alloc (.cells #[.int .i64 k, .int .i64 r, .slice p n c] 24) := ⟨_, rfl⟩
  rw [← hw0]
  obtain ⟨hb0, hE0⟩ := ST.out w0 hw0
  have HE := Lib.hid (And.intro hE0 hb0)
  clear hw0 hE0 hb0
  go_wp2_with fail
  refine (awakeF w0 A (H.out.1.below HE.out.2)).mono ?_
  rintro e w1 ⟨rfl, hb1⟩
  have H1 := Lib.hid (And.intro (HE.out.1.next hb1) (HE.out.2.trans (hb1.mono HE.out.2.size)))
  clear hb1
  obtain ⟨_, hc0, hc1, hc2⟩ := H1.out.1.facts
  go_wp2_with fail
  refine (HL.out w1 (H.out.2.2.1.next H1.out.2)).mono ?_
  rintro e w2 ⟨g, rfl, hgw, hLg, hb2⟩
  clear hc0 hc1 hc2
  go_upto_region 4 with fail
  obtain ⟨wA, hwA⟩ : ∃ x, x = w2.alloc (.cells #[.int .i64 k, .int .i64 r, .slice (some ⟨g, 0, none⟩) n (n + 2)] 24) := ⟨_, rfl⟩
  obtain ⟨hbA, hEA⟩ := start_rule w2 (.int .i64 k) (.int .i64 r) (.slice (some ⟨g, 0, none⟩) n (n + 2)) wA hwA
  rw [← hwA]
  have hbwA : Below w.heap.size w wA := (H1.out.2.trans (hb2.mono H1.out.2.size)).trans (hbA.mono (Nat.le_trans H1.out.2.size hb2.size))
  have hgw2 : w.heap.size ≤ g := Nat.le_trans H1.out.2.size hgw
  have hE1A := (H1.out.1.next hb2).next hbA
  have hLA := hLg.below hbA
  obtain ⟨hm, hhm⟩ : ∃ x, w2.heap.size = x := ⟨_, rfl⟩
  rw [hhm] at hEA ⊢
  have HA := Lib.hid (And.intro hEA (And.intro hE1A (And.intro hbwA (And.intro hLA hgw2))))
  clear hwA hbA hEA hbwA hLg hb2 hgw hgw2 hE1A hLA hhm
  have hgt : ∀ wx : World, LentI wx g t → IntV wx.heap.size wx (some ⟨g, 0, none⟩) (n + 2) t := fun wx hb => hb.vn (by rw [H.out.2.1]) H.out.2.2.2.1
  have HG := Lib.hid hgt
  clear hgt
  have B0 : Hid (Below wA.heap.size wA wA) := Below.refl _ _
  obtain ⟨_, hc0, hc1, hc2⟩ := (HA.out.1.next B0.out).facts
  go_wp2_with fail
  refine (fnarrow_bad k r (some ⟨g, 0, none⟩) n (n + 2) t wA A ((H.out.1.below HA.out.2.2.1).below B0.out) H.out.2.1 (HG.out wA (HA.out.2.2.2.1.below B0.out)) i H.out.2.2.2.2).mono ?_
  rintro e y0 ⟨b0, rfl, _, hy⟩
  rw [noRule_eq]
  clear hc0 hc1 hc2
  go_upto_region 5 with fail
  obtain ⟨z0, hz⟩ : ∃ x, x = y0.alloc (.cells #[.int .i64 0, .int .i64 0, .slice none 0 0] 24) := ⟨_, rfl⟩
  obtain ⟨hbz, _⟩ := start_rule y0 _ _ _ z0 hz
  rw [← hz]
  have hyz := hy.trans (hbz.mono hy.size)
  have B1 := Lib.hid (B0.out.trans (hyz.mono B0.out.size))
  clear hz hbz hy hyz
  obtain ⟨_, hc0, hc1, hc2⟩ := (HA.out.1.next B1.out).facts
  go_wp2_with fail
  refine (fnarrow_bad k r (some ⟨g, 0, none⟩) n (n + 2) t z0 A ((H.out.1.below HA.out.2.2.1).below B1.out) H.out.2.1 (HG.out z0 (HA.out.2.2.2.1.below B1.out)) i H.out.2.2.2.2).mono ?_
  rintro e y1 ⟨b1, rfl, _, hy⟩
  rw [noRule_eq]
  clear hc0 hc1 hc2
  go_upto_region 6 with fail
  obtain ⟨z1, hz⟩ : ∃ x, x = y1.alloc (.cells #[.int .i64 0, .int .i64 0, .slice none 0 0] 24) := ⟨_, rfl⟩
  obtain ⟨hbz, _⟩ := start_rule y1 _ _ _ z1 hz
  rw [← hz]
  have hyz := hy.trans (hbz.mono hy.size)
  have B2 := Lib.hid (B1.out.trans (hyz.mono B1.out.size))
  clear hz hbz hy hyz
  obtain ⟨_, hc0, hc1, hc2⟩ := (HA.out.1.next B2.out).facts
  obtain ⟨_, hd0, hd1, hd2⟩ := (HA.out.2.1.next B2.out).facts
  go_wp2_with fail
  refine (fwiden_bad k r r (some ⟨g, 0, none⟩) n (n + 2) t z1 A ((H.out.1.below HA.out.2.2.1).below B2.out) H.out.2.1 (HG.out z1 (HA.out.2.2.2.1.below B2.out)) i H.out.2.2.2.2).mono ?_
  rintro e y2 ⟨b2, rfl, _, hy⟩
  rw [noRule_eq]
  clear hc0 hc1 hc2 hd0 hd1 hd2
  go_upto_region 7 with fail
  obtain ⟨z2, hz⟩ : ∃ x, x = y2.alloc (.cells #[.int .i64 0, .int .i64 0, .slice none 0 0] 24) := ⟨_, rfl⟩
  obtain ⟨hbz, _⟩ := start_rule y2 _ _ _ z2 hz
  rw [← hz]
  have hyz := hy.trans (hbz.mono hy.size)
  have B3 := Lib.hid (B2.out.trans (hyz.mono B2.out.size))
  clear hz hbz hy hyz
  obtain ⟨_, hc0, hc1, hc2⟩ := (HA.out.1.next B3.out).facts
  go_wp2_with fail
  refine (fpow_bad k r 1 (some ⟨g, 0, none⟩) n (n + 2) t z2 A ((H.out.1.below HA.out.2.2.1).below B3.out) H.out.2.1 (HG.out z2 (HA.out.2.2.2.1.below B3.out)) i H.out.2.2.2.2).mono ?_
  rintro e y3 ⟨b3, rfl, _, hy⟩
  rw [noRule_eq]
  clear hc0 hc1 hc2
  go_upto_region 8 with fail
  obtain ⟨z3, hz⟩ : ∃ x, x = y3.alloc (.cells #[.int .i64 0, .int .i64 0, .slice none 0 0] 24) := ⟨_, rfl⟩
  obtain ⟨hbz, _⟩ := start_rule y3 _ _ _ z3 hz
  rw [← hz]
  have hyz := hy.trans (hbz.mono hy.size)
  have B4 := Lib.hid (B3.out.trans (hyz.mono B3.out.size))
  clear hz hbz hy hyz
  go_wp2_with fail
  go_ret
  exact ⟨rfl, HA.out.2.2.1.trans (B4.out.mono HA.out.2.2.1.size)⟩

set_option maxRecDepth 100000 in
set_option maxHeartbeats 16000000 in
theorem fkeeps_ok (K R : Nat) (p : Option Addr) (n c : Nat) (t : List Int) (w : World) (A : Nat → Addr) (hr : Roots w A) (hn : n = t.length) (h : IntV w.heap.size w p c t) (hl : t.length ≤ 17592186043904) (ho : OkR K R t) :
    Calls Tryd.prog 6 #[.agg #[.int .i64 (K : Int), .int .i64 (R : Int), .slice p n c]] w (Tells (.bool true) w) := by
  have ST := Lib.hid (start_rule w (.int .i64 (K : Int)) (.int .i64 (R : Int)) (.slice p n c))
  have hlent := fun W hW => lentR_any (K : Int) (R : Int) p n c t W hn hW hl
  unfold LentR at hlent
  simp only [← hn] at hlent
  have HL := Lib.hid hlent
  have h3 := ho.r3
  have hws := wid_self ho
  have hp1 := pow_one ho
  have hmo := mirT_ok ho
  obtain ⟨U, hU⟩ : ∃ U, mirT K R t = U := ⟨_, rfl⟩
  rw [hU] at hmo
  have hUl : U.length = n := by rw [hmo.len, hn, ho.len]
  have hlS : n ≤ 16384 := by rw [hn, ho.len]; exact pow_le ho.k4 ho.r3
  have hwd := fun W g hW => fwiden_ok K R R (some ⟨g, 0, none⟩) n (n + 2) t W hn hW ho (Nat.le_refl _) h3
  rw [hws] at hwd
  have hpd := fun W g hW => fpow_ok K R 1 (some ⟨g, 0, none⟩) n (n + 2) t W hn hW ho (by omega) (by omega)
  rw [hp1, Nat.mul_one] at hpd
  have hmd := fun W g hW => fmirror_ok K R (some ⟨g, 0, none⟩) n (n + 2) t W hn hW ho
  rw [hU] at hmd
  have HC := Lib.hid (And.intro hwd (And.intro hpd (And.intro hmd (And.intro hUl hlS))))
  have H := Lib.hid (And.intro hr (And.intro hn (And.intro h (And.intro hl ho))))
  clear hr hn h hl ho hlent hws hp1 hmo hU hUl hlS hwd hpd hmd
  go_enter Tryd.func6, Tryd.ntmps6
  go_upto_region 1 with fail
  obtain ⟨w0, hw0⟩ : ∃ w0, w0 = w.alloc (.cells #[.int .i64 (K : Int), .int .i64 (R : Int), .slice p n c] 24) := ⟨_, rfl⟩
  rw [← hw0]
  obtain ⟨hb0, hE0⟩ := ST.out w0 hw0
  have HE := Lib.hid (And.intro hE0 hb0)
  clear hw0 hE0 hb0
  go_wp2_with fail
  refine (awakeF w0 A (H.out.1.below HE.out.2)).mono ?_
  rintro e w1 ⟨rfl, hb1⟩
  have H1 := Lib.hid (And.intro (HE.out.1.next hb1) (HE.out.2.trans (hb1.mono HE.out.2.size)))
  clear hb1
  obtain ⟨_, hc0, hc1, hc2⟩ := H1.out.1.facts
  go_wp2_with fail
  refine (HL.out w1 (H.out.2.2.1.next H1.out.2)).mono ?_
  rintro e w2 ⟨g, rfl, hgw, hLg, hb2⟩
  clear hc0 hc1 hc2
  go_upto_region 4 with fail
  obtain ⟨wA, hwA⟩ : ∃ x, x = w2.alloc (.cells #[.int .i64 (K : Int), .int .i64 (R : Int), .slice (some ⟨g, 0, none⟩) n (n + 2)] 24) := ⟨_, rfl⟩
  obtain ⟨hbA, hEA⟩ := start_rule w2 (.int .i64 (K : Int)) (.int .i64 (R : Int)) (.slice (some ⟨g, 0, none⟩) n (n + 2)) wA hwA
  rw [← hwA]
  have hbwA : Below w.heap.size w wA := (H1.out.2.trans (hb2.mono H1.out.2.size)).trans (hbA.mono (Nat.le_trans H1.out.2.size hb2.size))
  have hgw2 : w.heap.size ≤ g := Nat.le_trans H1.out.2.size hgw
  have hE1A := (H1.out.1.next hb2).next hbA
  have hLA := hLg.below hbA
  obtain ⟨hm, hhm⟩ : ∃ x, w2.heap.size = x := ⟨_, rfl⟩
  rw [hhm] at hEA ⊢
  have HA := Lib.hid (And.intro hEA (And.intro hE1A (And.intro hbwA (And.intro hLA hgw2))))
  clear hwA hbA hEA hbwA hLg hb2 hgw hgw2 hE1A hLA hhm
  have hgt : ∀ wx : World, LentI wx g t → IntV wx.heap.size wx (some ⟨g, 0, none⟩) (n + 2) t := fun wx hb => hb.vn (by rw [H.out.2.1]) H.out.2.2.2.1
  have HG := Lib.hid hgt
  clear hgt
  have hK0 := Kq.one HA.out.2.2.1 HA.out.2.2.2.1 HA.out.2.2.2.2
  obtain ⟨B, hB⟩ : ∃ B, wA.heap.size = B := ⟨_, rfl⟩
  rw [hB] at hK0
  have K0 := Lib.hid hK0
  have hhlt := HA.out.1.lt
  have hhlt2 := HA.out.2.1.lt
  rw [hB] at hhlt hhlt2
  have HB := Lib.hid (And.intro hB (And.intro hhlt hhlt2))
  clear hK0 hB hhlt hhlt2
  have hgm : ∀ (wx : World) (Lo : List MkI), Kq w wx B [(g, t)] Lo → IntV wx.heap.size wx (some ⟨g, 0, none⟩) (n + 2) t := fun wx Lo Kx => HG.out wx (Kx.lent 0 _ rfl).1
  have HGK := Lib.hid hgm
  clear hgm
  have J0 : Hid (Below wA.heap.size wA wA) := Below.refl _ _
  obtain ⟨_, hc0, hc1, hc2⟩ := (HA.out.1.next J0.out).facts
  go_wp2_with fail
  refine (fnarrow_ok K R (some ⟨g, 0, none⟩) n (n + 2) t wA H.out.2.1 (HGK.out _ _ K0.out) H.out.2.2.2.2).mono ?_
  rintro e ya ⟨sa, ua, hNa, pa, ca, rfl, hoa, hya⟩
  have hal : ua.length ≤ 16384 := by rw [hNa.ok.len]; exact pow_le hNa.ok.k4 hNa.ok.r3
  obtain ⟨la, hla⟩ : ∃ x, ua.length = x := ⟨_, rfl⟩
  rw [hla] at hal ⊢
  have HN := Lib.hid (And.intro hNa (And.intro hla hal))
  clear hNa hla hal
  clear hc0 hc1 hc2
  go_upto_region 5 with fail
  obtain ⟨za, hz⟩ : ∃ x, x = ya.alloc (.cells #[.int .i64 (K : Int), .int .i64 (sa : Int), .slice pa la ca] 24) := ⟨_, rfl⟩
  obtain ⟨hbz, hEz⟩ := start_rule ya (.int .i64 (K : Int)) (.int .i64 (sa : Int)) (.slice pa la ca) za hz
  rw [← hz]
  have hyz := hya.trans (hbz.mono hya.size)
  have hsz : za.heap.size = ya.heap.size + 1 := by rw [hz]; simp
  have K1 := Lib.hid ((K0.out.push hya hoa).next hbz)
  have J1 := Lib.hid (J0.out.trans (hyz.mono J0.out.size))
  have Xa := Lib.hid (And.intro hEz (And.intro hyz (And.intro hsz hya.size)))
  clear hz hbz hEz hyz hsz hya hoa
  obtain ⟨_, hc0, hc1, hc2⟩ := (HA.out.1.next J1.out).facts
  go_wp2_with fail
  refine (fnarrow_ok K R (some ⟨g, 0, none⟩) n (n + 2) t za H.out.2.1 (HGK.out _ _ K1.out) H.out.2.2.2.2).mono ?_
  rintro e yb ⟨sb, ub, hNb, pb, cb, rfl, hob, hyb⟩
  obtain ⟨rfl, rfl⟩ := hNb.unique HN.out.1
  rw [HN.out.2.1]
  clear hNb
  clear hc0 hc1 hc2
  go_upto_region 6 with fail
  obtain ⟨zb, hz⟩ : ∃ x, x = yb.alloc (.cells #[.int .i64 (K : Int), .int .i64 (sb : Int), .slice pb la cb] 24) := ⟨_, rfl⟩
  obtain ⟨hbz, hEz⟩ := start_rule yb (.int .i64 (K : Int)) (.int .i64 (sb : Int)) (.slice pb la cb) zb hz
  rw [← hz]
  have hyz := hyb.trans (hbz.mono hyb.size)
  have hsz : zb.heap.size = yb.heap.size + 1 := by rw [hz]; simp
  have K2 := Lib.hid ((K1.out.push hyb hob).next hbz)
  have J2 := Lib.hid (J1.out.trans (hyz.mono J1.out.size))
  have Xb := Lib.hid (And.intro hEz (And.intro hyz (And.intro hsz hyb.size)))
  clear hz hbz hEz hyz hsz hyb hob
  obtain ⟨_, hc0, hc1, hc2⟩ := (HA.out.1.next J2.out).facts
  obtain ⟨_, hd0, hd1, hd2⟩ := (HA.out.2.1.next J2.out).facts
  go_wp2_with fail
  refine (HC.out.1 zb g (HGK.out _ _ K2.out)).mono ?_
  rintro e yc ⟨pc, cc, rfl, hoc, hyc⟩
  rw [← H.out.2.1]
  clear hc0 hc1 hc2 hd0 hd1 hd2
  go_upto_region 7 with fail
  obtain ⟨zc, hz⟩ : ∃ x, x = yc.alloc (.cells #[.int .i64 (K : Int), .int .i64 (R : Int), .slice pc n cc] 24) := ⟨_, rfl⟩
  obtain ⟨hbz, hEz⟩ := start_rule yc (.int .i64 (K : Int)) (.int .i64 (R : Int)) (.slice pc n cc) zc hz
  rw [← hz]
  have hyz := hyc.trans (hbz.mono hyc.size)
  have hsz : zc.heap.size = yc.heap.size + 1 := by rw [hz]; simp
  have K3 := Lib.hid ((K2.out.push hyc hoc).next hbz)
  have J3 := Lib.hid (J2.out.trans (hyz.mono J2.out.size))
  have Xc := Lib.hid (And.intro hEz (And.intro hyz (And.intro hsz hyc.size)))
  clear hz hbz hEz hyz hsz hyc hoc
  obtain ⟨_, hc0, hc1, hc2⟩ := (HA.out.1.next J3.out).facts
  go_wp2_with fail
  refine (HC.out.2.1 zc g (HGK.out _ _ K3.out)).mono ?_
  rintro e yd ⟨pd, cd, rfl, hod, hyd⟩
  rw [← H.out.2.1]
  clear hc0 hc1 hc2
  go_upto_region 8 with fail
  obtain ⟨zd, hz⟩ : ∃ x, x = yd.alloc (.cells #[.int .i64 (K : Int), .int .i64 (R : Int), .slice pd n cd] 24) := ⟨_, rfl⟩
  obtain ⟨hbz, hEz⟩ := start_rule yd (.int .i64 (K : Int)) (.int .i64 (R : Int)) (.slice pd n cd) zd hz
  rw [← hz]
  have hyz := hyd.trans (hbz.mono hyd.size)
  have hsz : zd.heap.size = yd.heap.size + 1 := by rw [hz]; simp
  have K4 := Lib.hid ((K3.out.push hyd hod).next hbz)
  have J4 := Lib.hid (J3.out.trans (hyz.mono J3.out.size))
  have Xd := Lib.hid (And.intro hEz (And.intro hyz (And.intro hsz hyd.size)))
  clear hz hbz hEz hyz hsz hyd hod
  obtain ⟨_, hc0, hc1, hc2⟩ := (HA.out.1.next J4.out).facts
  go_wp2_with fail
  refine (HC.out.2.2.1 zd g (HGK.out _ _ K4.out)).mono ?_
  rintro e yi ⟨pi, ci, rfl, hoi, hyi⟩
  rw [HC.out.2.2.2.1]
  clear hc0 hc1 hc2
  go_upto_region 11 with fail
  obtain ⟨zi, hz⟩ : ∃ x, x = yi.alloc (.cells #[.int .i64 (K : Int), .int .i64 (R : Int), .slice pi n ci] 24) := ⟨_, rfl⟩
  obtain ⟨hbz, hEz⟩ := start_rule yi (.int .i64 (K : Int)) (.int .i64 (R : Int)) (.slice pi n ci) zi hz
  rw [← hz]
  have hyz := hyi.trans (hbz.mono hyi.size)
  have hsz : zi.heap.size = yi.heap.size + 1 := by rw [hz]; simp
  have K5 := Lib.hid ((K4.out.push hyi hoi).next hbz)
  have J5 := Lib.hid (J4.out.trans (hyz.mono J4.out.size))
  have Xi := Lib.hid (And.intro hEz (And.intro hyz (And.intro hsz hyi.size)))
  clear hz hbz hEz hyz hsz hyi hoi
  have tcd := Xc.out.1.next Xd.out.2.1
  have tci := tcd.next Xi.out.2.1
  have tdi := Xd.out.1.next Xi.out.2.1
  have tbi := ((Xb.out.1.next Xc.out.2.1).next Xd.out.2.1).next Xi.out.2.1
  have tai := (((Xa.out.1.next Xb.out.2.1).next Xc.out.2.1).next Xd.out.2.1).next Xi.out.2.1
  have V := Lib.hid (And.intro tai (And.intro tbi (And.intro tci (And.intro tdi (And.intro Xi.out.1 (And.intro (HA.out.1.next J5.out) (HA.out.2.1.next J5.out)))))))
  clear tcd tci tdi tbi tai
  obtain ⟨_, hc0, hc1, hc2⟩ := V.out.2.2.1.facts
  obtain ⟨_, hr0, hr1, hr2⟩ := V.out.2.2.2.2.2.2.facts
  go_wp2_with fail
  refine (rules_same (K : Int) (R : Int) pc p n cc c t zi H.out.2.1 (K5.out.get 2 rfl) (K5.out.old H.out.2.2.1)).mono ?_
  rintro e x1 ⟨rfl, hx1⟩
  have G1 := Lib.hid hx1
  clear hx1 hc0 hc1 hc2 hr0 hr1 hr2
  obtain ⟨_, hc0, hc1, hc2⟩ := (V.out.2.2.2.1.next G1.out).facts
  obtain ⟨_, hr0, hr1, hr2⟩ := (V.out.2.2.2.2.2.2.next G1.out).facts
  go_wp2_with fail
  refine (rules_same (K : Int) (R : Int) pd p n cd c t x1 H.out.2.1 ((K5.out.next G1.out).get 1 rfl) ((K5.out.next G1.out).old H.out.2.2.1)).mono ?_
  rintro e x2 ⟨rfl, hx2⟩
  have G2 := Lib.hid (G1.out.trans (hx2.mono G1.out.size))
  clear hx2 hc0 hc1 hc2 hr0 hr1 hr2
  obtain ⟨_, hc0, hc1, hc2⟩ := (V.out.1.next G2.out).facts
  obtain ⟨_, hr0, hr1, hr2⟩ := (V.out.2.1.next G2.out).facts
  go_wp2_with fail
  refine (rules_same (K : Int) (_ : Int) pa pb la ca cb _ x2 HN.out.2.1.symm ((K5.out.next G2.out).get 4 rfl) ((K5.out.next G2.out).get 3 rfl)).mono ?_
  rintro e x3 ⟨rfl, hx3⟩
  have G3 := Lib.hid (G2.out.trans (hx3.mono G2.out.size))
  clear hx3 hc0 hc1 hc2 hr0 hr1 hr2
  obtain ⟨_, ha0, ha1, ha2⟩ := (V.out.1.next G3.out).facts
  obtain ⟨_, hb0, hb1, hb2⟩ := (V.out.2.1.next G3.out).facts
  obtain ⟨_, hc0, hc1, hc2⟩ := (V.out.2.2.1.next G3.out).facts
  obtain ⟨_, hd0, hd1, hd2⟩ := (V.out.2.2.2.1.next G3.out).facts
  obtain ⟨_, hi0, hi1, hi2⟩ := (V.out.2.2.2.2.1.next G3.out).facts
  have K6 := Lib.hid (K5.out.next G3.out)
  have hap := K6.out.apart_far [4, 3, 2, 1, 0] (by decide) #[.slice pa la ca, .slice pb la cb, .slice pc n cc, .slice pd n cd, .slice pi n ci] 22 5 rfl (by omega) (fun k j hk => by
    have hl1 := HN.out.2.1
    have hl2 := H.out.2.1
    have hl3 := HC.out.2.2.2.1
    have hl4 := HC.out.2.2.2.2
    have hl5 := HN.out.2.2
    rcases k with _ | _ | _ | _ | _ | k
    · obtain rfl := Option.some.inj hk
      exact ⟨_, rfl, by simp [Sl.val, hl1], by simp; omega⟩
    · obtain rfl := Option.some.inj hk
      exact ⟨_, rfl, by simp [Sl.val, hl1], by simp; omega⟩
    · obtain rfl := Option.some.inj hk
      exact ⟨_, rfl, by simp [Sl.val, hl2], by simp; omega⟩
    · obtain rfl := Option.some.inj hk
      exact ⟨_, rfl, by simp [Sl.val, hl2], by simp; omega⟩
    · obtain rfl := Option.some.inj hk
      exact ⟨_, rfl, by simp [Sl.val, hl3], by simp; omega⟩
    · simp at hk)
  have HAP := Lib.hid hap
  clear hap
  go_wp2_with fail
  refine HAP.out.mono ?_
  rintro e x4 ⟨rfl, hb4, hfar4, hs4⟩
  have hB3 : B ≤ x3.heap.size := Nat.le_trans K5.out.base G3.out.size
  have hfar : ∀ z, z < B → x4.heap[z]? = x3.heap[z]? := fun z hz => hfar4 z (by omega) (fun i f _ hf => by have := (K6.out.own i f hf).2.1; omega)
  have hL4 : LentI x4 g t := (K6.out.lent 0 _ rfl).1.block (hfar g (K6.out.lent 0 _ rfl).2.2)
  have hm4 := (V.out.2.2.2.2.2.1.next G3.out).farF (hfar _ HB.out.2.1)
  have hr4 := (V.out.2.2.2.2.2.2.next G3.out).farF (hfar _ HB.out.2.2)
  have Z := Lib.hid (And.intro hL4 (And.intro hb4 hL4.lt))
  clear hfar hfar4 hs4 hb4 hL4 hB3 ha0 ha1 ha2 hb0 hb1 hb2 hc0 hc1 hc2 hd0 hd1 hd2 hi0 hi1 hi2
  obtain ⟨_, hc0, hc1, hc2⟩ := hm4.facts
  obtain ⟨_, hr0, hr1, hr2⟩ := hr4.facts
  clear hm4 hr4
  go_wp2_with fail
  refine (keptR_any g (K : Int) (R : Int) p n (n + 2) c t x4 Z.out.1 (H.out.2.2.1.next Z.out.2.1) H.out.2.2.2.1 H.out.2.1 (by rw [H.out.2.1])).mono ?_
  rintro e x5 ⟨rfl, hx5⟩
  have HF := Lib.hid (Z.out.2.1.trans (hx5.mono Z.out.2.1.size))
  clear hx5
  go_wp2_with fail
  go_ret
  exact ⟨rfl, HF.out⟩
end Go.Proofs.YtienaogmljlmlaaDoor
