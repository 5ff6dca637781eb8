/- RingNecks: its walk. -/
import Derived.Test.YtgdjnohhofbcnaaDoorB4
import Derived.Test.YtgdjnohhofbcnaaDoorBRgI
namespace Go.Proofs.YtgdjnohhofbcnaaDoor
open Go.RowKit Go.Extern.Stop Go.Stop Go.Extern WordM RuleM NatM

set_option maxRecDepth 100000 in
set_option maxHeartbeats 32000000 in
theorem necks_long (k r x : Int) (p q : Option Addr) (n c m d : Nat) (w : World) (A : Nat → Addr) (hr : Roots w A) (hm : 200 < m) :
    Calls Tryd.prog 7 #[.agg #[.int .i64 k, .int .i64 r, .slice p n c], .slice q m d, .int .i64 x] w (Tells (.bool true) w) := by
  have ST := Lib.hid (box_rule w (.int .i64 k) (.int .i64 r) (.slice p n c))
  have H := Lib.hid (And.intro hr hm)
  clear hr
  go_enter Tryd.func7, Tryd.ntmps7
  go_upto_region 1 with fail
  obtain ⟨w0, hw0⟩ : ∃ w0, w0 = w.alloc (.cells #[.int .i64 k, .int .i64 r, .slice p n c] 24) := ⟨_, rfl⟩
  rw [← hw0]
  obtain ⟨hb0, hE0⟩ := ST.out w0 hw0
  have HE := Lib.hid (And.intro hE0 hb0)
  clear hw0 hE0 hb0
  go_wp2_with fail
  refine (awakeG w0 A (H.out.1.below HE.out.2)).mono ?_
  rintro e w1 ⟨rfl, hb1⟩
  have H1 := Lib.hid (And.intro (HE.out.2.trans (hb1.mono HE.out.2.size)) (HE.out.1.next hb1))
  clear hb1
  go_wp2_with fail
  go_ret
  exact ⟨rfl, H1.out.1⟩

set_option maxRecDepth 100000 in
set_option maxHeartbeats 32000000 in
theorem necks_bad (k r x : Int) (p q : Option Addr) (n c m d : Nat) (t l : List Int) (w : World) (A : Nat → Addr) (hr : Roots w A) (hT : TypeVar w) (hn : n = t.length) (hm : m = l.length) (h : IntV w.heap.size w p c t) (h' : IntV w.heap.size w q d l) (h200 : ¬ 200 < m) (hp : 0 < l.length) (L : List (ByteArray × Int)) (M : Nat) (hc : chkG k r t l = some (L, M)) :
    Calls Tryd.prog 7 #[.agg #[.int .i64 k, .int .i64 r, .slice p n c], .slice q m d, .int .i64 x] w (Tells (.bool true) w) := by
  have ST := Lib.hid (box_rule w (.int .i64 k) (.int .i64 r) (.slice p n c))
  have hm0 : 0 < m := by omega
  obtain ⟨N, hN⟩ : ∃ X, neckW l = X := ⟨_, rfl⟩
  have hNl : N.length = m := by rw [← hN, neckW_len]; exact hm.symm
  obtain ⟨B, hB⟩ : ∃ X, turnW l x = X := ⟨_, rfl⟩
  have hBl' : B.length = m := by rw [← hB, turnW_length]; exact hm.symm
  have hBN : neckW B = N := by rw [← hB, neck_turnW, hN]
  have cN : ∀ W, Below w.heap.size w W → Calls Tryd.prog 28 #[.slice q m d] W fun e w' => ∃ pa ca, e = .returned (.tuple #[.slice pa m ca, .nilIface]) ∧ IntO W.heap.size w' pa ca N ∧ Below W.heap.size W w' := fun W hW =>
    (gNeck_ok q m d l W hm (h'.next hW) hm0 (by omega)).mono fun e w' ⟨pa, ca, he, ho', hb⟩ => ⟨pa, ca, by rw [he, hN, hNl], by rw [← hN]; exact ho', hb⟩
  have cR : ∀ W, Below w.heap.size w W → Calls Tryd.prog 29 #[.slice q m d] W fun e w' => ∃ pa ca, e = .returned (.tuple #[.slice pa m ca, .agg #[.int .i64 0, .slice none 0 0, .slice none 0 0]]) ∧ IntO W.heap.size w' pa ca N ∧ Below W.heap.size W w' := fun W hW =>
    (neck_ref_ok q m d l W hm (h'.next hW) hm0 (by omega)).mono fun e w' ⟨pa, ca, he, ho', hb⟩ => ⟨pa, ca, by rw [he, hN, hNl], by rw [← hN]; exact ho', hb⟩
  have cT : ∀ W, Below w.heap.size w W → Calls Tryd.prog 24 #[.slice q m d, .int .i64 x] W fun e w' => ∃ pa ca, e = .returned (.slice pa m ca) ∧ IntO W.heap.size w' pa ca B ∧ Below W.heap.size W w' := fun W hW =>
    (turn_any q m d l x W hm (h'.next hW) (by omega)).mono fun e w' ⟨pa, ca, he, ho', hb⟩ => ⟨pa, ca, by rw [he, hB, hBl'], by rw [← hB]; exact ho', hb⟩
  have cB : ∀ W pb cb, IntV W.heap.size W pb cb B → Calls Tryd.prog 28 #[.slice pb m cb] W fun e w' => ∃ pa ca, e = .returned (.tuple #[.slice pa m ca, .nilIface]) ∧ IntO W.heap.size w' pa ca N ∧ Below W.heap.size W w' := fun W pb cb hv =>
    (gNeck_ok pb m cb B W hBl'.symm hv hm0 (by omega)).mono fun e w' ⟨pa, ca, he, ho', hb⟩ => ⟨pa, ca, by rw [he, hBN, hNl], by rw [← hBN]; exact ho', hb⟩
  have C := Lib.hid (And.intro cN (And.intro cR (And.intro cT cB)))
  obtain ⟨⟨L2, M2⟩, hc2'⟩ := neck_bad hp hc
  rw [hN] at hc2'
  have HL := Lib.hid hNl
  have H := Lib.hid (And.intro hr (And.intro hT (And.intro hn (And.intro hm (And.intro h (And.intro h' (And.intro hc hc2')))))))
  clear hr hT hn hm h h' hc hp hN hNl hB hBl' hBN cN cR cT cB hc2'
  go_enter Tryd.func7, Tryd.ntmps7
  go_upto_region 1 with fail
  obtain ⟨w0, hw0⟩ : ∃ w0, w0 = w.alloc (.cells #[.int .i64 k, .int .i64 r, .slice p n c] 24) := ⟨_, rfl⟩
  rw [← hw0]
  obtain ⟨hb0, hE0⟩ := ST.out w0 hw0
  have HE := Lib.hid (And.intro hE0 hb0)
  clear hw0 hE0 hb0
  go_wp2_with fail
  refine (awakeG w0 A (H.out.1.below HE.out.2)).mono ?_
  rintro e w1 ⟨rfl, hb1⟩
  have H1 := Lib.hid (And.intro (HE.out.2.trans (hb1.mono HE.out.2.size)) (HE.out.1.next hb1))
  clear hb1
  have K1 := Lib.hid (Si.start w1)
  go_wp2_with fail
  refine (C.out.1 w1 H1.out.1).mono ?_
  rintro e w2 ⟨pa, ca, rfl, hoo, hbb⟩
  have K2 := Lib.hid ((K1.out.next hbb).push hoo.toV)
  have B2 := Lib.hid (H1.out.1.trans (hbb.mono H1.out.1.size))
  clear hoo hbb
  go_wp2_with fail
  refine (C.out.2.1 w2 B2.out).mono ?_
  rintro e w3 ⟨pb, cb, rfl, hoo, hbb⟩
  go_upto_region 7 with fail
  obtain ⟨wE, hwE⟩ : ∃ z, z = w3.alloc (.cells #[.int .i64 0, .slice none 0 0, .slice none 0 0] 34) := ⟨_, rfl⟩
  obtain ⟨hbE, hEE⟩ := box_err w3 _ _ _ wE hwE
  rw [← hwE]
  obtain ⟨gE, hgE⟩ : ∃ z, w3.heap.size = z := ⟨_, rfl⟩
  rw [hgE] at hEE ⊢
  have K3 := Lib.hid (((K2.out.next hbb).push hoo.toV).next hbE)
  have B3 := Lib.hid (And.intro (H1.out.1.trans (K3.out.below.mono H1.out.1.size)) hEE)
  clear hoo hbb hwE hbE hgE hEE
  go_wp2_with fail
  refine (C.out.2.2.1 wE B3.out.1).mono ?_
  rintro e w4 ⟨pt, ct, rfl, hoo, hbb⟩
  have K4 := Lib.hid (And.intro ((K3.out.next hbb).push hoo.toV) (B3.out.2.next hbb))
  clear hoo hbb
  go_wp2_with fail
  refine (C.out.2.2.2 w4 pt ct (K4.out.1.get 0 rfl)).mono ?_
  rintro e w5 ⟨pc, cc, rfl, hoo, hbb⟩
  have K5 := Lib.hid ((K4.out.1.next hbb).push hoo.toV)
  have HErr := Lib.hid (K4.out.2.next hbb)
  clear hoo hbb
  have hI1 : ∀ wx, Below w5.heap.size w5 wx → Calls Tryd.prog 18 #[.slice pa m ca, .slice pb m cb] wx (Tells (.bool true) wx) := fun wx hbx => by
    have h1 := ints_any pa pb m m ca cb N N wx HL.out.symm HL.out.symm ((K5.out.next hbx).get 3 rfl) ((K5.out.next hbx).get 2 rfl)
    rwa [sameI_self] at h1
  have hI2 : ∀ wx, Below w5.heap.size w5 wx → Calls Tryd.prog 18 #[.slice pc m cc, .slice pa m ca] wx (Tells (.bool true) wx) := fun wx hbx => by
    have h1 := ints_any pc pa m m cc ca N N wx HL.out.symm HL.out.symm ((K5.out.next hbx).get 0 rfl) ((K5.out.next hbx).get 3 rfl)
    rwa [sameI_self] at h1
  have hIs : ∀ wx, Below w5.heap.size w5 wx → Calls Tryd.prog 19 #[.nilIface, .agg #[.int .i64 0, .slice none 0 0, .slice none 0 0]] wx (Tells (.bool true) wx) := fun wx _ => Is_none none none 0 0 0 0 wx
  go_upto_region 8 with fail
  have hxA : ∀ wx : World, Below w5.heap.size w5 wx → wx.cell? ⟨gE, 0, none⟩ = some (.int .i64 0) := fun wx hbx => (HErr.out.next hbx).facts.2.1
  have hxB : ∀ wx : World, Below w5.heap.size w5 wx → wx.cell? ⟨gE, 1, none⟩ = some (.slice none 0 0) := fun wx hbx => (HErr.out.next hbx).facts.2.2.1
  have hxC : ∀ wx : World, Below w5.heap.size w5 wx → wx.cell? ⟨gE, 2, none⟩ = some (.slice none 0 0) := fun wx hbx => (HErr.out.next hbx).facts.2.2.2
  have hd0 : Below w5.heap.size w5 w5.drew := (Below.refl _ _).drew
  go_region_held3 (fun w' => w'.cell? ⟨gE, 0, none⟩ = some (.int .i64 0) ∧ w'.cell? ⟨gE, 1, none⟩ = some (.slice none 0 0) ∧ w'.cell? ⟨gE, 2, none⟩ = some (.slice none 0 0)) (first | exact ⟨hxA _ hd0, hxB _ hd0, hxC _ hd0⟩ | exact ⟨hxA _ (Below.refl _ _), hxB _ (Below.refl _ _), hxC _ (Below.refl _ _)⟩ | exact ⟨hA3, hB3, hC3⟩ | exact ⟨hA2, hB2, hC2⟩ | exact ⟨hA1, hB1, hC1⟩ | go_keep) (first | (go_at_call 18; refine (hI2 _ hBi).mono ?_; rintro e wn ⟨rfl, hbn⟩; have hBn : Below w5.heap.size w5 wn := hBi.trans (hbn.mono hBi.size); have hA3 := hxA wn hBn; have hB3 := hxB wn hBn; have hC3 := hxC wn hBn) | (go_at_call 19; refine (hIs _ hBl).mono ?_; rintro e wi ⟨rfl, hbi⟩; have hBi : Below w5.heap.size w5 wi := hBl.trans (hbi.mono hBl.size); have hA2 := hxA wi hBi; have hB2 := hxB wi hBi; have hC2 := hxC wi hBi) | (go_at_call 18; refine (hI1 _ (by first | exact hd0 | exact Below.refl _ _)).mono ?_; rintro e wl ⟨rfl, hbl⟩; have hBl : Below w5.heap.size w5 wl := (by first | exact hd0.trans (hbl.mono hd0.size) | exact hbl); have hA1 := hxA wl hBl; have hB1 := hxB wl hBl; have hC1 := hxC wl hBl))
  all_goals
    have HN := Lib.hid hBn
    clear hxA hxB hxC hd0 hbl hBl hbi hBi hbn hBn hI1 hI2 hIs
    clear hA1 hB1 hC1 hA2 hB2 hC2 hA3 hB3 hC3
    have K6 := Lib.hid (K5.out.next HN.out)
    have B6 := Lib.hid (H1.out.1.trans (K6.out.below.mono H1.out.1.size))
    obtain ⟨_, hc0, hc1, hc2⟩ := (H1.out.2.next K6.out.below).facts
    go_wp2_with fail
    refine (gStep_bad k r p q n c m d t l wn A (H.out.1.below B6.out) (H.out.2.1.below B6.out) H.out.2.2.1 H.out.2.2.2.1 (H.out.2.2.2.2.1.next B6.out) (H.out.2.2.2.2.2.1.next B6.out) L M H.out.2.2.2.2.2.2.1).mono ?_
    rintro e w7 ⟨b7, rfl, _, hbb⟩
    have K7 := Lib.hid (K6.out.next hbb)
    have B7 := Lib.hid (B6.out.trans (hbb.mono B6.out.size))
    clear hbb hc0 hc1 hc2
    obtain ⟨_, hc0, hc1, hc2⟩ := (H1.out.2.next K7.out.below).facts
    go_wp2_with fail
    refine (gStep_bad k r p pa n c m ca t N w7 A (H.out.1.below B7.out) (H.out.2.1.below B7.out) H.out.2.2.1 HL.out.symm (H.out.2.2.2.2.1.next B7.out) (K7.out.get 3 rfl) L2 M2 H.out.2.2.2.2.2.2.2).mono ?_
    rintro e w8 ⟨b8, rfl, _, hbb⟩
    have HZ := Lib.hid (B7.out.trans (hbb.mono B7.out.size))
    clear hbb hc0 hc1 hc2
    go_wp2_with fail
    go_ret
    exact ⟨rfl, HZ.out⟩

set_option maxRecDepth 100000 in
set_option maxHeartbeats 32000000 in
theorem necks_ok (K R : Nat) (x : Int) (p q : Option Addr) (n c m d : Nat) (t l : List Int) (w : World) (A : Nat → Addr) (hr : Roots w A) (hn : n = t.length) (hm : m = l.length) (h : IntV w.heap.size w p c t) (h' : IntV w.heap.size w q d l) (h200 : ¬ 200 < m) (ho : OkR K R t) (hp : 0 < l.length) (hw : okW K l) :
    Calls Tryd.prog 7 #[.agg #[.int .i64 (K : Int), .int .i64 (R : Int), .slice p n c], .slice q m d, .int .i64 x] w (Tells (.bool true) w) := by
  have ST := Lib.hid (box_rule w (.int .i64 (K : Int)) (.int .i64 (R : Int)) (.slice p n c))
  have hm0 : 0 < m := by omega
  obtain ⟨N, hN⟩ : ∃ X, neckW l = X := ⟨_, rfl⟩
  have hNl : N.length = m := by rw [← hN, neckW_len]; exact hm.symm
  obtain ⟨B, hB⟩ : ∃ X, turnW l x = X := ⟨_, rfl⟩
  have hBl' : B.length = m := by rw [← hB, turnW_length]; exact hm.symm
  have hBN : neckW B = N := by rw [← hB, neck_turnW, hN]
  have cN : ∀ W, Below w.heap.size w W → Calls Tryd.prog 28 #[.slice q m d] W fun e w' => ∃ pa ca, e = .returned (.tuple #[.slice pa m ca, .nilIface]) ∧ IntO W.heap.size w' pa ca N ∧ Below W.heap.size W w' := fun W hW =>
    (gNeck_ok q m d l W hm (h'.next hW) hm0 (by omega)).mono fun e w' ⟨pa, ca, he, ho', hb⟩ => ⟨pa, ca, by rw [he, hN, hNl], by rw [← hN]; exact ho', hb⟩
  have cR : ∀ W, Below w.heap.size w W → Calls Tryd.prog 29 #[.slice q m d] W fun e w' => ∃ pa ca, e = .returned (.tuple #[.slice pa m ca, .agg #[.int .i64 0, .slice none 0 0, .slice none 0 0]]) ∧ IntO W.heap.size w' pa ca N ∧ Below W.heap.size W w' := fun W hW =>
    (neck_ref_ok q m d l W hm (h'.next hW) hm0 (by omega)).mono fun e w' ⟨pa, ca, he, ho', hb⟩ => ⟨pa, ca, by rw [he, hN, hNl], by rw [← hN]; exact ho', hb⟩
  have cT : ∀ W, Below w.heap.size w W → Calls Tryd.prog 24 #[.slice q m d, .int .i64 x] W fun e w' => ∃ pa ca, e = .returned (.slice pa m ca) ∧ IntO W.heap.size w' pa ca B ∧ Below W.heap.size W w' := fun W hW =>
    (turn_any q m d l x W hm (h'.next hW) (by omega)).mono fun e w' ⟨pa, ca, he, ho', hb⟩ => ⟨pa, ca, by rw [he, hB, hBl'], by rw [← hB]; exact ho', hb⟩
  have cB : ∀ W pb cb, IntV W.heap.size W pb cb B → Calls Tryd.prog 28 #[.slice pb m cb] W fun e w' => ∃ pa ca, e = .returned (.tuple #[.slice pa m ca, .nilIface]) ∧ IntO W.heap.size w' pa ca N ∧ Below W.heap.size W w' := fun W pb cb hv =>
    (gNeck_ok pb m cb B W hBl'.symm hv hm0 (by omega)).mono fun e w' ⟨pa, ca, he, ho', hb⟩ => ⟨pa, ca, by rw [he, hBN, hNl], by rw [← hBN]; exact ho', hb⟩
  have C := Lib.hid (And.intro cN (And.intro cR (And.intro cT cB)))
  have hNo : okW K N := by rw [← hN]; exact neck_ok hp hw
  obtain ⟨I, hI⟩ : ∃ X, ringW K R t l = X := ⟨_, rfl⟩
  have hIl : I.length = m := by rw [← hI, ringW_length]; exact hm.symm
  obtain ⟨J, hJ⟩ : ∃ X, ringW K R t N = X := ⟨_, rfl⟩
  have hJl : J.length = m := by rw [← hJ, ringW_length]; exact hNl
  obtain ⟨M, hM⟩ : ∃ X, neckW I = X := ⟨_, rfl⟩
  have hMl : M.length = m := by rw [← hM, neckW_len]; exact hIl
  have hMJ : neckW J = M := by rw [← hJ, ← hN, neck_ring, hI, hM]
  have cS : ∀ W, Below w.heap.size w W → Calls Tryd.prog 12 #[.agg #[.int .i64 (K : Int), .int .i64 (R : Int), .slice p n c], .slice q m d] W fun e w' => ∃ pa ca, e = .returned (.tuple #[.slice pa m ca, .nilIface]) ∧ IntO W.heap.size w' pa ca I ∧ Below W.heap.size W w' := fun W hW =>
    (gStep_ok K R p q n c m d t l W hn hm (h.next hW) (h'.next hW) ho hp (by omega) hw).mono fun e w' ⟨pa, ca, he, ho', hb⟩ => ⟨pa, ca, by rw [he, hI, hIl], by rw [← hI]; exact ho', hb⟩
  have cJ : ∀ W pb cb, Below w.heap.size w W → IntV W.heap.size W pb cb N → Calls Tryd.prog 12 #[.agg #[.int .i64 (K : Int), .int .i64 (R : Int), .slice p n c], .slice pb m cb] W fun e w' => ∃ pa ca, e = .returned (.tuple #[.slice pa m ca, .nilIface]) ∧ IntO W.heap.size w' pa ca J ∧ Below W.heap.size W w' := fun W pb cb hW hv =>
    (gStep_ok K R p pb n c m cb t N W hn hNl.symm (h.next hW) hv ho (by omega) (by omega) hNo).mono fun e w' ⟨pa, ca, he, ho', hb⟩ => ⟨pa, ca, by rw [he, hJ, hJl], by rw [← hJ]; exact ho', hb⟩
  have cP : ∀ W pb cb, IntV W.heap.size W pb cb I → Calls Tryd.prog 28 #[.slice pb m cb] W fun e w' => ∃ pa ca, e = .returned (.tuple #[.slice pa m ca, .nilIface]) ∧ IntO W.heap.size w' pa ca M ∧ Below W.heap.size W w' := fun W pb cb hv =>
    (gNeck_ok pb m cb I W hIl.symm hv hm0 (by omega)).mono fun e w' ⟨pa, ca, he, ho', hb⟩ => ⟨pa, ca, by rw [he, hM, hMl], by rw [← hM]; exact ho', hb⟩
  have cQ : ∀ W pb cb, IntV W.heap.size W pb cb J → Calls Tryd.prog 28 #[.slice pb m cb] W fun e w' => ∃ pa ca, e = .returned (.tuple #[.slice pa m ca, .nilIface]) ∧ IntO W.heap.size w' pa ca M ∧ Below W.heap.size W w' := fun W pb cb hv =>
    (gNeck_ok pb m cb J W hJl.symm hv hm0 (by omega)).mono fun e w' ⟨pa, ca, he, ho', hb⟩ => ⟨pa, ca, by rw [he, hMJ, hMl], by rw [← hMJ]; exact ho', hb⟩
  have D := Lib.hid (And.intro cS (And.intro cJ (And.intro cP cQ)))
  have HL := Lib.hid hNl
  have H := Lib.hid (And.intro hr hMl)
  clear hr hn hm h h' ho hp hw hN hNl hB hBl' hBN cN cR cT cB hNo hI hIl hJ hJl hM hMl hMJ cS cJ cP cQ
  go_enter Tryd.func7, Tryd.ntmps7
  go_upto_region 1 with fail
  obtain ⟨w0, hw0⟩ : ∃ w0, w0 = w.alloc (.cells #[.int .i64 (K : Int), .int .i64 (R : Int), .slice p n c] 24) := ⟨_, rfl⟩
  rw [← hw0]
  obtain ⟨hb0, hE0⟩ := ST.out w0 hw0
  have HE := Lib.hid (And.intro hE0 hb0)
  clear hw0 hE0 hb0
  go_wp2_with fail
  refine (awakeG w0 A (H.out.1.below HE.out.2)).mono ?_
  rintro e w1 ⟨rfl, hb1⟩
  have H1 := Lib.hid (And.intro (HE.out.2.trans (hb1.mono HE.out.2.size)) (HE.out.1.next hb1))
  clear hb1
  have K1 := Lib.hid (Si.start w1)
  go_wp2_with fail
  refine (C.out.1 w1 H1.out.1).mono ?_
  rintro e w2 ⟨pa, ca, rfl, hoo, hbb⟩
  have K2 := Lib.hid ((K1.out.next hbb).push hoo.toV)
  have B2 := Lib.hid (H1.out.1.trans (hbb.mono H1.out.1.size))
  clear hoo hbb
  go_wp2_with fail
  refine (C.out.2.1 w2 B2.out).mono ?_
  rintro e w3 ⟨pb, cb, rfl, hoo, hbb⟩
  go_upto_region 7 with fail
  obtain ⟨wE, hwE⟩ : ∃ z, z = w3.alloc (.cells #[.int .i64 0, .slice none 0 0, .slice none 0 0] 34) := ⟨_, rfl⟩
  obtain ⟨hbE, hEE⟩ := box_err w3 _ _ _ wE hwE
  rw [← hwE]
  obtain ⟨gE, hgE⟩ : ∃ z, w3.heap.size = z := ⟨_, rfl⟩
  rw [hgE] at hEE ⊢
  have K3 := Lib.hid (((K2.out.next hbb).push hoo.toV).next hbE)
  have B3 := Lib.hid (And.intro (H1.out.1.trans (K3.out.below.mono H1.out.1.size)) hEE)
  clear hoo hbb hwE hbE hgE hEE
  go_wp2_with fail
  refine (C.out.2.2.1 wE B3.out.1).mono ?_
  rintro e w4 ⟨pt, ct, rfl, hoo, hbb⟩
  have K4 := Lib.hid (And.intro ((K3.out.next hbb).push hoo.toV) (B3.out.2.next hbb))
  clear hoo hbb
  go_wp2_with fail
  refine (C.out.2.2.2 w4 pt ct (K4.out.1.get 0 rfl)).mono ?_
  rintro e w5 ⟨pc, cc, rfl, hoo, hbb⟩
  have K5 := Lib.hid ((K4.out.1.next hbb).push hoo.toV)
  have HErr := Lib.hid (K4.out.2.next hbb)
  clear hoo hbb
  have hI1 : ∀ wx, Below w5.heap.size w5 wx → Calls Tryd.prog 18 #[.slice pa m ca, .slice pb m cb] wx (Tells (.bool true) wx) := fun wx hbx => by
    have h1 := ints_any pa pb m m ca cb N N wx HL.out.symm HL.out.symm ((K5.out.next hbx).get 3 rfl) ((K5.out.next hbx).get 2 rfl)
    rwa [sameI_self] at h1
  have hI2 : ∀ wx, Below w5.heap.size w5 wx → Calls Tryd.prog 18 #[.slice pc m cc, .slice pa m ca] wx (Tells (.bool true) wx) := fun wx hbx => by
    have h1 := ints_any pc pa m m cc ca N N wx HL.out.symm HL.out.symm ((K5.out.next hbx).get 0 rfl) ((K5.out.next hbx).get 3 rfl)
    rwa [sameI_self] at h1
  have hIs : ∀ wx, Below w5.heap.size w5 wx → Calls Tryd.prog 19 #[.nilIface, .agg #[.int .i64 0, .slice none 0 0, .slice none 0 0]] wx (Tells (.bool true) wx) := fun wx _ => Is_none none none 0 0 0 0 wx
  go_upto_region 8 with fail
  have hxA : ∀ wx : World, Below w5.heap.size w5 wx → wx.cell? ⟨gE, 0, none⟩ = some (.int .i64 0) := fun wx hbx => (HErr.out.next hbx).facts.2.1
  have hxB : ∀ wx : World, Below w5.heap.size w5 wx → wx.cell? ⟨gE, 1, none⟩ = some (.slice none 0 0) := fun wx hbx => (HErr.out.next hbx).facts.2.2.1
  have hxC : ∀ wx : World, Below w5.heap.size w5 wx → wx.cell? ⟨gE, 2, none⟩ = some (.slice none 0 0) := fun wx hbx => (HErr.out.next hbx).facts.2.2.2
  have hd0 : Below w5.heap.size w5 w5.drew := (Below.refl _ _).drew
  go_region_held3 (fun w' => w'.cell? ⟨gE, 0, none⟩ = some (.int .i64 0) ∧ w'.cell? ⟨gE, 1, none⟩ = some (.slice none 0 0) ∧ w'.cell? ⟨gE, 2, none⟩ = some (.slice none 0 0)) (first | exact ⟨hxA _ hd0, hxB _ hd0, hxC _ hd0⟩ | exact ⟨hxA _ (Below.refl _ _), hxB _ (Below.refl _ _), hxC _ (Below.refl _ _)⟩ | exact ⟨hA3, hB3, hC3⟩ | exact ⟨hA2, hB2, hC2⟩ | exact ⟨hA1, hB1, hC1⟩ | go_keep) (first | (go_at_call 18; refine (hI2 _ hBi).mono ?_; rintro e wn ⟨rfl, hbn⟩; have hBn : Below w5.heap.size w5 wn := hBi.trans (hbn.mono hBi.size); have hA3 := hxA wn hBn; have hB3 := hxB wn hBn; have hC3 := hxC wn hBn) | (go_at_call 19; refine (hIs _ hBl).mono ?_; rintro e wi ⟨rfl, hbi⟩; have hBi : Below w5.heap.size w5 wi := hBl.trans (hbi.mono hBl.size); have hA2 := hxA wi hBi; have hB2 := hxB wi hBi; have hC2 := hxC wi hBi) | (go_at_call 18; refine (hI1 _ (by first | exact hd0 | exact Below.refl _ _)).mono ?_; rintro e wl ⟨rfl, hbl⟩; have hBl : Below w5.heap.size w5 wl := (by first | exact hd0.trans (hbl.mono hd0.size) | exact hbl); have hA1 := hxA wl hBl; have hB1 := hxB wl hBl; have hC1 := hxC wl hBl))
  all_goals
    have HN := Lib.hid hBn
    clear hxA hxB hxC hd0 hbl hBl hbi hBi hbn hBn hI1 hI2 hIs
    clear hA1 hB1 hC1 hA2 hB2 hC2 hA3 hB3 hC3
    have K6 := Lib.hid (K5.out.next HN.out)
    have B6 := Lib.hid (H1.out.1.trans (K6.out.below.mono H1.out.1.size))
    obtain ⟨_, hc0, hc1, hc2⟩ := (H1.out.2.next K6.out.below).facts
    go_wp2_with fail
    refine (D.out.1 wn B6.out).mono ?_
    rintro e w7 ⟨px, cx, rfl, hoo, hbb⟩
    have K7 := Lib.hid ((K6.out.next hbb).push hoo.toV)
    have B7 := Lib.hid (B6.out.trans (hbb.mono B6.out.size))
    clear hoo hbb hc0 hc1 hc2
    obtain ⟨_, hc0, hc1, hc2⟩ := (H1.out.2.next K7.out.below).facts
    go_wp2_with fail
    refine (D.out.2.1 w7 pa ca B7.out (K7.out.get 4 rfl)).mono ?_
    rintro e w8 ⟨py, cy, rfl, hoo, hbb⟩
    have K8 := Lib.hid ((K7.out.next hbb).push hoo.toV)
    clear hoo hbb hc0 hc1 hc2
    go_wp2_with fail
    refine (D.out.2.2.1 w8 px cx (K8.out.get 1 rfl)).mono ?_
    rintro e w9 ⟨pu, cu, rfl, hoo, hbb⟩
    have K9 := Lib.hid ((K8.out.next hbb).push hoo.toV)
    clear hoo hbb
    go_wp2_with fail
    refine (D.out.2.2.2 w9 py cy (K9.out.get 1 rfl)).mono ?_
    rintro e wA ⟨pv, cv, rfl, hoo, hbb⟩
    have KA := Lib.hid ((K9.out.next hbb).push hoo.toV)
    clear hoo hbb
    go_wp2_with fail
    refine (ints_any pu pv m m cu cv M M wA H.out.2.symm H.out.2.symm (KA.out.get 1 rfl) (KA.out.get 0 rfl)).mono ?_
    rintro e wB ⟨rfl, hbb⟩
    rw [sameI_self]
    have HZ := Lib.hid (H1.out.1.trans ((KA.out.next hbb).below.mono H1.out.1.size))
    clear hbb
    go_wp2_with fail
    go_ret
    exact ⟨rfl, HZ.out⟩

set_option maxRecDepth 100000 in
set_option maxHeartbeats 32000000 in
theorem necks_none (k r x : Int) (p q : Option Addr) (n c d : Nat) (t : List Int) (w : World) (A : Nat → Addr) (hr : Roots w A) (hT : TypeVar w) (hn : n = t.length) (h : IntV w.heap.size w p c t) (h' : IntV w.heap.size w q d []) :
    Calls Tryd.prog 7 #[.agg #[.int .i64 k, .int .i64 r, .slice p n c], .slice q 0 d, .int .i64 x] w (Tells (.bool true) w) := by
  have ST := Lib.hid (box_rule w (.int .i64 k) (.int .i64 r) (.slice p n c))
  have hc : ∃ y, chkG k r t [] = some y := by
    cases hk : chkG k r t [] with
    | some y => exact ⟨y, rfl⟩
    | none =>
      obtain ⟨_, _, _, _, _, h0, _⟩ := chkG_none hk
      simp at h0
  obtain ⟨⟨L, M⟩, hc⟩ := hc
  have H := Lib.hid (And.intro hr (And.intro hT (And.intro hn (And.intro h (And.intro h' hc)))))
  clear hr hT hn h h' hc
  go_enter Tryd.func7, Tryd.ntmps7
  go_upto_region 1 with fail
  obtain ⟨w0, hw0⟩ : ∃ w0, w0 = w.alloc (.cells #[.int .i64 k, .int .i64 r, .slice p n c] 24) := ⟨_, rfl⟩
  rw [← hw0]
  obtain ⟨hb0, hE0⟩ := ST.out w0 hw0
  have HE := Lib.hid (And.intro hE0 hb0)
  clear hw0 hE0 hb0
  go_wp2_with fail
  refine (awakeG w0 A (H.out.1.below HE.out.2)).mono ?_
  rintro e w1 ⟨rfl, hb1⟩
  have H1 := Lib.hid (And.intro (HE.out.2.trans (hb1.mono HE.out.2.size)) (HE.out.1.next hb1))
  clear hb1
  go_wp2_with fail
  refine (gNeck_bad q d w1 A (H.out.1.below H1.out.1)).mono ?_
  rintro e w2 ⟨b2, rfl, hl2, hbb⟩
  have B2 := Lib.hid (And.intro hbb hl2)
  clear hbb hl2
  go_wp2_with fail
  refine (neck_ref_bad q d w2).mono ?_
  rintro e w3 ⟨g, g', rfl, hwv, hbb⟩
  go_upto_region 7 with fail
  obtain ⟨wE, hwE⟩ : ∃ z, z = w3.alloc (.cells #[.int .i64 3, .slice (some ⟨g, 0, none⟩) 1 1, .slice (some ⟨g', 0, none⟩) 1 1] 34) := ⟨_, rfl⟩
  obtain ⟨hbE, hEE⟩ := box_err w3 _ _ _ wE hwE
  rw [← hwE]
  obtain ⟨gE, hgE⟩ : ∃ z, w3.heap.size = z := ⟨_, rfl⟩
  rw [hgE] at hEE ⊢
  have h2E := hbb.trans (hbE.mono hbb.size)
  have B3 := Lib.hid (And.intro (B2.out.1.trans (h2E.mono B2.out.1.size)) (And.intro hEE (And.intro (B2.out.2.next h2E) (hwv.below hbE))))
  clear hbb hwE hbE hgE hEE h2E hwv
  have htu := turn_any q 0 d [] x wE rfl (H.out.2.2.2.2.1.next (H1.out.1.trans (B3.out.1.mono H1.out.1.size))) (by simp)
  unfold IntPost at htu
  rw [show turnW [] x = [] from List.eq_nil_of_length_eq_zero (by rw [turnW_length]; rfl)] at htu
  have HTU := Lib.hid htu
  clear htu
  go_wp2_with fail
  refine HTU.out.mono ?_
  rintro e w4 ⟨pt, ct, rfl, _, hbb⟩
  have B4 := Lib.hid (B3.out.1.trans (hbb.mono B3.out.1.size))
  have HE4 := Lib.hid (And.intro (B3.out.2.1.next hbb) (And.intro (B3.out.2.2.1.next hbb) (B3.out.2.2.2.below hbb)))
  clear hbb HTU
  have hnb := gNeck_bad pt ct w4 A ((H.out.1.below H1.out.1).below B4.out)
  have HNB := Lib.hid hnb
  clear hnb
  go_wp2_with fail
  refine HNB.out.mono ?_
  rintro e w5 ⟨b5, rfl, _, hbb⟩
  have B5 := Lib.hid (B4.out.trans (hbb.mono B4.out.size))
  have HErr := Lib.hid (HE4.out.1.next hbb)
  have HCh := Lib.hid (And.intro (HE4.out.2.1.next hbb) (HE4.out.2.2.below hbb))
  clear hbb HNB
  have hI1 : ∀ wx, Below w5.heap.size w5 wx → Calls Tryd.prog 18 #[.slice none 0 0, .slice none 0 0] wx (Tells (.bool true) wx) := fun wx _ => by
    have h1 := ints_any none none 0 0 0 0 [] [] wx rfl rfl (IntV.nothing wx) (IntV.nothing wx)
    rwa [sameI_self] at h1
  have hI2 := hI1
  have hIs : ∀ wx, Below w5.heap.size w5 wx → Calls Tryd.prog 19 #[.iface 61 (.pointer (some ⟨b2, 0, none⟩)), .agg #[.int .i64 3, .slice (some ⟨g, 0, none⟩) 1 1, .slice (some ⟨g', 0, none⟩) 1 1]] wx (Tells (.bool true) wx) := fun wx hbx =>
    is_chn (x := some ([(ringOp, 0)], 3)) (((H.out.1.below H1.out.1).below B5.out).below hbx) (((H.out.2.1.below H1.out.1).below B5.out).below hbx) (fun y hy => by obtain rfl := Option.some.inj hy; simp) ⟨b2, rfl, HCh.out.1.next hbx⟩ ⟨rfl, rfl, HCh.out.2.below hbx⟩
  go_upto_region 8 with fail
  have hxA : ∀ wx : World, Below w5.heap.size w5 wx → wx.cell? ⟨gE, 0, none⟩ = some (.int .i64 3) := fun wx hbx => (HErr.out.next hbx).facts.2.1
  have hxB : ∀ wx : World, Below w5.heap.size w5 wx → wx.cell? ⟨gE, 1, none⟩ = some (.slice (some ⟨g, 0, none⟩) 1 1) := fun wx hbx => (HErr.out.next hbx).facts.2.2.1
  have hxC : ∀ wx : World, Below w5.heap.size w5 wx → wx.cell? ⟨gE, 2, none⟩ = some (.slice (some ⟨g', 0, none⟩) 1 1) := fun wx hbx => (HErr.out.next hbx).facts.2.2.2
  have hd0 : Below w5.heap.size w5 w5.drew := (Below.refl _ _).drew
  go_region_held3 (fun w' => w'.cell? ⟨gE, 0, none⟩ = some (.int .i64 3) ∧ w'.cell? ⟨gE, 1, none⟩ = some (.slice (some ⟨g, 0, none⟩) 1 1) ∧ w'.cell? ⟨gE, 2, none⟩ = some (.slice (some ⟨g', 0, none⟩) 1 1)) (first | exact ⟨hxA _ hd0, hxB _ hd0, hxC _ hd0⟩ | exact ⟨hxA _ (Below.refl _ _), hxB _ (Below.refl _ _), hxC _ (Below.refl _ _)⟩ | exact ⟨hA3, hB3, hC3⟩ | exact ⟨hA2, hB2, hC2⟩ | exact ⟨hA1, hB1, hC1⟩ | go_keep) (first | (go_at_call 18; refine (hI2 _ hBi).mono ?_; rintro e wn ⟨rfl, hbn⟩; have hBn : Below w5.heap.size w5 wn := hBi.trans (hbn.mono hBi.size); have hA3 := hxA wn hBn; have hB3 := hxB wn hBn; have hC3 := hxC wn hBn) | (go_at_call 19; refine (hIs _ hBl).mono ?_; rintro e wi ⟨rfl, hbi⟩; have hBi : Below w5.heap.size w5 wi := hBl.trans (hbi.mono hBl.size); have hA2 := hxA wi hBi; have hB2 := hxB wi hBi; have hC2 := hxC wi hBi) | (go_at_call 18; refine (hI1 _ (by first | exact hd0 | exact Below.refl _ _)).mono ?_; rintro e wl ⟨rfl, hbl⟩; have hBl : Below w5.heap.size w5 wl := (by first | exact hd0.trans (hbl.mono hd0.size) | exact hbl); have hA1 := hxA wl hBl; have hB1 := hxB wl hBl; have hC1 := hxC wl hBl))
  all_goals
    have HN := Lib.hid hBn
    clear hxA hxB hxC hd0 hbl hBl hbi hBi hbn hBn hI1 hI2 hIs
    clear hA1 hB1 hC1 hA2 hB2 hC2 hA3 hB3 hC3
    have B6 := Lib.hid (B5.out.trans (HN.out.mono B5.out.size))
    have BW := Lib.hid (H1.out.1.trans (B6.out.mono H1.out.1.size))
    obtain ⟨_, hc0, hc1, hc2⟩ := (H1.out.2.next B6.out).facts
    go_wp2_with fail
    refine (gStep_bad k r p q n c 0 d t [] wn A (H.out.1.below BW.out) (H.out.2.1.below BW.out) H.out.2.2.1 rfl (H.out.2.2.2.1.next BW.out) (H.out.2.2.2.2.1.next BW.out) L M H.out.2.2.2.2.2).mono ?_
    rintro e w7 ⟨b7, rfl, _, hbb⟩
    have B7 := Lib.hid (And.intro (BW.out.trans (hbb.mono BW.out.size)) (B6.out.trans (hbb.mono B6.out.size)))
    clear hbb hc0 hc1 hc2
    obtain ⟨_, hc0, hc1, hc2⟩ := (H1.out.2.next B7.out.2).facts
    go_wp2_with fail
    refine (gStep_bad k r p none n c 0 0 t [] w7 A (H.out.1.below B7.out.1) (H.out.2.1.below B7.out.1) H.out.2.2.1 rfl (H.out.2.2.2.1.next B7.out.1) (IntV.nothing w7) L M H.out.2.2.2.2.2).mono ?_
    rintro e w8 ⟨b8, rfl, _, hbb⟩
    have HZ := Lib.hid (B7.out.1.trans (hbb.mono B7.out.1.size))
    clear hbb hc0 hc1 hc2
    go_wp2_with fail
    go_ret
    exact ⟨rfl, HZ.out⟩
end Go.Proofs.YtgdjnohhofbcnaaDoor
