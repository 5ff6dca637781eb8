/- RingTurns: its walk. -/
import Derived.Test.YtgdjnohhofbcnaaDoorB4
import Derived.Test.YtgdjnohhofbcnaaDoorB3
import Derived.Test.YtgdjnohhofbcnaaDoorBRgGoesOnWalk
namespace Go.Proofs.YtgdjnohhofbcnaaDoor
open Go.RowKit Go.Extern.Stop Go.Stop Go.Extern WordM RuleM NatM

theorem turnW_ring (k r : Nat) (t l : List Int) (z : Int) : ringW k r t (turnW l z) = turnW (ringW k r t l) z := by
  unfold turnW
  rw [ring_rot]
  unfold turnN
  rw [ringW_length]
def TurnsRel (w1 : World) (l : List Int) (m R : Nat) (v19 v20 : Value) (wr : World) : Prop :=
  ∃ (j : Nat) (p' : Option Addr) (c' : Nat), j ≤ m + 2 * R ∧ v20 = .int .i64 ((j : Int) - (R : Int)) ∧ v19 = .slice p' j c' ∧ IntO w1.heap.size wr p' c' ((extW l R).take j) ∧ Below w1.heap.size w1 wr

set_option maxRecDepth 100000 in
set_option maxHeartbeats 16000000 in
theorem turns_bad (k r x y : Int) (p q : Option Addr) (n c m d : Nat) (t l : List Int) (w : World) (A : Nat → Addr) (hr : Roots w A) (hT : TypeVar w) (hn : n = t.length) (hm : m = l.length) (h : IntV w.heap.size w p c t) (h' : IntV w.heap.size w q d l) (L : List (ByteArray × Int)) (M : Nat) (hc : chkG k r t l = some (L, M)) :
    Calls Tryd.prog 5 #[.agg #[.int .i64 k, .int .i64 r, .slice p n c], .slice q m d, .int .i64 x, .int .i64 y] w (Tells (.bool true) w) := by
  have ST := Lib.hid (box_rule w (.int .i64 k) (.int .i64 r) (.slice p n c))
  have H := Lib.hid (And.intro hr (And.intro hT (And.intro hn (And.intro hm (And.intro h (And.intro h' hc))))))
  clear hr hT hn hm h h' hc
  go_enter Tryd.func5, Tryd.ntmps5
  go_upto_region 1 with fail
  obtain ⟨w0, hw0⟩ : ∃ w0, w0 = w.alloc (.cells #[.int .i64 k, .int .i64 r, .slice p n c] 24) := ⟨_, rfl⟩
  rw [← hw0]
  obtain ⟨hb0, hE0⟩ := ST.out w0 hw0
  have HE := Lib.hid (And.intro hE0 hb0)
  clear hw0 hE0 hb0
  go_wp2_with fail
  refine (awakeG w0 A (H.out.1.below HE.out.2)).mono ?_
  rintro e w1 ⟨rfl, hb1⟩
  have H1 := Lib.hid (And.intro (HE.out.2.trans (hb1.mono HE.out.2.size)) (HE.out.1.next hb1))
  clear hb1
  obtain ⟨_, hc0, hc1, hc2⟩ := H1.out.2.facts
  go_wp2_with fail
  refine (gStep_bad k r p q n c m d t l w1 A (H.out.1.below H1.out.1) (H.out.2.1.below H1.out.1) H.out.2.2.1 H.out.2.2.2.1 (H.out.2.2.2.2.1.next H1.out.1) (H.out.2.2.2.2.2.1.next H1.out.1) L M H.out.2.2.2.2.2.2).mono ?_
  rintro e w2 ⟨b, rfl, _, hb2⟩
  have H2 := Lib.hid (H1.out.1.trans (hb2.mono H1.out.1.size))
  clear hb2 hc0 hc1 hc2
  go_wp2_with fail
  go_ret
  exact ⟨rfl, H2.out⟩

set_option maxRecDepth 100000 in
set_option maxHeartbeats 16000000 in
theorem turns_long (K R : Nat) (x y : Int) (p q : Option Addr) (n c m d : Nat) (t l : List Int) (w : World) (A : Nat → Addr) (hr : Roots w A) (hn : n = t.length) (hm : m = l.length) (h : IntV w.heap.size w p c t) (h' : IntV w.heap.size w q d l) (ho : OkR K R t) (h0 : 0 < l.length) (h4 : l.length ≤ 4096) (hw : okW K l) (h100 : 100 < m) :
    Calls Tryd.prog 5 #[.agg #[.int .i64 (K : Int), .int .i64 (R : Int), .slice p n c], .slice q m d, .int .i64 x, .int .i64 y] w (Tells (.bool true) w) := by
  have ST := Lib.hid (box_rule w (.int .i64 (K : Int)) (.int .i64 (R : Int)) (.slice p n c))
  have hIl := ringW_length K R t l
  rw [← hm] at hIl
  have H := Lib.hid (And.intro hr (And.intro hn (And.intro hm (And.intro h (And.intro h' (And.intro ho (And.intro h0 (And.intro h4 (And.intro hw hIl)))))))))
  clear hr hn hm h h' ho h0 h4 hw hIl
  go_enter Tryd.func5, Tryd.ntmps5
  go_upto_region 1 with fail
  obtain ⟨w0, hw0⟩ : ∃ w0, w0 = w.alloc (.cells #[.int .i64 (K : Int), .int .i64 (R : Int), .slice p n c] 24) := ⟨_, rfl⟩
  rw [← hw0]
  obtain ⟨hb0, hE0⟩ := ST.out w0 hw0
  have HE := Lib.hid (And.intro hE0 hb0)
  clear hw0 hE0 hb0
  go_wp2_with fail
  refine (awakeG w0 A (H.out.1.below HE.out.2)).mono ?_
  rintro e w1 ⟨rfl, hb1⟩
  have H1 := Lib.hid (And.intro (HE.out.2.trans (hb1.mono HE.out.2.size)) (HE.out.1.next hb1))
  clear hb1
  obtain ⟨_, hc0, hc1, hc2⟩ := H1.out.2.facts
  go_wp2_with fail
  refine (gStep_ok K R p q n c m d t l w1 H.out.2.1 H.out.2.2.1 (H.out.2.2.2.1.next H1.out.1) (H.out.2.2.2.2.1.next H1.out.1) H.out.2.2.2.2.2.1 H.out.2.2.2.2.2.2.1 H.out.2.2.2.2.2.2.2.1 H.out.2.2.2.2.2.2.2.2.1).mono ?_
  rintro e w2 ⟨p2, c2, rfl, _, hb2⟩
  rw [H.out.2.2.2.2.2.2.2.2.2]
  have H2 := Lib.hid (H1.out.1.trans (hb2.mono H1.out.1.size))
  clear hb2 hc0 hc1 hc2
  go_wp2_with fail
  go_ret
  exact ⟨rfl, H2.out⟩

set_option maxRecDepth 100000 in
set_option maxHeartbeats 32000000 in
theorem turns_ok (K R : Nat) (x y : Int) (p q : Option Addr) (n c m d : Nat) (t l : List Int) (w : World) (A : Nat → Addr) (hr : Roots w A) (hn : n = t.length) (hm : m = l.length) (h : IntV w.heap.size w p c t) (h' : IntV w.heap.size w q d l) (ho : OkR K R t) (h0 : 0 < l.length) (h100 : ¬ 100 < m) (hw : okW K l) :
    Calls Tryd.prog 5 #[.agg #[.int .i64 (K : Int), .int .i64 (R : Int), .slice p n c], .slice q m d, .int .i64 x, .int .i64 y] w (Tells (.bool true) w) := by
  have ST := Lib.hid (box_rule w (.int .i64 (K : Int)) (.int .i64 (R : Int)) (.slice p n c))
  obtain ⟨D, hD4, q1, q2, q3⟩ := round_mod y 4 (by omega) (by omega)
  obtain ⟨ys, hys⟩ : ∃ z, y.tmod ((4 : Nat) : Int) = z := ⟨_, rfl⟩
  rw [hys] at q1 q2 q3
  have hys' : y.tmod 4 = ys := hys
  have q3' : (ys + 4).tmod 4 = (D : Int) := q3
  have wys : IntKind.i64.wrap (ys + 4) = ys + 4 := by rw [IntWalk.i64_in _ (by omega)]
  obtain ⟨N, hN⟩ : ∃ N, D + 1 = N := ⟨_, rfl⟩
  have wN : IntKind.i64.wrap ((D : Int) + 1) = (N : Int) := by rw [IntWalk.i64_in _ (by omega)]; omega
  have hR3 := ho.r3
  have hm0 : 0 < m := by omega
  have hle := h'.le
  have hdm : m ≤ d := by omega
  obtain ⟨I, hI⟩ : ∃ X, ringW K R t l = X := ⟨_, rfl⟩
  have hIl : I.length = m := by rw [← hI, ringW_length]; exact hm.symm
  have hIo : okW K I := by rw [← hI]; exact ringW_ok ho h0 hw
  obtain ⟨G, hG⟩ : ∃ g, N * m = g := ⟨_, rfl⟩
  have hG4 : G ≤ 400 := by rw [← hG]; exact Nat.mul_le_mul (by omega : N ≤ 4) (by omega : m ≤ 100)
  have hG1 : 0 < G := by rw [← hG]; exact Nat.mul_pos (by omega) hm0
  obtain ⟨V, hV⟩ : ∃ X, timesW l N = X := ⟨_, rfl⟩
  have hVl : V.length = G := by rw [← hV, timesW_length, ← hm, hG]
  have hVo : okW K V := fun z hz => by
    obtain ⟨i, hi⟩ := List.mem_iff_getElem?.1 hz
    have hlt := (List.getElem?_eq_some_iff.1 hi).1
    rw [← hV, timesW_length] at hlt
    rw [← hV, timesW_get l N i hlt] at hi
    obtain rfl := Option.some.inj hi
    exact F_ok h0 hw _
  obtain ⟨U, hU⟩ : ∃ X, timesW I N = X := ⟨_, rfl⟩
  have hUl : U.length = G := by rw [← hU, timesW_length, hIl, hG]
  have hVU : ringW K R t V = U := by rw [← hV, ring_times (by omega), hI, hU]
  obtain ⟨B, hB⟩ : ∃ X, turnW l x = X := ⟨_, rfl⟩
  have hBl : B.length = m := by rw [← hB, turnW_length]; exact hm.symm
  have hBo : okW K B := fun z hz => by
    obtain ⟨i, hi⟩ := List.mem_iff_getElem?.1 hz
    have hlt := (List.getElem?_eq_some_iff.1 hi).1
    rw [F_get hlt] at hi
    obtain rfl := Option.some.inj hi
    rw [← hB]
    unfold turnW
    rw [F_rot]
    exact F_ok h0 hw _
  obtain ⟨J, hJ⟩ : ∃ X, turnW I x = X := ⟨_, rfl⟩
  have hJl : J.length = m := by rw [← hJ, turnW_length]; exact hIl
  have hBJ : ringW K R t B = J := by rw [← hB, turnW_ring, hI, hJ]
  have hq4 : N ≤ 4096 / m := by
    have h1 : 4096 / 100 ≤ 4096 / m := Nat.div_le_div_left (by omega) hm0
    omega
  have cA : ∀ W, Below w.heap.size w W → Calls Tryd.prog 12 #[.agg #[.int .i64 (K : Int), .int .i64 (R : Int), .slice p n c], .slice q m d] W fun e w' => ∃ pa ca, e = .returned (.tuple #[.slice pa m ca, .nilIface]) ∧ IntO W.heap.size w' pa ca I ∧ Below W.heap.size W w' := fun W hW =>
    (gStep_ok K R p q n c m d t l W hn hm (h.next hW) (h'.next hW) ho h0 (by omega) hw).mono fun e w' ⟨pa, ca, he, ho', hb⟩ => ⟨pa, ca, by rw [he, hI, hIl], by rw [← hI]; exact ho', hb⟩
  have cT : ∀ W, Below w.heap.size w W → Calls Tryd.prog 24 #[.slice q m d, .int .i64 x] W fun e w' => ∃ pa ca, e = .returned (.slice pa m ca) ∧ IntO W.heap.size w' pa ca B ∧ Below W.heap.size W w' := fun W hW =>
    (turn_any q m d l x W hm (h'.next hW) (by omega)).mono fun e w' ⟨pa, ca, he, ho', hb⟩ => ⟨pa, ca, by rw [he, hB, hBl], by rw [← hB]; exact ho', hb⟩
  have cB : ∀ W pb cb, Below w.heap.size w W → IntV W.heap.size W pb cb B → Calls Tryd.prog 12 #[.agg #[.int .i64 (K : Int), .int .i64 (R : Int), .slice p n c], .slice pb m cb] W fun e w' => ∃ pa ca, e = .returned (.tuple #[.slice pa m ca, .nilIface]) ∧ IntO W.heap.size w' pa ca J ∧ Below W.heap.size W w' := fun W pb cb hW hv =>
    (gStep_ok K R p pb n c m cb t B W hn hBl.symm (h.next hW) hv ho (by omega) (by omega) hBo).mono fun e w' ⟨pa, ca, he, ho', hb⟩ => ⟨pa, ca, by rw [he, hBJ, hJl], by rw [← hBJ]; exact ho', hb⟩
  have cV : ∀ W, Below w.heap.size w W → Calls Tryd.prog 25 #[.slice q m d, .int .i64 (N : Int)] W fun e w' => ∃ pa ca, e = .returned (.tuple #[.slice pa G ca, .nilIface]) ∧ IntO W.heap.size w' pa ca V ∧ Below W.heap.size W w' := fun W hW =>
    (times_ok q m d N l W hm (h'.next hW) (by omega) (Or.inr hq4)).mono fun e w' ⟨pa, ca, he, ho', hb⟩ => ⟨pa, ca, by rw [he, hV, hVl], by rw [← hV]; exact ho', hb⟩
  have cC : ∀ W pb cb, Below w.heap.size w W → IntV W.heap.size W pb cb V → Calls Tryd.prog 12 #[.agg #[.int .i64 (K : Int), .int .i64 (R : Int), .slice p n c], .slice pb G cb] W fun e w' => ∃ pa ca, e = .returned (.tuple #[.slice pa G ca, .nilIface]) ∧ IntO W.heap.size w' pa ca U ∧ Below W.heap.size W w' := fun W pb cb hW hv =>
    (gStep_ok K R p pb n c G cb t V W hn hVl.symm (h.next hW) hv ho (by omega) (by omega) hVo).mono fun e w' ⟨pa, ca, he, ho', hb⟩ => ⟨pa, ca, by rw [he, hVU, hUl], by rw [← hVU]; exact ho', hb⟩
  have cU : ∀ W pb cb, IntV W.heap.size W pb cb I → Calls Tryd.prog 25 #[.slice pb m cb, .int .i64 (N : Int)] W fun e w' => ∃ pa ca, e = .returned (.tuple #[.slice pa G ca, .nilIface]) ∧ IntO W.heap.size w' pa ca U ∧ Below W.heap.size W w' := fun W pb cb hv =>
    (times_ok pb m cb N I W hIl.symm hv (by omega) (Or.inr hq4)).mono fun e w' ⟨pa, ca, he, ho', hb⟩ => ⟨pa, ca, by rw [he, hU, hUl], by rw [← hU]; exact ho', hb⟩
  have cJ : ∀ W pb cb, IntV W.heap.size W pb cb I → Calls Tryd.prog 24 #[.slice pb m cb, .int .i64 x] W fun e w' => ∃ pa ca, e = .returned (.slice pa m ca) ∧ IntO W.heap.size w' pa ca J ∧ Below W.heap.size W w' := fun W pb cb hv =>
    (turn_any pb m cb I x W hIl.symm hv (by omega)).mono fun e w' ⟨pa, ca, he, ho', hb⟩ => ⟨pa, ca, by rw [he, hJ, hJl], by rw [← hJ]; exact ho', hb⟩
  obtain ⟨X, hX⟩ : ∃ X, extW l R = X := ⟨_, rfl⟩
  obtain ⟨Q, hQ⟩ : ∃ Q, m + 2 * R = Q := ⟨_, rfl⟩
  have hXl : X.length = Q := by rw [← hX, extW_length, ← hm, hQ]
  have hXo : okW K X := by rw [← hX]; exact extW_ok h0 hw R
  have cX : ∀ W pb cb, Below w.heap.size w W → IntV W.heap.size W pb cb X → Calls Tryd.prog 26 #[.agg #[.int .i64 (K : Int), .int .i64 (R : Int), .slice p n c], .slice pb Q cb] W fun e w' => ∃ pa ca, e = .returned (.tuple #[.slice pa m ca, .nilIface]) ∧ IntO W.heap.size w' pa ca I ∧ Below W.heap.size W w' := fun W pb cb hW hv => by
    have h1 := step_ok (K : Int) (R : Int) p pb n c Q cb t X W hn hXl.symm (h.next hW) hv (chkT_ok ho (by omega) hXo)
    have h2 : imgW (K : Int).toNat (R : Int).toNat t X = I := by rw [Int.toNat_natCast, Int.toNat_natCast, ← hX, ← hI]; rfl
    rw [h2] at h1
    exact h1.mono fun e w' ⟨pa, ca, he, ho', hb⟩ => ⟨pa, ca, by rw [he, hIl], ho', hb⟩
  have C := Lib.hid (And.intro cA (And.intro cT (And.intro cB (And.intro cV (And.intro cC (And.intro cU (And.intro cJ cX)))))))
  have H := Lib.hid (And.intro hr (And.intro hm (And.intro h' (And.intro hIl (And.intro hJl (And.intro hUl (And.intro hXl (And.intro hX hQ))))))))
  clear hr hn hm h h' ho h0 hw hys q1 q2 q3 hD4 hI hIl hIo hG hV hVl hVo hU hUl hVU hB hBl hBo hJ hJl hBJ hq4 cA cT cB cV cC cU cJ cX hX hXl hXo hle hN hQ
  go_enter Tryd.func5, Tryd.ntmps5
  go_upto_region 1 with fail
  obtain ⟨w0, hw0⟩ : ∃ w0, w0 = w.alloc (.cells #[.int .i64 (K : Int), .int .i64 (R : Int), .slice p n c] 24) := ⟨_, rfl⟩
  rw [← hw0]
  obtain ⟨hb0, hE0⟩ := ST.out w0 hw0
  have HE := Lib.hid (And.intro hE0 hb0)
  clear hw0 hE0 hb0
  go_wp2_with fail
  refine (awakeG w0 A (H.out.1.below HE.out.2)).mono ?_
  rintro e w1 ⟨rfl, hb1⟩
  have H1 := Lib.hid (And.intro (HE.out.2.trans (hb1.mono HE.out.2.size)) (HE.out.1.next hb1))
  clear hb1
  obtain ⟨_, hc0, hc1, hc2⟩ := H1.out.2.facts
  have K1 := Lib.hid (Si.start w1)
  go_wp2_with fail
  refine (C.out.1 w1 H1.out.1).mono ?_
  rintro e w2 ⟨pa, ca, rfl, hoo, hbb⟩
  have K2 := Lib.hid ((K1.out.next hbb).push hoo.toV)
  have B2 := Lib.hid (H1.out.1.trans (hbb.mono H1.out.1.size))
  clear hoo hbb hc0 hc1 hc2
  have hR2 := Lib.hid (H1.out.2.next K2.out.below)
  go_upto_region 6 with fail
  have hxA : ∀ wx : World, Below w2.heap.size w2 wx → wx.cell? ⟨w.heap.size, 0, none⟩ = some (.int .i64 (K : Int)) := fun wx hbx => (hR2.out.next hbx).facts.2.1
  have hxB : ∀ wx : World, Below w2.heap.size w2 wx → wx.cell? ⟨w.heap.size, 1, none⟩ = some (.int .i64 (R : Int)) := fun wx hbx => (hR2.out.next hbx).facts.2.2.1
  have hxC : ∀ wx : World, Below w2.heap.size w2 wx → wx.cell? ⟨w.heap.size, 2, none⟩ = some (.slice p n c) := fun wx hbx => (hR2.out.next hbx).facts.2.2.2
  have hd0 : Below w2.heap.size w2 w2.drew := (Below.refl _ _).drew
  have hTu : ∀ wx, Below w2.heap.size w2 wx → Calls Tryd.prog 24 #[.slice q m d, .int .i64 x] wx fun e w' => ∃ pa ca, e = .returned (.slice pa m ca) ∧ IntO wx.heap.size w' pa ca B ∧ Below wx.heap.size wx w' := fun wx hbx => C.out.2.1 wx (B2.out.trans (hbx.mono B2.out.size))
  have hSt : ∀ wx pb cb, Below w2.heap.size w2 wx → IntV wx.heap.size wx pb cb B → Calls Tryd.prog 12 #[.agg #[.int .i64 (K : Int), .int .i64 (R : Int), .slice p n c], .slice pb m cb] wx fun e w' => ∃ pa ca, e = .returned (.tuple #[.slice pa m ca, .nilIface]) ∧ IntO wx.heap.size w' pa ca J ∧ Below wx.heap.size wx w' := fun wx pb cb hbx => C.out.2.2.1 wx pb cb (B2.out.trans (hbx.mono B2.out.size))
  go_region_held3 (fun w' => w'.cell? ⟨w.heap.size, 0, none⟩ = some (.int .i64 (K : Int)) ∧ w'.cell? ⟨w.heap.size, 1, none⟩ = some (.int .i64 (R : Int)) ∧ w'.cell? ⟨w.heap.size, 2, none⟩ = some (.slice p n c)) (first | exact ⟨hxA _ hd0, hxB _ hd0, hxC _ hd0⟩ | exact ⟨hxA _ (Below.refl _ _), hxB _ (Below.refl _ _), hxC _ (Below.refl _ _)⟩ | exact ⟨hA2, hB2, hC2⟩ | exact ⟨hA1, hB1, hC1⟩ | go_keep) (first | (go_at_call 24; refine (hTu _ (by first | exact hd0 | exact Below.refl _ _)).mono ?_; rintro e wl ⟨pt, ct, rfl, hol, hbl⟩; have hBl : Below w2.heap.size w2 wl := (by first | exact hd0.trans (hbl.mono hd0.size) | exact hbl); have hA1 := hxA wl hBl; have hB1 := hxB wl hBl; have hC1 := hxC wl hBl) | (go_at_call 12; refine (hSt _ _ _ hBl hol.toV).mono ?_; rintro e wm ⟨pb, cb, rfl, hom, hbm⟩; have hBm : Below w2.heap.size w2 wm := hBl.trans (hbm.mono hBl.size); have hA2 := hxA wm hBm; have hB2 := hxB wm hBm; have hC2 := hxC wm hBm))
  all_goals
    have K3 := Lib.hid ((K2.out.next hBm).push hom.toV)
    have B3 := Lib.hid (B2.out.trans (hBm.mono B2.out.size))
    clear hxA hxB hxC hTu hSt hd0 hol hbl hBl hom hbm hBm hA1 hB1 hC1 hA2 hB2 hC2
    obtain ⟨_, hc0, hc1, hc2⟩ := (H1.out.2.next K3.out.below).facts
    go_wp2_with fail
    refine (C.out.2.2.2.1 wm B3.out).mono ?_
    rintro e w4 ⟨pv, cv, rfl, hoo, hbb⟩
    have K4 := Lib.hid ((K3.out.next hbb).push hoo.toV)
    have B4 := Lib.hid (B3.out.trans (hbb.mono B3.out.size))
    clear hoo hbb hc0 hc1 hc2
    obtain ⟨_, hc0, hc1, hc2⟩ := (H1.out.2.next K4.out.below).facts
    go_wp2_with fail
    refine (C.out.2.2.2.2.1 w4 pv cv B4.out (K4.out.get 0 rfl)).mono ?_
    rintro e w5 ⟨pc, cc, rfl, hoo, hbb⟩
    have K5 := Lib.hid ((K4.out.next hbb).push hoo.toV)
    clear hoo hbb hc0 hc1 hc2
    go_wp2_with fail
    refine (C.out.2.2.2.2.2.1 w5 pa ca (K5.out.get 3 rfl)).mono ?_
    rintro e w6 ⟨pd, cd, rfl, hoo, hbb⟩
    have K6 := Lib.hid ((K5.out.next hbb).push hoo.toV)
    clear hoo hbb
    go_wp2_with fail
    refine (C.out.2.2.2.2.2.2.1 w6 pa ca (K6.out.get 4 rfl)).mono ?_
    rintro e w7 ⟨pj, cj, rfl, hoo, hbb⟩
    have K7 := Lib.hid ((K6.out.next hbb).push hoo.toV)
    clear hoo hbb
    go_wp2_with fail
    refine (ints_any pb pj m m cb cj J J w7 H.out.2.2.2.2.1.symm H.out.2.2.2.2.1.symm (K7.out.get 4 rfl) (K7.out.get 0 rfl)).mono ?_
    rintro e w8 ⟨rfl, hbb⟩
    rw [sameI_self]
    have K8 := Lib.hid (K7.out.next hbb)
    clear hbb
    go_wp2_with fail
    refine (ints_any pc pd G G cc cd U U w8 H.out.2.2.2.2.2.1.symm H.out.2.2.2.2.2.1.symm (K8.out.get 2 rfl) (K8.out.get 1 rfl)).mono ?_
    rintro e w9 ⟨rfl, hbb⟩
    rw [sameI_self]
    have K9 := Lib.hid (K8.out.next hbb)
    clear hbb
    go_upto_region 14 with fail
    obtain ⟨wE, hwE⟩ : ∃ x, x = w9.alloc (.cells #[] 3) := ⟨_, rfl⟩
    have hbE : Below w9.heap.size w9 wE := by rw [hwE]; exact (Below.refl _ _).alloc (Nat.le_refl _) _
    have hoE : IntO w9.heap.size wE (some ⟨w9.heap.size, 0, none⟩) 0 ([] : List Int) := by rw [hwE]; exact IntO.of_block (l := []) (Nat.le_refl _) (Nat.zero_le _) (heap_newN w9 _)
    rw [← hwE]
    have HM := Lib.hid (And.intro hoE hbE)
    clear hwE hbE hoE
    obtain ⟨_, hc0, hc1, hc2⟩ := ((H1.out.2.next K9.out.below).next HM.out.2).facts
    have wneg : IntKind.i64.wrap (-(R : Int)) = -(R : Int) := by rw [IntWalk.i64_in _ (by omega)]
    obtain ⟨E, hE⟩ : ∃ E, m + R = E := ⟨_, rfl⟩
    have wmR : IntKind.i64.wrap ((m : Int) + (R : Int)) = (E : Int) := by rw [IntWalk.i64_in _ (by omega)]; omega
    have HB9 := Lib.hid (H1.out.1.trans (K9.out.below.mono H1.out.1.size))
    go_wp2_with fail
    go_loopw [19, 20] (fun v19 v20 wr => TurnsRel w9 l m R v19 v20 wr) (fun _ v _ => (((E : Int) - intOf v)).toNat)
    case atStart => exact ⟨0, _, 0, Nat.zero_le _, by simp, rfl, by rw [List.take_zero]; exact HM.out.1, HM.out.2⟩
    case round =>
      obtain ⟨j, p', c', hj, rfl, rfl, ho9, hb9⟩ := hrel
      clear hc0 hc1 hc2
      have hbw := HB9.out.trans (hb9.mono HB9.out.size)
      obtain ⟨_, hc0, hc1, hc2⟩ := ((H1.out.2.next K9.out.below).next hb9).facts
      obtain ⟨z, hz⟩ : ∃ z : Int, (j : Int) - (R : Int) = z := ⟨_, rfl⟩
      rw [hz]
      have hXj := H.out.2.2.2.2.2.2.1
      have hXx := H.out.2.2.2.2.2.2.2.1
      have hQm := H.out.2.2.2.2.2.2.2.2
      by_cases hlt : j < m + 2 * R
      · have hzE : z < (E : Int) := by omega
        have hz1 : -3 ≤ z := by omega
        have hz2 : z ≤ 200 := by omega
        have wz1 : IntKind.i64.wrap (z + 1) = z + 1 := by rw [IntWalk.i64_in _ (by omega)]
        obtain ⟨s, hs⟩ : ∃ s, (0 + j + wrapS l R) % m = s := ⟨_, rfl⟩
        have hsm : s < m := by rw [← hs]; exact Nat.mod_lt _ hm0
        have hrp := ref_place (w := l) (n := m) H.out.2.1 hm0 R 0 j
        rw [hs, show (((0 : Nat) : Int) + ((j : Int) - (R : Int))) = z by omega] at hrp
        obtain ⟨r1, hr1⟩ : ∃ r1, z.tmod (m : Int) = r1 := ⟨_, rfl⟩
        have hr2 : -(m : Int) < r1 := by rw [← hr1]; exact Int.lt_tmod_of_pos z (by omega)
        have hr3 : r1 < (m : Int) := by rw [← hr1]; exact Int.tmod_lt_of_pos z (by omega)
        rw [hr1] at hrp
        have wr1 : IntKind.i64.wrap (r1 + (m : Int)) = r1 + (m : Int) := by rw [IntWalk.i64_in _ (by omega)]
        obtain ⟨b, off, rfl, hbb, hcc⟩ := (H.out.2.2.1.next hbw).cell (by have := H.out.2.1; rintro rfl; simp at this; omega)
        have hls : l[s]? = some (F l (0 + j + wrapS l R)) := by
          have h1 := F_get (w := l) (i := s) (by have := H.out.2.1; omega)
          rw [h1, ← hs, H.out.2.1, F_mod]
        obtain ⟨Y, hY⟩ : ∃ Y, F l (0 + j + wrapS l R) = Y := ⟨_, rfl⟩
        rw [hY] at hls
        have hcx := hcc s Y hls
        have hXg : X[j]? = some Y := by
          rw [← hXx, extW_get (by have := H.out.2.1; omega), ← hY, Nat.zero_add]
        have hdA : Below wr.heap.size wr (wr.alloc (.cells #[.int .i64 Y] 3)) := (Below.refl _ _).alloc (Nat.le_refl _) _
        have hblk : (wr.alloc (.cells #[.int .i64 Y] 3)).heap[wr.heap.size]? = some (.cells #[.int .i64 Y] 3 (0, 0)) := heap_newN wr _
        have hoA : IntO w9.heap.size (wr.alloc (.cells #[.int .i64 Y] 3)) p' c' (X.take j) := by
          rw [← hXx]
          exact ho9.next hdA
        have hsA : w9.heap.size ≤ (wr.alloc (.cells #[.int .i64 Y] 3)).heap.size := Nat.le_trans hb9.size hdA.size
        have hnx : X.take j ++ [Y] = X.take (j + 1) := by rw [List.take_add_one, hXg]; rfl
        have hbA := hb9.trans (hdA.mono hb9.size)
        have hml : (X.take j).length = j := by rw [List.length_take]; omega
        have HT := Lib.hid (And.intro hoA (And.intro hsA (And.intro hblk (And.intro hnx (And.intro hbA (And.intro hml (show (X.take j).length ≤ 1000000 by omega)))))))
        have HJ := Lib.hid (show z + 1 = ((j + 1 : Nat) : Int) - (R : Int) by omega)
        have HJ2 := Lib.hid (show j + 1 ≤ m + 2 * R ∧ z < (E : Int) from ⟨by omega, hzE⟩)
        clear hz hXj hXx hQm hs hr2 hr3 hbb hcc hls hY hXg hdA hblk hoA hsA hnx hbA hml ho9 hb9 hbw hj hlt
        go_wp2_with (at_builtin; refine wpList_pushI (by rfl) _ _ (by rfl) w9.heap.size p' j c' (X.take j) (by rfl) HT.out.2.2.2.2.2.1.symm HT.out.1 HT.out.2.1 wr.heap.size Y (by rfl) HT.out.2.2.1 HT.out.2.2.2.2.2.2 ?_; intro p8 c8 w8 ho8 hb8; have HP := Lib.hid (And.intro ho8 (HT.out.2.2.2.2.1.trans hb8)); clear ho8 hb8)
        go_roundw
        case rel => exact ⟨j + 1, p8, c8, HJ2.out.1, by rw [← HJ.out], rfl, by rw [H.out.2.2.2.2.2.2.2.1, ← HT.out.2.2.2.1]; exact HP.out.1, HP.out.2⟩
        case measure => have := HJ2.out.2; simp [intOf]; omega
      · have hzE : ¬ z < (E : Int) := by omega
        obtain rfl : j = Q := by omega
        have hoX : IntO w9.heap.size wr p' c' X := by
          rw [hXx, List.take_of_length_le (by omega)] at ho9
          exact ho9
        have HW := Lib.hid (And.intro hoX (And.intro hb9 hbw))
        clear hoX hb9 hbw ho9 hXj hXx hQm hz hj
        go_wp2_with fail
        refine (C.out.2.2.2.2.2.2.2 wr p' c' HW.out.2.2 HW.out.1.toV).mono ?_
        rintro e wS ⟨pz, cz, rfl, hoo, hbb⟩
        have KS := Lib.hid (((K9.out.next HW.out.2.1).next hbb).push hoo.toV)
        clear hoo hbb hc0 hc1 hc2
        go_wp2_with fail
        refine (ints_any pz pa m m cz ca I I wS H.out.2.2.2.1.symm H.out.2.2.2.1.symm (KS.out.get 0 rfl) (KS.out.get 6 rfl)).mono ?_
        rintro e wZ ⟨rfl, hbb⟩
        rw [sameI_self]
        have HZ := Lib.hid (H1.out.1.trans ((KS.out.next hbb).below.mono H1.out.1.size))
        clear hbb
        go_wp2_with fail
        go_ret
        exact ⟨rfl, HZ.out⟩
end Go.Proofs.YtgdjnohhofbcnaaDoor
