/- RingKeeps: its walk. -/
import Derived.Test.YtgdjnohhofbcnaaDoorB4
namespace Go.Proofs.YtgdjnohhofbcnaaDoor
open Go.RowKit Go.Extern.Stop Go.Stop Go.Extern WordM RuleM NatM

theorem neckW_length (l : List Int) : (neckW l).length = l.length := rot_length _ _
theorem set_zero {l : List Int} {i : Nat} (h : i < l.length) : (List.replicate i (0 : Int) ++ l.drop i).set i 0 = List.replicate (i + 1) 0 ++ l.drop (i + 1) := by
  rw [List.set_append_right _ _ (by simp), List.length_replicate, Nat.sub_self, List.drop_eq_getElem_cons h, List.set_cons_zero, List.replicate_succ', List.append_assoc]
  rfl
/-- the lent list is written over with noughts -/
def ZeroI (w : World) (B g n : Nat) (l : List Int) (Lo : List MkI) (v : Value) (wr : World) : Prop :=
  ∃ i : Nat, i ≤ n ∧ v = .int .i64 (i : Int) ∧ Kq w wr B [(g, List.replicate i 0 ++ l.drop i)] Lo
theorem Kq.oneG {w w1 w2 : World} {g : Nat} {l : List Int} (hb1 : Below w.heap.size w w1) (hg : g = w1.heap.size) (hx : LentI w2 g l) (hb2 : Below w1.heap.size w1 w2) : Kq w w2 w2.heap.size [(g, l)] [] := by
  have h1 := hb1.size
  have h2 := hx.lt
  refine ⟨hb1.trans (hb2.mono h1), fun i x hi => ?_, fun i j x y hi hj hne => ?_, Nat.le_refl _, by omega, fun i e he => by simp at he, fun i j e f _ he => by simp at he⟩
  · rcases i with _ | i
    · obtain rfl := Option.some.inj hi
      exact ⟨hx, by show w.heap.size ≤ g; omega, h2⟩
    · simp at hi
  · rcases i with _ | i
    · rcases j with _ | j
      · exact absurd rfl hne
      · simp at hj
    · simp at hi

set_option maxRecDepth 100000 in
set_option maxHeartbeats 32000000 in
theorem keepsG_long (k r : Int) (p q : Option Addr) (n c m d : Nat) (w : World) (A : Nat → Addr) (hr : Roots w A) (hm : 100 < m) :
    Calls Tryd.prog 8 #[.agg #[.int .i64 k, .int .i64 r, .slice p n c], .slice q m d] w (Tells (.bool true) w) := by
  have ST := Lib.hid (box_rule w (.int .i64 k) (.int .i64 r) (.slice p n c))
  have H := Lib.hid (And.intro hr hm)
  clear hr
  go_enter Tryd.func8, Tryd.ntmps8
  go_upto_region 1 with fail
  obtain ⟨w0, hw0⟩ : ∃ w0, w0 = w.alloc (.cells #[.int .i64 k, .int .i64 r, .slice p n c] 24) := ⟨_, rfl⟩
  rw [← hw0]
  obtain ⟨hb0, hE0⟩ := ST.out w0 hw0
  have HE := Lib.hid (And.intro hE0 hb0)
  clear hw0 hE0 hb0
  go_wp2_with fail
  refine (awakeG w0 A (H.out.1.below HE.out.2)).mono ?_
  rintro e w1 ⟨rfl, hb1⟩
  have H1 := Lib.hid (And.intro (HE.out.2.trans (hb1.mono HE.out.2.size)) (HE.out.1.next hb1))
  clear hb1
  go_wp2_with fail
  go_ret
  exact ⟨rfl, H1.out.1⟩

set_option maxRecDepth 100000 in
set_option maxHeartbeats 32000000 in
theorem keepsG_bad (k r : Int) (p q : Option Addr) (n c m d : Nat) (t l : List Int) (w : World) (A : Nat → Addr) (hr : Roots w A) (hT : TypeVar w) (hn : n = t.length) (hm : m = l.length) (h : IntV w.heap.size w p c t) (h' : IntV w.heap.size w q d l) (h100 : ¬ 100 < m) (L : List (ByteArray × Int)) (M : Nat) (hc : chkG k r t l = some (L, M)) :
    Calls Tryd.prog 8 #[.agg #[.int .i64 k, .int .i64 r, .slice p n c], .slice q m d] w (Tells (.bool true) w) := by
  have ST := Lib.hid (box_rule w (.int .i64 k) (.int .i64 r) (.slice p n c))
  have HM := Lib.hid hm
  have HARG := Lib.hid h'
  have H := Lib.hid (And.intro hr (And.intro hT (And.intro hn (And.intro h hc))))
  clear hr hT hn hm h h' hc
  go_enter Tryd.func8, Tryd.ntmps8
  go_upto_region 1 with fail
  obtain ⟨w0, hw0⟩ : ∃ w0, w0 = w.alloc (.cells #[.int .i64 k, .int .i64 r, .slice p n c] 24) := ⟨_, rfl⟩
  rw [← hw0]
  obtain ⟨hb0, hE0⟩ := ST.out w0 hw0
  have HE := Lib.hid (And.intro hE0 hb0)
  clear hw0 hE0 hb0
  go_wp2_with fail
  refine (awakeG w0 A (H.out.1.below HE.out.2)).mono ?_
  rintro e w1 ⟨rfl, hb1⟩
  have H1 := Lib.hid (And.intro (HE.out.2.trans (hb1.mono HE.out.2.size)) (HE.out.1.next hb1))
  clear hb1
  have hlent := lentI_any q d l w1 (HARG.out.next H1.out.1) (by have := HM.out; omega)
  rw [← HM.out] at hlent
  have HL := Lib.hid hlent
  clear hlent
  go_wp2_with fail
  refine HL.out.mono ?_
  rintro e w2 ⟨he, hx, hb2⟩
  rw [← HM.out] at he
  obtain rfl := he
  obtain ⟨g, hg⟩ : ∃ g, w1.heap.size = g := ⟨_, rfl⟩
  rw [hg] at hx ⊢
  have hK := Kq.oneG (Below.refl w1.heap.size w1) hg.symm hx hb2
  obtain ⟨B, hB⟩ : ∃ B, w2.heap.size = B := ⟨_, rfl⟩
  rw [hB] at hK
  have K2 := Lib.hid hK
  have hxv : ∀ (wx : World) (Lo : List MkI), Kq w1 wx B [(g, l)] Lo → IntV wx.heap.size wx (some ⟨g, 0, none⟩) (m + 2) l := fun wx Lo K => (K.lent 0 _ rfl).1.vn (by rw [HM.out]) (by show l.length ≤ _; have := HM.out; omega)
  have HX := Lib.hid hxv
  clear hK hx hb2 hg hB hxv HL
  obtain ⟨_, hc0, hc1, hc2⟩ := (H1.out.2.next K2.out.below).facts
  go_wp2_with fail
  refine (gStep_bad k r p _ n c m (m + 2) t l w2 A ((H.out.1.below H1.out.1).below K2.out.below) ((H.out.2.1.below H1.out.1).below K2.out.below) H.out.2.2.1 HM.out ((H.out.2.2.2.1.next H1.out.1).next K2.out.below) (HX.out _ _ K2.out) L M H.out.2.2.2.2).mono ?_
  rintro e w3 ⟨b, rfl, _, hb⟩
  have K3 := Lib.hid (K2.out.next hb)
  clear hb hc0 hc1 hc2
  have hkept := keptI_any g q m (m + 2) d l w3 (K3.out.lent 0 _ rfl).1 (K3.out.old (HARG.out.next H1.out.1)) (by have := HM.out; omega) HM.out (by have := HM.out; omega)
  rw [← HM.out] at hkept
  have HK := Lib.hid hkept
  clear hkept
  go_wp2_with fail
  refine HK.out.mono ?_
  rintro e w4 ⟨rfl, hb⟩
  have HZ := Lib.hid (H1.out.1.trans ((K3.out.next hb).below.mono H1.out.1.size))
  clear hb
  go_wp2_with fail
  go_ret
  exact ⟨rfl, HZ.out⟩

set_option maxRecDepth 100000 in
set_option maxHeartbeats 32000000 in
theorem keepsG_ok (K R : Nat) (p q : Option Addr) (n c m d : Nat) (t l : List Int) (w : World) (A : Nat → Addr) (hr : Roots w A) (hn : n = t.length) (hm : m = l.length) (h : IntV w.heap.size w p c t) (h' : IntV w.heap.size w q d l) (h100 : ¬ 100 < m) (ho : OkR K R t) (h0 : 0 < l.length) (hw : okW K l) :
    Calls Tryd.prog 8 #[.agg #[.int .i64 (K : Int), .int .i64 (R : Int), .slice p n c], .slice q m d] w (Tells (.bool true) w) := by
  have ST := Lib.hid (box_rule w (.int .i64 (K : Int)) (.int .i64 (R : Int)) (.slice p n c))
  obtain ⟨I, hI⟩ : ∃ X, ringW K R t l = X := ⟨_, rfl⟩
  have hIl : I.length = m := by rw [← hI, ringW_length]; exact hm.symm
  have hm0 : 0 < m := by omega
  have hle := h'.le
  obtain ⟨N, hN⟩ : ∃ X, neckW l = X := ⟨_, rfl⟩
  have hNl : N.length = m := by rw [← hN, neckW_length]; exact hm.symm
  obtain ⟨X, hX⟩ : ∃ X, traceW K R t 3 l = X := ⟨_, rfl⟩
  have hXl : X.length = 3 := by rw [← hX, traceW_length]
  have hq3 : ∀ j, j ≤ 3 → j ≤ 262144 / l.length := fun j hj => by
    have h1 : 262144 / 100 ≤ 262144 / l.length := Nat.div_le_div_left (by omega) h0
    omega
  have cA : ∀ W qx dx, Below w.heap.size w W → IntV W.heap.size W qx dx l → Calls Tryd.prog 12 #[.agg #[.int .i64 (K : Int), .int .i64 (R : Int), .slice p n c], .slice qx m dx] W fun e w' => ∃ pa ca, e = .returned (.tuple #[.slice pa m ca, .nilIface]) ∧ IntO W.heap.size w' pa ca I ∧ Below W.heap.size W w' := fun W qx dx hW hv =>
    (gStep_ok K R p qx n c m dx t l W hn hm (h.next hW) hv ho h0 (by omega) hw).mono fun e w' ⟨pa, ca, he, ho', hb⟩ => ⟨pa, ca, by rw [he, hI, hIl], by rw [← hI]; exact ho', hb⟩
  have cC : ∀ W qx dx, Below w.heap.size w W → IntV W.heap.size W qx dx l → Calls Tryd.prog 14 #[.agg #[.int .i64 (K : Int), .int .i64 (R : Int), .slice p n c], .slice qx m dx, .int .i64 0] W fun e w' => ∃ pa ca, e = .returned (.tuple #[.slice pa m ca, .nilIface]) ∧ IntO W.heap.size w' pa ca l ∧ Below W.heap.size W w' := fun W qx dx hW hv =>
    (gAfter_ok K R 0 p qx n c m dx t l W hn hm (h.next hW) hv ho h0 (by omega) hw (hq3 0 (by omega))).mono fun e w' ⟨pa, ca, he, ho', hb⟩ => ⟨pa, ca, by rw [he, stepsW_length, ← hm], ho', hb⟩
  have cD : ∀ W qx dx, IntV W.heap.size W qx dx l → Calls Tryd.prog 28 #[.slice qx m dx] W fun e w' => ∃ pa ca, e = .returned (.tuple #[.slice pa m ca, .nilIface]) ∧ IntO W.heap.size w' pa ca N ∧ Below W.heap.size W w' := fun W qx dx hv =>
    (gNeck_ok qx m dx l W hm hv hm0 (by omega)).mono fun e w' ⟨pa, ca, he, ho', hb⟩ => ⟨pa, ca, by rw [he, hN, hNl], by rw [← hN]; exact ho', hb⟩
  have cX : ∀ W qx dx, Below w.heap.size w W → IntV W.heap.size W qx dx l → Calls Tryd.prog 16 #[.agg #[.int .i64 (K : Int), .int .i64 (R : Int), .slice p n c], .slice qx m dx, .int .i64 3] W fun e w' => ∃ pa ca, e = .returned (.tuple #[.slice pa 3 ca, .nilIface]) ∧ IntO W.heap.size w' pa ca X ∧ Below W.heap.size W w' := fun W qx dx hW hv =>
    (gTrace_ok K R 3 p qx n c m dx t l W hn hm (h.next hW) hv ho h0 (by omega) hw (hq3 3 (by omega))).mono fun e w' ⟨pa, ca, he, ho', hb⟩ => ⟨pa, ca, by rw [he, hX, hXl], by rw [← hX]; exact ho', hb⟩
  have C := Lib.hid (And.intro cA (And.intro cC (And.intro cD cX)))
  have HM := Lib.hid hm
  have HARG := Lib.hid h'
  have H := Lib.hid (And.intro hr (And.intro hIl (And.intro hNl hXl)))
  clear hr hn hm h h' ho h0 hw hI hIl hle hN hNl hX hXl hq3 cA cC cD cX
  go_enter Tryd.func8, Tryd.ntmps8
  go_upto_region 1 with fail
  obtain ⟨w0, hw0⟩ : ∃ w0, w0 = w.alloc (.cells #[.int .i64 (K : Int), .int .i64 (R : Int), .slice p n c] 24) := ⟨_, rfl⟩
  rw [← hw0]
  obtain ⟨hb0, hE0⟩ := ST.out w0 hw0
  have HE := Lib.hid (And.intro hE0 hb0)
  clear hw0 hE0 hb0
  go_wp2_with fail
  refine (awakeG w0 A (H.out.1.below HE.out.2)).mono ?_
  rintro e w1 ⟨rfl, hb1⟩
  have H1 := Lib.hid (And.intro (HE.out.2.trans (hb1.mono HE.out.2.size)) (HE.out.1.next hb1))
  clear hb1
  have hlent := lentI_any q d l w1 (HARG.out.next H1.out.1) (by have := HM.out; omega)
  rw [← HM.out] at hlent
  have HL := Lib.hid hlent
  clear hlent
  go_wp2_with fail
  refine HL.out.mono ?_
  rintro e w2 ⟨he, hx, hb2⟩
  rw [← HM.out] at he
  obtain rfl := he
  obtain ⟨g, hg⟩ : ∃ g, w1.heap.size = g := ⟨_, rfl⟩
  rw [hg] at hx ⊢
  have hK := Kq.oneG (Below.refl w1.heap.size w1) hg.symm hx hb2
  obtain ⟨B, hB⟩ : ∃ B, w2.heap.size = B := ⟨_, rfl⟩
  rw [hB] at hK
  have K2 := Lib.hid hK
  have hxv : ∀ (wx : World) (Lo : List MkI), Kq w1 wx B [(g, l)] Lo → IntV wx.heap.size wx (some ⟨g, 0, none⟩) (m + 2) l := fun wx Lo K => (K.lent 0 _ rfl).1.vn (by rw [HM.out]) (by show l.length ≤ _; have := HM.out; omega)
  have HX := Lib.hid hxv
  clear hK hx hb2 hg hB hxv HL
  obtain ⟨_, hc0, hc1, hc2⟩ := (H1.out.2.next K2.out.below).facts
  go_wp2_with fail
  refine (C.out.1 w2 _ _ (H1.out.1.trans (K2.out.below.mono H1.out.1.size)) (HX.out _ _ K2.out)).mono ?_
  rintro e w3 ⟨pa, ca, rfl, hoo, hbb⟩
  have K3 := Lib.hid (K2.out.push hbb hoo)
  clear hoo hbb hc0 hc1 hc2 K2
  obtain ⟨_, hc0, hc1, hc2⟩ := (H1.out.2.next K3.out.below).facts
  go_wp2_with fail
  refine (C.out.1 w3 _ _ (H1.out.1.trans (K3.out.below.mono H1.out.1.size)) (HX.out _ _ K3.out)).mono ?_
  rintro e w4 ⟨pb, cb, rfl, hoo, hbb⟩
  have K4 := Lib.hid (K3.out.push hbb hoo)
  clear hoo hbb hc0 hc1 hc2 K3
  obtain ⟨_, hc0, hc1, hc2⟩ := (H1.out.2.next K4.out.below).facts
  go_wp2_with fail
  refine (C.out.2.1 w4 _ _ (H1.out.1.trans (K4.out.below.mono H1.out.1.size)) (HX.out _ _ K4.out)).mono ?_
  rintro e w5 ⟨pc, cc', rfl, hoo, hbb⟩
  have K5 := Lib.hid (K4.out.push hbb hoo)
  clear hoo hbb hc0 hc1 hc2 K4
  obtain ⟨_, hc0, hc1, hc2⟩ := (H1.out.2.next K5.out.below).facts
  go_wp2_with fail
  refine (C.out.2.2.1 w5 _ _ (HX.out _ _ K5.out)).mono ?_
  rintro e w6 ⟨pd, cd', rfl, hoo, hbb⟩
  have K6 := Lib.hid (K5.out.push hbb hoo)
  clear hoo hbb hc0 hc1 hc2 K5
  obtain ⟨_, hc0, hc1, hc2⟩ := (H1.out.2.next K6.out.below).facts
  go_wp2_with fail
  refine (C.out.2.2.2 w6 _ _ (H1.out.1.trans (K6.out.below.mono H1.out.1.size)) (HX.out _ _ K6.out)).mono ?_
  rintro e w7 ⟨px, cx, rfl, hoo, hbb⟩
  have K7 := Lib.hid (K6.out.push hbb hoo)
  clear hoo hbb hc0 hc1 hc2 K6
  obtain ⟨_, hc0, hc1, hc2⟩ := (H1.out.2.next K7.out.below).facts
  clear hc0 hc1 hc2
  obtain ⟨Lo, hLo⟩ : ∃ Lo : List MkI, Lo = [((px, cx, X), w6.heap.size, w7.heap.size), ((pd, cd', N), w5.heap.size, w6.heap.size), ((pc, cc', l), w4.heap.size, w5.heap.size), ((pb, cb, I), w3.heap.size, w4.heap.size), ((pa, ca, I), w2.heap.size, w3.heap.size)] := ⟨_, rfl⟩
  have hK : Kq w1 w7 B [(g, l)] Lo := by rw [hLo]; exact K7.out
  have hgets : Lo[0]? = some ((px, cx, X), w6.heap.size, w7.heap.size) ∧ Lo[1]? = some ((pd, cd', N), w5.heap.size, w6.heap.size) ∧ Lo[2]? = some ((pc, cc', l), w4.heap.size, w5.heap.size) ∧ Lo[3]? = some ((pb, cb, I), w3.heap.size, w4.heap.size) ∧ Lo[4]? = some ((pa, ca, I), w2.heap.size, w3.heap.size) := by
    rw [hLo]; exact ⟨rfl, rfl, rfl, rfl, rfl⟩
  have HG := Lib.hid hgets
  have K8 := Lib.hid hK
  clear hLo hK K7 hgets
  have hsameL : ∀ (W : World) (x y : Option Addr) (e f : Nat), IntV W.heap.size W x e l → IntV W.heap.size W y f l → Calls Tryd.prog 18 #[.slice x m e, .slice y m f] W (Tells (.bool true) W) := fun W x y e f h h' => by
    have := ints_any x y m m e f l l W HM.out HM.out h h'
    rwa [sameI_self] at this
  have hsameI : ∀ (W : World) (x y : Option Addr) (e f : Nat), IntV W.heap.size W x e I → IntV W.heap.size W y f I → Calls Tryd.prog 18 #[.slice x m e, .slice y m f] W (Tells (.bool true) W) := fun W x y e f h h' => by
    have := ints_any x y m m e f I I W H.out.2.1.symm H.out.2.1.symm h h'
    rwa [sameI_self] at this
  have HS := Lib.hid (And.intro hsameL hsameI)
  clear hsameL hsameI
  go_wp2_with fail
  refine (HS.out.1 _ _ _ _ _ (K8.out.get 2 HG.out.2.2.1) (K8.out.old (HARG.out.next H1.out.1))).mono ?_
  rintro e w9 ⟨rfl, hb⟩
  have K9 := Lib.hid (K8.out.next hb)
  clear hb K8
  go_wp2_with fail
  refine (HS.out.2 _ _ _ _ _ (K9.out.get 4 HG.out.2.2.2.2) (K9.out.get 3 HG.out.2.2.2.1)).mono ?_
  rintro e w10 ⟨rfl, hb⟩
  have K10 := Lib.hid (K9.out.next hb)
  clear hb K9
  have hkept := keptI_any g q m (m + 2) d l w10 (K10.out.lent 0 _ rfl).1 (K10.out.old (HARG.out.next H1.out.1)) (by have := HM.out; omega) HM.out (by have := HM.out; omega)
  rw [← HM.out] at hkept
  have HK := Lib.hid hkept
  clear hkept
  go_wp2_with fail
  refine HK.out.mono ?_
  rintro e w11 ⟨rfl, hb⟩
  have K11 := Lib.hid (K10.out.next hb)
  clear hb K10 HK
  go_wp2_with fail
  refine (copyI_any pb m cb I w11 H.out.2.1.symm (K11.out.get 3 HG.out.2.2.2.1) (by have := H.out.2.1; omega)).mono ?_
  rintro e w12 ⟨pk, ck, rfl, hoo, hbb⟩
  rw [H.out.2.1]
  have K12 := Lib.hid (K11.out.push hbb hoo)
  clear hoo hbb K11
  obtain ⟨Lp, hLp⟩ : ∃ Lp : List MkI, Lp = ((pk, ck, I), w11.heap.size, w12.heap.size) :: Lo := ⟨_, rfl⟩
  have hK : Kq w1 w12 B [(g, l)] Lp := by rw [hLp]; exact K12.out
  have hgets : Lp[0]? = some ((pk, ck, I), w11.heap.size, w12.heap.size) ∧ Lp[1]? = some ((px, cx, X), w6.heap.size, w7.heap.size) ∧ Lp[2]? = some ((pd, cd', N), w5.heap.size, w6.heap.size) ∧ Lp[3]? = some ((pc, cc', l), w4.heap.size, w5.heap.size) ∧ Lp[4]? = some ((pb, cb, I), w3.heap.size, w4.heap.size) ∧ Lp[5]? = some ((pa, ca, I), w2.heap.size, w3.heap.size) := by
    rw [hLp]; exact ⟨rfl, HG.out.1, HG.out.2.1, HG.out.2.2.1, HG.out.2.2.2.1, HG.out.2.2.2.2⟩
  have HP := Lib.hid hgets
  have K13 := Lib.hid hK
  clear hLp hK K12 hgets HG
  go_wp2_with fail
  go_loopw [17] (fun v wr => ZeroI w1 B g m l Lp v wr) (fun v _ => m - (intOf v).toNat)
  case atStart => exact ⟨0, Nat.zero_le _, rfl, by simpa using K13.out⟩
  case round =>
    obtain ⟨i, hi, rfl, hK⟩ := hrel
    by_cases hlt : i < m
    · have hli : i < l.length := by have := HM.out; omega
      have hx : (List.replicate i (0 : Int) ++ l.drop i)[i]? = some l[i] := by
        rw [List.getElem?_append_right (by simp), List.length_replicate, Nat.sub_self, List.getElem?_drop]
        simp
      obtain ⟨x, hxx⟩ : ∃ x, l[i] = x := ⟨_, rfl⟩
      rw [hxx] at hx
      have hlx := (hK.lent 0 _ rfl).1
      have htl : (List.replicate i (0 : Int) ++ l.drop i).length = l.length := by rw [List.length_append, List.length_replicate, List.length_drop]; omega
      have hcx : wr.cell? ⟨g, i, none⟩ = some (.int .i64 x) := LentI.cell hlx (by rw [List.getElem?_append_left (by show i < (List.replicate i (0 : Int) ++ l.drop i).length; omega)]; exact hx)
      have hfx : wr.frozen? ⟨g, i, none⟩ = false := frozen_of_row wr g i _ _ hlx
      have hnew := hK.setx 0 g _ rfl i 0 (by omega)
      rw [set_zero hli] at hnew
      have HN := Lib.hid hnew
      clear hnew hK hx hlx htl hxx hli
      go_wp2_with fail
      go_roundw
      case rel => exact ⟨i + 1, by omega, by go_num, HN.out⟩
      case measure => simp [intOf]; omega
    · obtain rfl : i = m := by omega
      have hz : List.replicate i (0 : Int) ++ l.drop i = List.replicate i 0 := by rw [List.drop_of_length_le (by have := HM.out; omega), List.append_nil]
      rw [hz] at hK
      have K15 := Lib.hid hK
      clear hK hz
      go_wp2_with fail
      refine (HS.out.2 _ _ _ _ _ (K15.out.get 5 HP.out.2.2.2.2.2) (K15.out.get 0 HP.out.1)).mono ?_
      rintro e w16 ⟨rfl, hb⟩
      have K16 := Lib.hid (K15.out.next hb)
      clear hb K15
      go_wp2_with fail
      refine (HS.out.1 _ _ _ _ _ (K16.out.get 3 HP.out.2.2.2.1) (K16.out.old (HARG.out.next H1.out.1))).mono ?_
      rintro e w17 ⟨rfl, hb⟩
      have K17 := Lib.hid (K16.out.next hb)
      clear hb K16
      have hap := K17.out.apart_call [5, 4, 3, 2, 1] (by decide) #[.slice pa i ca, .slice pb i cb, .slice pc i cc', .slice pd i cd', .slice px 3 cx] 22 5 rfl (by omega) (fun k j hk => by
        have hl1 := H.out.2.1
        have hl2 := H.out.2.2.1
        have hl3 := H.out.2.2.2
        have hl := HM.out
        rcases k with _ | _ | _ | _ | _ | k
        · obtain rfl := Option.some.inj hk
          exact ⟨_, HP.out.2.2.2.2.2, by simp [Sl.val, hl1], by simp; omega⟩
        · obtain rfl := Option.some.inj hk
          exact ⟨_, HP.out.2.2.2.2.1, by simp [Sl.val, hl1], by simp; omega⟩
        · obtain rfl := Option.some.inj hk
          exact ⟨_, HP.out.2.2.2.1, by simp [Sl.val, ← hl], by simp; omega⟩
        · obtain rfl := Option.some.inj hk
          exact ⟨_, HP.out.2.2.1, by simp [Sl.val, hl2], by simp; omega⟩
        · obtain rfl := Option.some.inj hk
          exact ⟨_, HP.out.2.1, by simp [Sl.val, hl3], by simp; omega⟩
        · simp at hk)
      have HAP := Lib.hid hap
      clear hap
      go_wp2_with fail
      refine HAP.out.mono ?_
      rintro e w18 ⟨rfl, hb, hlt2, _⟩
      have hxx := (hlt2 0 _ rfl).vn (m := i + 2) (by show i + 2 = (List.replicate i (0 : Int)).length + 2; rw [List.length_replicate]) (by show (List.replicate i (0 : Int)).length ≤ _; rw [List.length_replicate]; omega)
      have hmk := makeI i (by omega) w18
      have hmd := IntO.made w18 i (by omega)
      obtain ⟨w19, hw19⟩ : ∃ x, x = w18.alloc (.cells (madeCells #[.int .i64 0] i) 3) := ⟨_, rfl⟩
      have hb19 : Below w18.heap.size w18 w19 := by rw [hw19]; exact (Below.refl _ _).alloc (Nat.le_refl _) _
      rw [← hw19] at hmk hmd
      have hfin : Calls Tryd.prog 18 #[.slice (some ⟨g, 0, none⟩) i (i + 2), .slice (some ⟨w18.heap.size, 0, none⟩) i i] w19 (Tells (.bool true) w19) := by
        have := ints_any (some ⟨g, 0, none⟩) (some ⟨w18.heap.size, 0, none⟩) i i (i + 2) i (List.replicate i 0) (List.replicate i 0) w19 (by rw [List.length_replicate]) (by rw [List.length_replicate]) (hxx.next hb19) hmd.toV
        rwa [sameI_self] at this
      have HF := Lib.hid (And.intro hfin (hb.trans (hb19.mono hb.size)))
      clear hxx hfin hb hlt2 HAP hmd hw19 hb19
      go_wp2_with fail
      refine HF.out.1.mono ?_
      rintro e w20 ⟨rfl, hb⟩
      have HZ := Lib.hid (H1.out.1.trans ((HF.out.2.trans (hb.mono HF.out.2.size)).mono H1.out.1.size))
      clear hb HF
      go_wp2_with fail
      go_ret
      exact ⟨rfl, HZ.out⟩
end Go.Proofs.YtgdjnohhofbcnaaDoor
