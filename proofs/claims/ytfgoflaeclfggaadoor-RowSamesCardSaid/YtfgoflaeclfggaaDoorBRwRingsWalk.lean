/- RowRings: its walk. -/
import Derived.Test.YtfgoflaeclfggaaDoorB5
namespace Go.Proofs.YtfgoflaeclfggaaDoor
open Go.RowKit Go.Extern.Stop Go.Stop Go.Extern WordM RuleM NatM
attribute [local go_sem ↓] Go.wp_at_zero Go.wp_at_succ

theorem round_modG (x : Int) (N : Nat) (h1 : 1 ≤ N) (h2 : N ≤ 10000) : ∃ D : Nat, D < N ∧ -(N : Int) < x.tmod N ∧ x.tmod N < N ∧ (x.tmod N + N).tmod N = (D : Int) := by
  have hb1 : -(N : Int) < x.tmod N := Int.lt_tmod_of_pos x (by omega)
  have hb2 : x.tmod N < N := Int.tmod_lt_of_pos x (by omega)
  have h3 := Int.emod_nonneg (x.tmod N + N) (show (N : Int) ≠ 0 by omega)
  have h4 := Int.emod_lt_of_pos (x.tmod N + N) (show (0 : Int) < (N : Int) by omega)
  refine ⟨((x.tmod N + N) % N).toNat, by omega, hb1, hb2, ?_⟩
  rw [Int.tmod_eq_emod_of_nonneg (by omega)]; omega
/-- a new row that was laid into a box -/
structure FinR (w wf : World) (g : Nat) (b : Int) (p1 p2 p3 : Option Addr) (n c1 m c2 u c3 : Nat) (X1 X2 X3 : List Int) : Prop where
  below : Below w.heap.size w wf
  row : Row4 wf g (.int .i64 b) (.slice p1 n c1) (.slice p2 m c2) (.slice p3 u c3)
  v1 : IntV wf.heap.size wf p1 c1 X1
  v2 : IntV wf.heap.size wf p2 c2 X2
  v3 : IntV wf.heap.size wf p3 c3 X3
theorem Row4.put {w : World} {h : Nat} {a b c d : Value} (k : Row4 w h a b c d) (x y z v : Value) : Row4 (put4 w h x y z v) h x y z v := ⟨by
  unfold put4
  rw [heap_setCell_same _ h 3 _ _ _ (heap_setCell_same _ h 2 _ _ _ (heap_setCell_same _ h 1 _ _ _ (heap_setCell_same _ h 0 _ _ _ k.heap)))]
  rfl⟩
theorem finP {w wc : World} {g base s1 s2 : Nat} {b : Int} {p1 p2 p3 : Option Addr} {n c1 m c2 u c3 : Nat} {X1 X2 X3 : List Int} {z1 z2 z3 z4 : Value} (hB : Below w.heap.size w wc) (hz : Row4 wc g z1 z2 z3 z4) (hgl : g < base) (hg : w.heap.size ≤ g)
    (o1 : IntO base wc p1 c1 X1) (o2 : IntO s1 wc p2 c2 X2) (o3 : IntO s2 wc p3 c3 X3) (t1 : base ≤ s1) (t2 : s1 ≤ s2) : FinR w (put4 wc g (.int .i64 b) (.slice p1 n c1) (.slice p2 m c2) (.slice p3 u c3)) g b p1 p2 p3 n c1 m c2 u c3 X1 X2 X3 :=
  ⟨put4_below hB hg _ _ _ _, hz.put _ _ _ _, (o1.put4 hgl _ _ _ _).toV, (o2.put4 (by omega) _ _ _ _).toV, (o3.put4 (by omega) _ _ _ _).toV⟩
theorem finA {w wc : World} {base s1 s2 : Nat} {b : Int} {p1 p2 p3 : Option Addr} {n c1 m c2 u c3 : Nat} {X1 X2 X3 : List Int} (hB : Below w.heap.size w wc)
    (o1 : IntO base wc p1 c1 X1) (o2 : IntO s1 wc p2 c2 X2) (o3 : IntO s2 wc p3 c3 X3) : FinR w (wc.alloc (.cells #[.int .i64 b, .slice p1 n c1, .slice p2 m c2, .slice p3 u c3] 24)) wc.heap.size b p1 p2 p3 n c1 m c2 u c3 X1 X2 X3 := by
  obtain ⟨h1, h2⟩ := box_row wc (.int .i64 b) (.slice p1 n c1) (.slice p2 m c2) (.slice p3 u c3) _ rfl
  exact ⟨hB.trans (h1.mono hB.size), h2, o1.toV.next h1, o2.toV.next h1, o3.toV.next h1⟩
set_option maxRecDepth 100000 in
set_option maxHeartbeats 32000000 in
theorem rrings_bad (k r y : Int) (pt q : Option Addr) (nt ct m d : Nat) (t l : List Int) (w : World) (A : Nat → Addr) (hr : Roots w A) (hT : TypeVar w) (hnt : nt = t.length) (hm : m = l.length) (ht : IntV w.heap.size w pt ct t) (h : IntV w.heap.size w q d l) (X : List (ByteArray × Int)) (M : Nat) (hc : chkG k r t l = some (X, M)) :
    Calls Tryd.prog 7 #[.agg #[.int .i64 k, .int .i64 r, .slice pt nt ct], .slice q m d, .int .i64 y] w (Tells (.bool true) w) := by
  have HC := Lib.hid (fun W hr hT ht h => gStep_bad k r pt q nt ct m d t l W A hr hT hnt hm ht h X M hc)
  have HR := Lib.hid hr
  have HV := Lib.hid (And.intro hT (And.intro ht h))
  clear hr h ht hnt hc hm hT
  go_enter Tryd.func7, Tryd.ntmps7
  go_upto_region 1 with fail
  obtain ⟨w0, hw0⟩ : ∃ w0, w0 = w.alloc (.cells #[.int .i64 k, .int .i64 r, .slice pt nt ct] 53) := ⟨_, rfl⟩
  rw [← hw0]
  obtain ⟨hb0, hE0⟩ := box_rule w _ _ _ w0 hw0
  have HE := Lib.hid (And.intro hE0 hb0)
  clear hw0 hE0 hb0
  go_wp2_with fail
  refine (awakeRw w0 A (HR.out.below HE.out.2)).mono ?_
  rintro e' w1 ⟨rfl, hb1⟩
  have H1 := Lib.hid (And.intro (HE.out.1.next hb1) (HE.out.2.trans (hb1.mono HE.out.2.size)))
  clear hb1
  obtain ⟨_, hc0, hc1, hc2⟩ := H1.out.1.facts
  go_wp2_with fail
  refine (HC.out w1 (HR.out.below H1.out.2) (HV.out.1.below H1.out.2) (HV.out.2.1.next H1.out.2) (HV.out.2.2.next H1.out.2)).mono ?_
  rintro e' w2 ⟨b, rfl, _, hb2⟩
  have H2 := Lib.hid (H1.out.2.trans (hb2.mono H1.out.2.size))
  clear hb2 hc0 hc1 hc2
  go_wp2_with fail
  go_ret
  exact ⟨rfl, H2.out⟩
set_option maxRecDepth 100000 in
set_option maxHeartbeats 32000000 in
theorem rrings_long (k r : Nat) (y : Int) (pt q : Option Addr) (nt ct m d : Nat) (t l : List Int) (w : World) (A : Nat → Addr) (hr : Roots w A) (hnt : nt = t.length) (hm : m = l.length) (ht : IntV w.heap.size w pt ct t) (h : IntV w.heap.size w q d l) (ho : OkR k r t) (h0 : 0 < l.length) (h4 : l.length ≤ 4096) (hw : okW k l) (h64 : 64 < m) :
    Calls Tryd.prog 7 #[.agg #[.int .i64 (k : Int), .int .i64 (r : Int), .slice pt nt ct], .slice q m d, .int .i64 y] w (Tells (.bool true) w) := by
  have HC := Lib.hid (fun W ht h => gStep_ok k r pt q nt ct m d t l W hnt hm ht h ho h0 h4 hw)
  have HR := Lib.hid hr
  have HV := Lib.hid (And.intro ht h)
  clear hr h ht hnt hm ho h0 h4 hw
  go_enter Tryd.func7, Tryd.ntmps7
  go_upto_region 1 with fail
  obtain ⟨w0, hw0⟩ : ∃ w0, w0 = w.alloc (.cells #[.int .i64 (k : Int), .int .i64 (r : Int), .slice pt nt ct] 53) := ⟨_, rfl⟩
  rw [← hw0]
  obtain ⟨hb0, hE0⟩ := box_rule w _ _ _ w0 hw0
  have HE := Lib.hid (And.intro hE0 hb0)
  clear hw0 hE0 hb0
  go_wp2_with fail
  refine (awakeRw w0 A (HR.out.below HE.out.2)).mono ?_
  rintro e' w1 ⟨rfl, hb1⟩
  have H1 := Lib.hid (And.intro (HE.out.1.next hb1) (HE.out.2.trans (hb1.mono HE.out.2.size)))
  clear hb1
  obtain ⟨_, hc0, hc1, hc2⟩ := H1.out.1.facts
  go_wp2_with fail
  refine (HC.out w1 (HV.out.1.next H1.out.2) (HV.out.2.next H1.out.2)).mono ?_
  rintro e' w2 ⟨p2, c2, rfl, _, hb2⟩
  have H2 := Lib.hid (H1.out.2.trans (hb2.mono H1.out.2.size))
  clear hb2 hc0 hc1 hc2
  go_wp2_with fail
  go_ret
  exact ⟨rfl, H2.out⟩
set_option maxRecDepth 100000 in
set_option maxHeartbeats 32000000 in
theorem rrings_ok (k r : Nat) (y : Int) (pt q : Option Addr) (nt ct m d : Nat) (t l : List Int) (w : World) (A : Nat → Addr) (hr : Roots w A) (hnt : nt = t.length) (hm : m = l.length) (ht : IntV w.heap.size w pt ct t) (h : IntV w.heap.size w q d l) (ho : OkR k r t) (h0 : 0 < l.length) (hw : okW k l) (h64 : ¬ 64 < m) :
    Calls Tryd.prog 7 #[.agg #[.int .i64 (k : Int), .int .i64 (r : Int), .slice pt nt ct], .slice q m d, .int .i64 y] w (Tells (.bool true) w) := by
  have h3 := ho.r3
  have hm0 : 0 < m := by omega
  obtain ⟨I, hI⟩ : ∃ X, ringW k r t l = X := ⟨_, rfl⟩
  have hIl : I.length = m := by rw [← hI, ringW_length]; exact hm.symm
  have hIo : okW k I := by rw [← hI]; exact ringW_ok ho h0 hw
  obtain ⟨D, hD4, q1, q2, q3⟩ := round_modG y 1000 (by omega) (by omega)
  obtain ⟨ys, hys⟩ : ∃ z, y.tmod ((1000 : Nat) : Int) = z := ⟨_, rfl⟩
  rw [hys] at q1 q2 q3
  have hys' : y.tmod 1000 = ys := hys
  have q3' : (ys + 1000).tmod 1000 = (D : Int) := q3
  have wys : IntKind.i64.wrap (ys + 1000) = ys + 1000 := by rw [IntWalk.i64_in _ (by omega)]
  obtain ⟨a, ha⟩ : ∃ a, (D : Int) - 500 = a := ⟨_, rfl⟩
  have wD : IntKind.i64.wrap ((D : Int) - 500) = a := by rw [IntWalk.i64_in _ (by omega)]; exact ha
  have ha1 : -500 ≤ a := by omega
  have ha2 : a ≤ 500 := by omega
  have hw0 : OkRw k a l [] l := ⟨ho.k1, ho.k4, by omega, by omega, by omega, by omega, by omega, by omega, by simp, hw, fun x hx => (by cases hx), hw⟩
  have hw1 := img_ok ho hw0 (by omega) (by simp; omega)
  have hw2 : OkRw k a I [] I := ⟨ho.k1, ho.k4, by omega, by omega, by omega, by omega, by omega, by omega, by simp, hIo, fun x hx => (by cases hx), hIo⟩
  have hone := one_ring (k := k) (r := r) (t := t) (a := a) (w := l) h0
  rw [hI] at hone
  have l1 : (imgL k r t a l [] l).length = m := (imgR_length _ _ _ _ _ _ _ _ _).trans hm.symm
  have l2 : (imgC k r t a l [] l).length = 0 + 2 * r := imgR_length _ _ _ _ _ _ _ _ _
  have l3 : (imgT k r t a l [] l).length = m := (imgR_length _ _ _ _ _ _ _ _ _).trans hm.symm
  obtain ⟨V, hV⟩ : ∃ V, 0 + 2 * r = V := ⟨_, rfl⟩
  rw [hV] at l2
  obtain ⟨fr, hfr⟩ : ∃ x, a - (r : Int) = x := ⟨_, rfl⟩
  obtain ⟨X1, hX1⟩ : ∃ X, imgL k r t a l [] l = X := ⟨_, rfl⟩
  obtain ⟨X2, hX2⟩ : ∃ X, imgC k r t a l [] l = X := ⟨_, rfl⟩
  obtain ⟨X3, hX3⟩ : ∃ X, imgT k r t a l [] l = X := ⟨_, rfl⟩
  have cS : ∀ (W : World) (x z : Option Addr) (f g : Nat), Below w.heap.size w W → IntV W.heap.size W x f l → IntV W.heap.size W z g l → Calls Tryd.prog 24 #[.agg #[.int .i64 (k : Int), .int .i64 (r : Int), .slice pt nt ct], .agg #[.int .i64 a, .slice x m f, .slice none 0 0, .slice z m g]] W (RowOkN W fr m V m X1 X2 X3) := fun W x z f g hW h1 h2 => by
    have h1 := rStep_ok k r a pt nt ct t x none z m f 0 0 m g l [] l W hnt (ht.next hW) ⟨hm, rfl, hm, h1, IntV.nothing W, h2⟩ ho hw0 (by omega) (by simp; omega)
    rw [hX1, hX2, hX3, hfr] at h1
    exact h1.mono fun e' w' hp => hp.lens (by rw [← hX1]; exact l1) (by rw [← hX2]; exact l2) (by rw [← hX3]; exact l3)
  rw [hX1, hX2, hX3, hfr] at hw1 hone
  rw [hX1] at l1
  rw [hX2] at l2
  rw [hX3] at l3
  have cE : ∀ (W : World) (p1 p2 p3 x z : Option Addr) (c1 c2 c3 f g : Nat), IntV W.heap.size W p1 c1 X1 → IntV W.heap.size W p2 c2 X2 → IntV W.heap.size W p3 c3 X3 → IntV W.heap.size W x f I → IntV W.heap.size W z g I → Calls Tryd.prog 20 #[.int .i64 (k : Int), .agg #[.int .i64 fr, .slice p1 m c1, .slice p2 V c2, .slice p3 m c3], .agg #[.int .i64 a, .slice x m f, .slice none 0 0, .slice z m g]] W (Tells (.tuple #[.bool true, .nilIface]) W) := fun W p1 p2 p3 x z c1 c2 c3 f g h1 h2 h3 h4 h5 =>
    rSame_ok k fr a p1 p2 p3 x none z m c1 V c2 m c3 m f 0 0 m g X1 X2 X3 I [] I W ⟨l1.symm, l2.symm, l3.symm, h1, h2, h3⟩ ⟨hIl.symm, rfl, hIl.symm, h4, IntV.nothing W, h5⟩ hw1 hw2 true ⟨fun _ => hone, fun _ => rfl⟩
  have cG : ∀ W, Below w.heap.size w W → Calls Tryd.prog 29 #[.agg #[.int .i64 (k : Int), .int .i64 (r : Int), .slice pt nt ct], .slice q m d] W fun e' w' => ∃ pa ca, e' = .returned (.tuple #[.slice pa m ca, .nilIface]) ∧ IntO W.heap.size w' pa ca I ∧ Below W.heap.size W w' := fun W hW =>
    (gStep_ok k r pt q nt ct m d t l W hnt hm (ht.next hW) (h.next hW) ho h0 (by omega) hw).mono fun e w' ⟨pa, ca, he, ho', hb⟩ => ⟨pa, ca, by rw [he, hI, hIl], by rw [← hI]; exact ho', hb⟩
  have cY : ∀ (W : World) (x : Option Addr) (f : Nat) (v : List Int), m = v.length → IntV W.heap.size W x f v → Calls Tryd.prog 22 #[.slice x m f] W fun e' w' => ∃ pa ca, e' = .returned (.slice pa m ca) ∧ IntO W.heap.size w' pa ca v ∧ Below W.heap.size W w' := fun W x f v hv hx =>
    (copyI_any x m f v W hv hx (by omega)).mono fun e' w' ⟨pa, ca, he, ho', hb⟩ => ⟨pa, ca, by rw [he, ← hv], ho', hb⟩
  have cYl := fun (W : World) (hW : IntV W.heap.size W q d l) => cY W q d l hm hW
  have cYI := fun (W : World) (x : Option Addr) (f : Nat) (hx : IntV W.heap.size W x f I) => cY W x f I hIl.symm hx
  have HC := Lib.hid (And.intro cG (And.intro cYl (And.intro cS (And.intro cYI cE))))
  have HR := Lib.hid hr
  have HV := Lib.hid (And.intro ht h)
  clear hr h ht hnt hm ho h0 hw hI hIl hIo q1 q2 q3 hD4 hys ha hw0 hw1 hw2 hone l1 l2 l3 hV hfr hX1 hX2 hX3 cS cE cG cY cYl cYI h3 hm0
  go_enter Tryd.func7, Tryd.ntmps7
  go_upto_region 1 with fail
  obtain ⟨w0, hw0⟩ : ∃ w0, w0 = w.alloc (.cells #[.int .i64 (k : Int), .int .i64 (r : Int), .slice pt nt ct] 53) := ⟨_, rfl⟩
  rw [← hw0]
  obtain ⟨hb0, hE0⟩ := box_rule w _ _ _ w0 hw0
  have HE := Lib.hid (And.intro hE0 hb0)
  clear hw0 hE0 hb0
  go_wp2_with fail
  refine (awakeRw w0 A (HR.out.below HE.out.2)).mono ?_
  rintro e' w1 ⟨rfl, hb1⟩
  have H1 := Lib.hid (And.intro (HE.out.1.next hb1) (HE.out.2.trans (hb1.mono HE.out.2.size)))
  clear hb1
  obtain ⟨_, hc0, hc1, hc2⟩ := H1.out.1.facts
  go_wp2_with fail
  refine (HC.out.1 w1 H1.out.2).mono ?_
  rintro e' w2 ⟨pv, cv, rfl, ov, hb2⟩
  have H2 := Lib.hid (And.intro (H1.out.1.next hb2) (And.intro (H1.out.2.trans (hb2.mono H1.out.2.size)) ov.toV))
  clear hb2 ov hc0 hc1 hc2
  go_upto_region 7 with fail
  have hxA : ∀ wx : World, Below w2.heap.size w2 wx → wx.cell? ⟨w.heap.size, 0, none⟩ = some (.int .i64 (k : Int)) ∧ wx.cell? ⟨w.heap.size, 1, none⟩ = some (.int .i64 (r : Int)) ∧ wx.cell? ⟨w.heap.size, 2, none⟩ = some (.slice pt nt ct) := fun wx hb => (H2.out.1.next hb).facts.2
  have hdr : Below w2.heap.size w2 w2.drew := (Below.refl _ _).drew
  have hxP : ∀ (wx : World) (g : Nat), Below w2.heap.size w2 wx → w2.heap.size ≤ g → ∀ x y z v, (fun wx => wx.cell? ⟨w.heap.size, 0, none⟩ = some (.int .i64 (k : Int)) ∧ wx.cell? ⟨w.heap.size, 1, none⟩ = some (.int .i64 (r : Int)) ∧ wx.cell? ⟨w.heap.size, 2, none⟩ = some (.slice pt nt ct)) (put4 wx g x y z v) := fun wx g hb hg x y z v => by
    have hlt := H2.out.1.lt
    exact (((((H2.out.1.next hb).setOther g 0 (by omega) x).setOther g 1 (by omega) y).setOther g 2 (by omega) z).setOther g 3 (by omega) v).facts.2
  unfold put4 at hxP
  go_region_held3 (fun wx => wx.cell? ⟨w.heap.size, 0, none⟩ = some (.int .i64 (k : Int)) ∧ wx.cell? ⟨w.heap.size, 1, none⟩ = some (.int .i64 (r : Int)) ∧ wx.cell? ⟨w.heap.size, 2, none⟩ = some (.slice pt nt ct)) (first | exact hxA _ (by assumption) | exact hxA _ (Below.refl _ _) | exact hxA _ hdr | exact hxA _ (hdr.alloc hdr.size _) | exact hxA _ (hB1.alloc hB1.size _) | exact hxA _ (hB2.alloc hB2.size _) | exact hxA _ (hB3.alloc hB3.size _) | exact hxP _ _ hB3 (by first | exact hB1.size | exact hB2.size | exact Nat.le_refl _) _ _ _ _ | exact hxP _ _ (hB3.alloc hB3.size _) hB3.size _ _ _ _ | go_keep) (first
    | (go_at_call 22; refine (HC.out.2.1 _ ((HV.out.2.next H2.out.2.1).next (by first | exact hB1 | exact hB1.alloc hB1.size _))).mono ?_; rintro e' wb ⟨pb, cb, rfl, ob, hb5⟩; have hB2 : Below w2.heap.size w2 wb := (by first | exact hB1.trans (hb5.mono hB1.size) | exact (hB1.alloc hB1.size _).trans (hb5.mono (hB1.alloc hB1.size _).size)); have va : IntV wb.heap.size wb pa ca l := (by first | exact oa.toV.next hb5 | exact (oa.toV.next (box_row wa (.int .i64 0) (.slice none 0 0) (.slice none 0 0) (.slice none 0 0) _ rfl).1).next hb5); (first | (have hz5 := hz4.next hb5) | (have hz5 := (box_row wa (.int .i64 0) (.slice none 0 0) (.slice none 0 0) (.slice none 0 0) _ rfl).2.next hb5) | skip))
    | (go_at_call 22; refine (HC.out.2.1 _ ((HV.out.2.next H2.out.2.1).next (by first | exact hdr | exact hdr.alloc hdr.size _))).mono ?_; rintro e' wa ⟨pa, ca, rfl, oa, hb4⟩; have hB1 : Below w2.heap.size w2 wa := (by first | exact hdr.trans (hb4.mono hdr.size) | exact (hdr.alloc hdr.size _).trans (hb4.mono (hdr.alloc hdr.size _).size)); (first | (have hz4 : Row4 wa w2.heap.size (.int .i64 0) (.slice none 0 0) (.slice none 0 0) (.slice none 0 0) := (box_row w2.drew (.int .i64 0) (.slice none 0 0) (.slice none 0 0) (.slice none 0 0) _ rfl).2.next hb4) | skip))
    | (go_at_call 24; refine (HC.out.2.2.1 _ pa pb ca cb (H2.out.2.1.trans ((by first | exact hB2 | exact hB2.alloc hB2.size _ : Below w2.heap.size w2 _).mono H2.out.2.1.size)) (by first | exact va | exact va.next (box_row wb (.int .i64 0) (.slice none 0 0) (.slice none 0 0) (.slice none 0 0) _ rfl).1) (by first | exact ob.toV | exact ob.toV.next (box_row wb (.int .i64 0) (.slice none 0 0) (.slice none 0 0) (.slice none 0 0) _ rfl).1)).mono ?_; rintro e' wc ⟨p1, c1, p2, c2, p3, c3, s1, s2, rfl, o1, o2, o3, t1, t2, _, _, _, hb6⟩; have hB3 : Below w2.heap.size w2 wc := (by first | exact hB2.trans (hb6.mono hB2.size) | exact (hB2.alloc hB2.size _).trans (hb6.mono (hB2.alloc hB2.size _).size)); (first | (have hz6 := hz5.next hb6) | (have hz6 := (box_row wb (.int .i64 0) (.slice none 0 0) (.slice none 0 0) (.slice none 0 0) _ rfl).2.next hb6) | skip); (first | (have hgl := hz5.lt) | (have hgl := (box_row wb (.int .i64 0) (.slice none 0 0) (.slice none 0 0) (.slice none 0 0) _ rfl).2.lt) | skip); (first | (have hf0 := hz6.frozen 0; have hf1 := hz6.frozen 1; have hf2 := hz6.frozen 2; have hf3 := hz6.frozen 3; obtain ⟨hg0, hg1, hg2, hg3⟩ := hz6.facts) | (have hzA := (box_row wc (.int .i64 0) (.slice none 0 0) (.slice none 0 0) (.slice none 0 0) _ rfl).2; have hf0 := hzA.frozen 0; have hf1 := hzA.frozen 1; have hf2 := hzA.frozen 2; have hf3 := hzA.frozen 3; obtain ⟨hg0, hg1, hg2, hg3⟩ := hzA.facts))))
  all_goals
    first
      | (have hF : FinR w2 (put4 wc wb.heap.size (.int .i64 fr) (.slice p1 m c1) (.slice p2 V c2) (.slice p3 m c3)) wb.heap.size fr p1 p2 p3 m c1 V c2 m c3 X1 X2 X3 := finP hB3 hz6 hgl hB2.size o1 o2 o3 t1 t2
         obtain ⟨wf, hwf⟩ : ∃ x, x = put4 wc wb.heap.size (.int .i64 fr) (.slice p1 m c1) (.slice p2 V c2) (.slice p3 m c3) := ⟨_, rfl⟩
         rw [← hwf] at hF
         unfold put4 at hwf
         rw [← hwf]
         obtain ⟨gx, hgx⟩ : ∃ x, wb.heap.size = x := ⟨_, rfl⟩
         rw [hgx] at hF ⊢
         have HF := Lib.hid hF
         clear hF hwf hgx)
      | (have hF : FinR w2 (put4 wc wa.heap.size (.int .i64 fr) (.slice p1 m c1) (.slice p2 V c2) (.slice p3 m c3)) wa.heap.size fr p1 p2 p3 m c1 V c2 m c3 X1 X2 X3 := finP hB3 hz6 hgl hB1.size o1 o2 o3 t1 t2
         obtain ⟨wf, hwf⟩ : ∃ x, x = put4 wc wa.heap.size (.int .i64 fr) (.slice p1 m c1) (.slice p2 V c2) (.slice p3 m c3) := ⟨_, rfl⟩
         rw [← hwf] at hF
         unfold put4 at hwf
         rw [← hwf]
         obtain ⟨gx, hgx⟩ : ∃ x, wa.heap.size = x := ⟨_, rfl⟩
         rw [hgx] at hF ⊢
         have HF := Lib.hid hF
         clear hF hwf hgx)
      | (have hF : FinR w2 (put4 wc w2.heap.size (.int .i64 fr) (.slice p1 m c1) (.slice p2 V c2) (.slice p3 m c3)) w2.heap.size fr p1 p2 p3 m c1 V c2 m c3 X1 X2 X3 := finP hB3 hz6 hgl (Nat.le_refl _) o1 o2 o3 t1 t2
         obtain ⟨wf, hwf⟩ : ∃ x, x = put4 wc w2.heap.size (.int .i64 fr) (.slice p1 m c1) (.slice p2 V c2) (.slice p3 m c3) := ⟨_, rfl⟩
         rw [← hwf] at hF
         unfold put4 at hwf
         rw [← hwf]
         obtain ⟨gx, hgx⟩ : ∃ x, w2.heap.size = x := ⟨_, rfl⟩
         rw [hgx] at hF ⊢
         have HF := Lib.hid hF
         clear hF hwf hgx)
      | (have hF : FinR w2 (wc.alloc (.cells #[.int .i64 fr, .slice p1 m c1, .slice p2 V c2, .slice p3 m c3] 24)) wc.heap.size fr p1 p2 p3 m c1 V c2 m c3 X1 X2 X3 := finA hB3 o1 o2 o3
         obtain ⟨wf, hwf⟩ : ∃ x, x = wc.alloc (.cells #[.int .i64 fr, .slice p1 m c1, .slice p2 V c2, .slice p3 m c3] 24) := ⟨_, rfl⟩
         rw [← hwf] at hF
         rw [← hwf]
         obtain ⟨gx, hgx⟩ : ∃ x, wc.heap.size = x := ⟨_, rfl⟩
         rw [hgx] at hF ⊢
         have HF := Lib.hid hF
         clear hF hwf hgx)
    have H3 := Lib.hid (And.intro (H2.out.1.next HF.out.below) (And.intro (H2.out.2.1.trans (HF.out.below.mono H2.out.2.1.size)) (H2.out.2.2.next HF.out.below)))
    clear hxA hxP hdr oa hb4 hB1 ob hb5 hB2 va o1 o2 o3 t1 t2 hb6 hB3 hf0 hf1 hf2 hf3 hg0 hg1 hg2 hg3
    (try clear hgl)
    (try clear hz6)
    (try clear hz5)
    (try clear hz4)
    (try clear hzA)
    go_upto_region 10 with fail
    have hxA : ∀ wx : World, Below wf.heap.size wf wx → (wx.cell? ⟨gx, 0, none⟩ = some (.int .i64 fr) ∧ wx.cell? ⟨gx, 1, none⟩ = some (.slice p1 m c1) ∧ wx.cell? ⟨gx, 2, none⟩ = some (.slice p2 V c2) ∧ wx.cell? ⟨gx, 3, none⟩ = some (.slice p3 m c3)) ∧ wx.cell? ⟨w.heap.size, 0, none⟩ = some (.int .i64 (k : Int)) ∧ wx.cell? ⟨w.heap.size, 1, none⟩ = some (.int .i64 (r : Int)) ∧ wx.cell? ⟨w.heap.size, 2, none⟩ = some (.slice pt nt ct) := fun wx hb => ⟨(HF.out.row.next hb).facts, (H3.out.1.next hb).facts.2⟩
    have hdr : Below wf.heap.size wf wf.drew := (Below.refl _ _).drew
    go_region_held3 (fun wx => (wx.cell? ⟨gx, 0, none⟩ = some (.int .i64 fr) ∧ wx.cell? ⟨gx, 1, none⟩ = some (.slice p1 m c1) ∧ wx.cell? ⟨gx, 2, none⟩ = some (.slice p2 V c2) ∧ wx.cell? ⟨gx, 3, none⟩ = some (.slice p3 m c3)) ∧ wx.cell? ⟨w.heap.size, 0, none⟩ = some (.int .i64 (k : Int)) ∧ wx.cell? ⟨w.heap.size, 1, none⟩ = some (.int .i64 (r : Int)) ∧ wx.cell? ⟨w.heap.size, 2, none⟩ = some (.slice pt nt ct)) (first | exact hxA _ (by assumption) | exact hxA _ (Below.refl _ _) | exact hxA _ hdr | go_keep) (first
      | (go_at_call 22; refine (HC.out.2.2.2.1 _ pv cv (H3.out.2.2.next (by first | exact hdr | exact Below.refl _ _))).mono ?_; rintro e' wd ⟨pd, cd, rfl, od, hb7⟩; have hB7 : Below wf.heap.size wf wd := (by first | exact hdr.trans (hb7.mono hdr.size) | exact hb7))
      | (go_at_call 20; refine (HC.out.2.2.2.2 _ p1 p2 p3 pv pd c1 c2 c3 cv cd (HF.out.v1.next hB7) (HF.out.v2.next hB7) (HF.out.v3.next hB7) (H3.out.2.2.next hB7) od.toV).mono ?_; rintro e' we ⟨rfl, hb8⟩; have hB8 : Below wf.heap.size wf we := hB7.trans (hb8.mono hB7.size)))
    all_goals
      have HZ := Lib.hid (H3.out.2.1.trans (hB8.mono H3.out.2.1.size))
      clear hxA hdr od hb7 hB7 hb8 hB8
      go_wp2_with fail
      go_ret
      exact ⟨rfl, HZ.out⟩
end Go.Proofs.YtfgoflaeclfggaaDoor
