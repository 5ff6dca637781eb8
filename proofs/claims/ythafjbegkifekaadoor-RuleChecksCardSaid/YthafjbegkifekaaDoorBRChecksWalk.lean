/- RuleChecks: its walk. -/
import Derived.Test.YthafjbegkifekaaDoorBPairR
import Derived.Test.YthafjbegkifekaaDoorB5
namespace Go.Proofs.YthafjbegkifekaaDoor
open Go.RowKit Go.Extern.Stop Go.Stop Go.Extern WordM RuleM NatM
attribute [local go_sem ↓] Go.wp_at_zero Go.wp_at_succ

set_option maxRecDepth 100000 in
set_option maxHeartbeats 16000000 in
theorem checks_any (k r kk rr : Int) (p : Option Addr) (n c : Nat) (t : List Int) (w : World) (A : Nat → Addr) (hr : Roots w A) (hT : TypeVar w) (hn : n = t.length) (h : IntV w.heap.size w p c t) (hl : t.length ≤ 17592186043904) :
    Calls Tryd.prog 3 #[.agg #[.int .i64 k, .int .i64 r, .slice p n c], .int .i64 kk, .int .i64 rr] w (Tells (.bool true) w) := by
  have hlent := fun W hW => lentR_any k r p n c t W hn hW hl
  unfold LentR at hlent
  simp only [← hn] at hlent
  have H := Lib.hid (And.intro hr (And.intro hT (And.intro hn (And.intro h (And.intro hl hlent)))))
  clear hr hT hn h hl hlent
  go_enter Tryd.func3, Tryd.ntmps3
  go_upto_region 1 with fail
  obtain ⟨w0, hw0⟩ : ∃ w0, w0 = w.alloc (.cells #[.int .i64 k, .int .i64 r, .slice p n c] 24) := ⟨_, rfl⟩
  have hb0 : Below w.heap.size w w0 := by rw [hw0]; exact (Below.refl _ _).alloc (Nat.le_refl _) _
  have hE0 : Rul3 w0 w.heap.size (.int .i64 k) (.int .i64 r) (.slice p n c) := by rw [hw0]; exact Rul3.new w _ _ _
  rw [← hw0]
  have HE := Lib.hid (And.intro hE0 hb0)
  clear hw0 hE0 hb0
  go_wp2_with fail
  refine (awakeR w0 A (H.out.1.below HE.out.2)).mono ?_
  rintro e w1 ⟨rfl, hb1⟩
  have H1 := Lib.hid (And.intro (HE.out.1.next hb1) (HE.out.2.trans (hb1.mono HE.out.2.size)))
  clear hb1
  obtain ⟨_, hc0, hc1, hc2⟩ := H1.out.1.facts
  go_wp2_with fail
  refine (H.out.2.2.2.2.2 w1 (H.out.2.2.2.1.next H1.out.2)).mono ?_
  rintro e w2 ⟨g, rfl, _, hLg, hb2⟩
  go_upto_region 4 with fail
  obtain ⟨wA, hwA⟩ : ∃ x, x = w2.alloc (.cells #[.int .i64 k, .int .i64 r, .slice (some ⟨g, 0, none⟩) n (n + 2)] 24) := ⟨_, rfl⟩
  have hbA : Below w2.heap.size w2 wA := by rw [hwA]; exact (Below.refl _ _).alloc (Nat.le_refl _) _
  have hEA : Rul3 wA w2.heap.size (.int .i64 k) (.int .i64 r) (.slice (some ⟨g, 0, none⟩) n (n + 2)) := by rw [hwA]; exact Rul3.new w2 _ _ _
  rw [← hwA]
  have hbwA : Below w.heap.size w wA := (H1.out.2.trans (hb2.mono H1.out.2.size)).trans (hbA.mono (Nat.le_trans H1.out.2.size hb2.size))
  have HA := Lib.hid (And.intro hEA (And.intro ((H1.out.1.next hb2).next hbA) (And.intro hbwA (hLg.below hbA))))
  clear hwA hbA hEA hbwA hLg hb2 hc0 hc1 hc2
  go_wp2_with fail
  refine (size_a kk rr wA A (H.out.1.below HA.out.2.2.1)).mono ?_
  rintro e w3 ⟨v9, rfl, hv9, hb3⟩
  have HV := Lib.hid (And.intro hv9 hb3)
  clear hv9 hb3
  obtain ⟨z, hz⟩ : ∃ z, sizeZ kk rr = z := ⟨_, rfl⟩
  have hszb := fun W => size_b kk rr W
  rw [hz]
  simp only [hz] at hszb
  have HZ := Lib.hid hszb
  clear hz hszb
  go_wp2_with fail
  refine (HZ.out w3).mono ?_
  rintro e w4 ⟨a, po, pa, m, rfl, hE4, hb4⟩
  go_upto_region 6 with fail
  obtain ⟨wC, hwC⟩ : ∃ x, x = w4.alloc (.cells #[.int .i64 a, .slice po m m, .slice pa m m] 33) := ⟨_, rfl⟩
  have hbC : Below w4.heap.size w4 wC := by rw [hwC]; exact (Below.refl _ _).alloc (Nat.le_refl _) _
  have hEC : Err3 wC w4.heap.size (.int .i64 a) (.slice po m m) (.slice pa m m) := by rw [hwC]; exact ⟨heap_newN w4 _⟩
  rw [← hwC]
  have hbAC : Below wA.heap.size wA wC := (HV.out.2.trans (hb4.mono HV.out.2.size)).trans (hbC.mono (Nat.le_trans HV.out.2.size hb4.size))
  have hbwC : Below w.heap.size w wC := HA.out.2.2.1.trans (hbAC.mono HA.out.2.2.1.size)
  have hR3 := HA.out.2.1.next hbAC
  have hR7 := HA.out.1.next hbAC
  have hLC := HA.out.2.2.2.below hbAC
  have hvC := (HV.out.1.next hb4).next hbC
  have heC := hE4.next hbC
  have hrC := H.out.1.below hbwC
  have hTC := H.out.2.1.below hbwC
  have hpC := H.out.2.2.2.1.next hbwC
  have hgC : IntV wC.heap.size wC (some ⟨g, 0, none⟩) (n + 2) t := hLC.vn (by rw [H.out.2.2.1]) H.out.2.2.2.2.1
  have hS : ∀ wx : World, Below wC.heap.size wC wx → (wx.cell? ⟨w.heap.size, 0, none⟩ = some (.int .i64 k) ∧ wx.cell? ⟨w.heap.size, 1, none⟩ = some (.int .i64 r) ∧ wx.cell? ⟨w.heap.size, 2, none⟩ = some (.slice p n c)) ∧ (wx.cell? ⟨w2.heap.size, 0, none⟩ = some (.int .i64 k) ∧ wx.cell? ⟨w2.heap.size, 1, none⟩ = some (.int .i64 r) ∧ wx.cell? ⟨w2.heap.size, 2, none⟩ = some (.slice (some ⟨g, 0, none⟩) n (n + 2))) ∧ (wx.cell? ⟨w4.heap.size, 0, none⟩ = some (.int .i64 a) ∧ wx.cell? ⟨w4.heap.size, 1, none⟩ = some (.slice po m m) ∧ wx.cell? ⟨w4.heap.size, 2, none⟩ = some (.slice pa m m)) :=
    fun wx hbx => ⟨(hR3.next hbx).facts.2, (hR7.next hbx).facts.2, (hEC.next hbx).facts.2⟩
  have c1 : ∀ wx : World, Below wC.heap.size wC wx → Calls Tryd.prog 14 #[.agg #[.int .i64 k, .int .i64 r, .slice (some ⟨g, 0, none⟩) n (n + 2)]] wx (PostA wx A ruleOp (fltR k r t)) := fun wx hbx => check_a k r _ n _ t wx A (hrC.below hbx) H.out.2.2.1 (hgC.next hbx)
  have c2 : ∀ wx : World, Below wC.heap.size wC wx → Calls Tryd.prog 15 #[.agg #[.int .i64 k, .int .i64 r, .slice p n c]] wx (PostB wx ruleOp (fltR k r t)) := fun wx hbx => check_b k r p n c t wx H.out.2.2.1 (hpC.next hbx)
  have c3 : ∀ wx : World, Below wC.heap.size wC wx → Calls Tryd.prog 16 #[.agg #[.int .i64 k, .int .i64 r, .slice (some ⟨g, 0, none⟩) n (n + 2)]] wx (PostA wx A ruleOp (chkS k r t)) := fun wx hbx => small_a k r _ n _ t wx A (hrC.below hbx) H.out.2.2.1 (hgC.next hbx)
  have c4 : ∀ wx : World, Below wC.heap.size wC wx → Calls Tryd.prog 17 #[.agg #[.int .i64 k, .int .i64 r, .slice p n c]] wx (PostB wx ruleOp (chkS k r t)) := fun wx hbx => small_b k r p n c t wx H.out.2.2.1 (hpC.next hbx)
  have i1 : ∀ (wx : World) (v : Value) (a : Int) (po pa : Option Addr) (m : Nat), Below wC.heap.size wC wx → ErrA wx A ruleOp (fltR k r t) v → ErrB wx ruleOp (fltR k r t) a po pa m → Calls Tryd.prog 13 #[v, .agg #[.int .i64 a, .slice po m m, .slice pa m m]] wx (Tells (.bool true) wx) := fun wx v a po pa m hbx h1 h2 => is_pair (hrC.below hbx) (hTC.below hbx) (numOk_fltR k r t) h1 h2
  have i2 : ∀ (wx : World) (v : Value) (a : Int) (po pa : Option Addr) (m : Nat), Below wC.heap.size wC wx → ErrA wx A ruleOp (chkS k r t) v → ErrB wx ruleOp (chkS k r t) a po pa m → Calls Tryd.prog 13 #[v, .agg #[.int .i64 a, .slice po m m, .slice pa m m]] wx (Tells (.bool true) wx) := fun wx v a po pa m hbx h1 h2 => is_pair (hrC.below hbx) (hTC.below hbx) (numOk_chkS k r t) h1 h2
  have i3 : ∀ wx : World, Below wC.heap.size wC wx → Calls Tryd.prog 13 #[v9, .agg #[.int .i64 a, .slice po m m, .slice pa m m]] wx (Tells (.bool true) wx) := fun wx hbx => is_pair (hrC.below hbx) (hTC.below hbx) (numOk_chkZ kk rr) (hvC.next hbx) (heC.next hbx)
  have kp : ∀ wx : World, Below wC.heap.size wC wx → Calls Tryd.prog 18 #[.agg #[.int .i64 k, .int .i64 r, .slice (some ⟨g, 0, none⟩) n (n + 2)], .agg #[.int .i64 k, .int .i64 r, .slice p n c]] wx (Tells (.bool true) wx) := fun wx hbx => keptR_any g k r p n (n + 2) c t wx (hLC.below hbx) (hpC.next hbx) H.out.2.2.2.2.1 H.out.2.2.1 (by rw [H.out.2.2.1])
  have hd0 : Below wC.heap.size wC wC.drew := (Below.refl _ _).drew
  have HC := Lib.hid hbwC
  clear hwC hbC hEC hbAC hbwC hR3 hR7 hLC hvC heC hrC hTC hpC hgC hE4 hb4
  go_wp2_with fail
  go_region_held3 (fun w' => (w'.cell? ⟨w.heap.size, 0, none⟩ = some (.int .i64 k) ∧ w'.cell? ⟨w.heap.size, 1, none⟩ = some (.int .i64 r) ∧ w'.cell? ⟨w.heap.size, 2, none⟩ = some (.slice p n c)) ∧ (w'.cell? ⟨w2.heap.size, 0, none⟩ = some (.int .i64 k) ∧ w'.cell? ⟨w2.heap.size, 1, none⟩ = some (.int .i64 r) ∧ w'.cell? ⟨w2.heap.size, 2, none⟩ = some (.slice (some ⟨g, 0, none⟩) n (n + 2))) ∧ (w'.cell? ⟨w4.heap.size, 0, none⟩ = some (.int .i64 a) ∧ w'.cell? ⟨w4.heap.size, 1, none⟩ = some (.slice po m m) ∧ w'.cell? ⟨w4.heap.size, 2, none⟩ = some (.slice pa m m))) (first | exact hS _ (by assumption) | exact hS _ (Below.refl _ _) | go_keep) (first
    | (go_at_call 18; refine (kp _ hB7).mono ?_; rintro e x8 ⟨rfl, hy8⟩; have hB8 : Below wC.heap.size wC x8 := hB7.trans (hy8.mono hB7.size))
    | (go_at_call 13; refine (i3 _ hB6).mono ?_; rintro e x7 ⟨rfl, hy7⟩; have hB7 : Below wC.heap.size wC x7 := hB6.trans (hy7.mono hB6.size))
    | (go_at_call 13; refine (i2 x5 v4 a5 po5 pa5 m5 hB5 (hv4.next hy5) he5).mono ?_; rintro e x6 ⟨rfl, hy6⟩; have hB6 : Below wC.heap.size wC x6 := hB5.trans (hy6.mono hB5.size))
    | (go_at_call 17; refine (c4 _ hB4).mono ?_; rintro e x5 ⟨a5, po5, pa5, m5, rfl, he5, hy5⟩; have hB5 : Below wC.heap.size wC x5 := hB4.trans (hy5.mono hB4.size))
    | (go_at_call 16; refine (c3 _ hB3).mono ?_; rintro e x4 ⟨v4, rfl, hv4, hy4⟩; have hB4 : Below wC.heap.size wC x4 := hB3.trans (hy4.mono hB3.size))
    | (go_at_call 13; refine (i1 x2 v1 a2 po2 pa2 m2 hB2 (hv1.next hy2) he2).mono ?_; rintro e x3 ⟨rfl, hy3⟩; have hB3 : Below wC.heap.size wC x3 := hB2.trans (hy3.mono hB2.size))
    | (go_at_call 15; refine (c2 _ hB1).mono ?_; rintro e x2 ⟨a2, po2, pa2, m2, rfl, he2, hy2⟩; have hB2 : Below wC.heap.size wC x2 := hB1.trans (hy2.mono hB1.size))
    | (go_at_call 14; refine (c1 _ (by first | assumption | exact Below.refl _ _)).mono ?_; rintro e x1 ⟨v1, rfl, hv1, hy1⟩; have hB1 : Below wC.heap.size wC x1 := (by first | exact hd0.trans (hy1.mono hd0.size) | exact hy1)))
  all_goals
    have HF := Lib.hid (HC.out.trans (hB8.mono HC.out.size))
    clear c1 c2 c3 c4 i1 i2 i3 kp hS hy1 hy2 hy3 hy4 hy5 hy6 hy7 hy8 hB1 hB2 hB3 hB4 hB5 hB6 hB7 hB8
    go_wp2_with fail
    go_ret
    exact ⟨rfl, HF.out⟩
end Go.Proofs.YthafjbegkifekaaDoor
