/- FormsMirrors: its walk. -/
import Derived.Test.YtienaogmljlmlaaDoorB6
import Derived.Test.YtienaogmljlmlaaDoorBFormS
namespace Go.Proofs.YtienaogmljlmlaaDoor
open Go.RowKit Go.Extern.Stop Go.Stop Go.Extern WordM RuleM NatM
attribute [local go_sem ↓] Go.wp_at_zero Go.wp_at_succ

set_option maxRecDepth 100000 in
set_option maxHeartbeats 8000000 in
theorem mirrors_bad (k r : Int) (p q pp : Option Addr) (n c m d mp dp : Nat) (t l : List Int) (w : World) (A : Nat → Addr) (hr : Roots w A) (hn : n = t.length) (hm : m = l.length) (h : IntV w.heap.size w p c t) (hl : IntV w.heap.size w q d l) (i a : Nat) (hc : chkT k r t l = some (i, a)) :
    Calls Tryd.prog 3 #[.agg #[.int .i64 k, .int .i64 r, .slice p n c], .slice q m d, .slice pp mp dp] w (Tells (.bool true) w) := by
  have H := Lib.hid (And.intro hr (And.intro hn (And.intro hm (And.intro h (And.intro hl hc)))))
  clear hr hn hm h hl hc
  have ST := Lib.hid (start_rule w (.int .i64 k) (.int .i64 r) (.slice p n c))
  go_enter Tryd.func3, Tryd.ntmps3
  go_upto_region 1 with fail
  obtain ⟨w0, hw0⟩ : ∃ w0, w0 = w.alloc (.cells #[.int .i64 k, .int .i64 r, .slice p n c] 24) := ⟨_, rfl⟩
  rw [← hw0]
  obtain ⟨hb0, hE0⟩ := ST.out w0 hw0
  have HE := Lib.hid (And.intro hE0 hb0)
  clear hw0 hE0 hb0
  go_wp2_with fail
  refine (awakeF w0 A (H.out.1.below HE.out.2)).mono ?_
  rintro e w1 ⟨rfl, hb1⟩
  have H1 := Lib.hid (And.intro (HE.out.1.next hb1) (HE.out.2.trans (hb1.mono HE.out.2.size)))
  clear hb1
  obtain ⟨_, hc0, hc1, hc2⟩ := H1.out.1.facts
  go_wp2_with fail
  refine (image_bad k r p q n c m d t l w1 A (H.out.1.below H1.out.2) H.out.2.1 H.out.2.2.1 (H.out.2.2.2.1.next H1.out.2) (H.out.2.2.2.2.1.next H1.out.2) i a H.out.2.2.2.2.2).mono ?_
  rintro e w2 ⟨p2, c2, rfl, _, hb2⟩
  have HZ := Lib.hid (H1.out.2.trans (hb2.mono H1.out.2.size))
  clear hb2 hc0 hc1 hc2
  go_wp2_with fail
  go_ret
  exact ⟨rfl, HZ.out⟩
set_option maxRecDepth 100000 in
set_option maxHeartbeats 8000000 in
theorem mirrors_long (K R : Nat) (p q pp : Option Addr) (n c m d mp dp : Nat) (t l : List Int) (w : World) (A : Nat → Addr) (hr : Roots w A) (hn : n = t.length) (hm : m = l.length) (h : IntV w.heap.size w p c t) (hl : IntV w.heap.size w q d l) (ho : OkR K R t) (hw : okW K l) (hl4 : l.length ≤ 4096) (hlong : 200 < m) :
    Calls Tryd.prog 3 #[.agg #[.int .i64 (K : Int), .int .i64 (R : Int), .slice p n c], .slice q m d, .slice pp mp dp] w (Tells (.bool true) w) := by
  have him := fun W hW hW' => image_ok K R p q n c m d t l W hn hm hW hW' ho hl4 hw
  obtain ⟨X, hX⟩ : ∃ X, imgW K R t l = X := ⟨_, rfl⟩
  obtain ⟨lx, hlx⟩ : ∃ x, X.length = x := ⟨_, rfl⟩
  simp only [hX] at him
  have hlong' : (200 : Int) < (m : Int) := by omega
  have H := Lib.hid (And.intro hr (And.intro hn (And.intro hm (And.intro h (And.intro hl (And.intro him hlx))))))
  clear hr hn hm h hl him hlx ho hw hl4 hX hlong
  have ST := Lib.hid (start_rule w (.int .i64 (K : Int)) (.int .i64 (R : Int)) (.slice p n c))
  go_enter Tryd.func3, Tryd.ntmps3
  go_upto_region 1 with fail
  obtain ⟨w0, hw0⟩ : ∃ w0, w0 = w.alloc (.cells #[.int .i64 (K : Int), .int .i64 (R : Int), .slice p n c] 24) := ⟨_, rfl⟩
  rw [← hw0]
  obtain ⟨hb0, hE0⟩ := ST.out w0 hw0
  have HE := Lib.hid (And.intro hE0 hb0)
  clear hw0 hE0 hb0
  go_wp2_with fail
  refine (awakeF w0 A (H.out.1.below HE.out.2)).mono ?_
  rintro e w1 ⟨rfl, hb1⟩
  have H1 := Lib.hid (And.intro (HE.out.1.next hb1) (HE.out.2.trans (hb1.mono HE.out.2.size)))
  clear hb1
  obtain ⟨_, hc0, hc1, hc2⟩ := H1.out.1.facts
  go_wp2_with fail
  refine (H.out.2.2.2.2.2.1 w1 (H.out.2.2.2.1.next H1.out.2) (H.out.2.2.2.2.1.next H1.out.2)).mono ?_
  rintro e w2 ⟨p2, c2, rfl, _, hb2⟩
  rw [H.out.2.2.2.2.2.2]
  have HZ := Lib.hid (H1.out.2.trans (hb2.mono H1.out.2.size))
  clear hb2 hc0 hc1 hc2
  go_wp2_with fail
  go_ret
  exact ⟨rfl, HZ.out⟩

def VRel (w1 : World) (g m : Nat) (V : List Int) (v17 : Value) (wr : World) : Prop :=
  ∃ j : Nat, j ≤ m ∧ v17 = .int .i64 (j : Int) ∧ IntO w1.heap.size wr (some ⟨g, 0, none⟩) m (V.take j ++ List.replicate (m - j) 0) ∧ Below w1.heap.size w1 wr
def BRel (w1 : World) (g K mp : Nat) (P : List Int) (v : Value) (wr : World) : Prop :=
  ∃ j : Nat, j ≤ mp ∧ v = .int .i64 (j : Int) ∧ IntO w1.heap.size wr (some ⟨g, 0, none⟩) mp (backT K P j) ∧ Below w1.heap.size w1 wr
set_option maxRecDepth 100000 in
set_option maxHeartbeats 16000000 in
theorem mirrors_not (K R : Nat) (p q pp : Option Addr) (n c m d mp dp : Nat) (t l P : List Int) (w : World) (A : Nat → Addr) (hr : Roots w A) (hn : n = t.length) (hm : m = l.length) (hmp : mp = P.length) (h : IntV w.heap.size w p c t) (hl : IntV w.heap.size w q d l) (hP : IntV w.heap.size w pp dp P) (ho : OkR K R t) (hw : okW K l) (hl4 : l.length ≤ 4096) (hsh : ¬ 200 < m) (hne : ¬ permOf K P) :
    Calls Tryd.prog 3 #[.agg #[.int .i64 (K : Int), .int .i64 (R : Int), .slice p n c], .slice q m d, .slice pp mp dp] w (Tells (.bool true) w) := by
  have him := fun W hW hW' => image_ok K R p q n c m d t l W hn hm hW hW' ho hl4 hw
  obtain ⟨X, hX⟩ : ∃ X, imgW K R t l = X := ⟨_, rfl⟩
  obtain ⟨lx, hlx⟩ : ∃ x, X.length = x := ⟨_, rfl⟩
  simp only [hX] at him
  have hshort : ¬ (200 : Int) < (m : Int) := by omega
  have hmi := mirT_ok ho
  have hmm := mir_mir ho
  have himr := img_mir ho hw
  rw [hX] at himr
  have hrl : l.reverse.length = m := by rw [List.length_reverse, hm]
  have hXr : X.reverse.length = lx := by rw [List.length_reverse, hlx]
  have hbk := fun W hW => back_any q m d l W hm hW (by omega)
  have hbx := fun W px cx hW => back_any px lx cx X W hlx.symm hW (by rw [← hX, imgW_length]; omega)
  obtain ⟨LR, hLR⟩ : ∃ x, l.reverse = x := ⟨_, rfl⟩
  obtain ⟨XR, hXR⟩ : ∃ x, X.reverse = x := ⟨_, rfl⟩
  have hLRo : okW K LR := by rw [← hLR]; exact okW_rev hw
  rw [hLR] at himr hrl
  rw [hXR] at himr hXr
  simp only [hLR] at hbk
  simp only [hXR] at hbx
  obtain ⟨M, hM⟩ : ∃ x, mirT K R t = x := ⟨_, rfl⟩
  rw [hM] at hmi hmm himr
  have hmd := fun W hW => fmirror_ok K R p n c t W hn hW ho
  simp only [hM] at hmd
  have hMl : M.length = n := by rw [hmi.len, hn, ho.len]
  have hmd2 := fun W px cx hW => fmirror_ok K R px n cx M W hMl.symm hW hmi
  rw [hmm] at hmd2
  have him2 := fun W px cx py cy hW hW' => image_ok K R px py n cx m cy M LR W hMl.symm hrl.symm hW hW' hmi (by omega) hLRo
  rw [himr] at him2
  have HA := Lib.hid (And.intro him (And.intro hlx (And.intro hbk (And.intro hbx (And.intro hrl (And.intro hXr (And.intro hmd (And.intro hMl (And.intro hmd2 him2)))))))))
  have hrn := fun W hR hW hPW => frename_arg K R p pp n c mp dp t P W A hR hn hmp hW hPW ho hne
  have H := Lib.hid (And.intro hr (And.intro hn (And.intro hm (And.intro h (And.intro hl (And.intro hP hrn))))))
  clear hr hn hm hmp h hl hP ho hw hl4 him hlx hbk hbx hrl hXr hmd hMl hmd2 him2 hmi hmm himr hX hLR hXR hLRo hM hrn hne hsh
  have ST := Lib.hid (start_rule w (.int .i64 (K : Int)) (.int .i64 (R : Int)) (.slice p n c))
  go_enter Tryd.func3, Tryd.ntmps3
  go_upto_region 1 with fail
  obtain ⟨w0, hw0⟩ : ∃ w0, w0 = w.alloc (.cells #[.int .i64 (K : Int), .int .i64 (R : Int), .slice p n c] 24) := ⟨_, rfl⟩
  rw [← hw0]
  obtain ⟨hb0, hE0⟩ := ST.out w0 hw0
  have HE := Lib.hid (And.intro hE0 hb0)
  clear hw0 hE0 hb0
  go_wp2_with fail
  refine (awakeF w0 A (H.out.1.below HE.out.2)).mono ?_
  rintro e w1 ⟨rfl, hb1⟩
  have H1 := Lib.hid (And.intro (HE.out.1.next hb1) (HE.out.2.trans (hb1.mono HE.out.2.size)))
  clear hb1
  obtain ⟨_, hc0, hc1, hc2⟩ := H1.out.1.facts
  go_wp2_with fail
  refine (HA.out.1 w1 (H.out.2.2.2.1.next H1.out.2) (H.out.2.2.2.2.1.next H1.out.2)).mono ?_
  rintro e w2 ⟨p2, c2, rfl, ho2, hb2⟩
  rw [HA.out.2.1]
  have J2 := Lib.hid (H1.out.2.trans (hb2.mono H1.out.2.size))
  have E2 := Lib.hid (H1.out.1.next hb2)
  have X2 := Lib.hid ho2.toV
  clear hb2 hc0 hc1 hc2 ho2
  obtain ⟨_, hc0, hc1, hc2⟩ := E2.out.facts
  go_wp2_with fail
  refine (HA.out.2.2.2.2.2.2.1 w2 (H.out.2.2.2.1.next J2.out)).mono ?_
  rintro e y ⟨p3, c3, rfl, ho3, hy⟩
  rw [HA.out.2.2.2.2.2.2.2.1]
  clear hc0 hc1 hc2
  go_upto_region 7 with fail
  obtain ⟨z3, hz⟩ : ∃ x, x = y.alloc (.cells #[.int .i64 (K : Int), .int .i64 (R : Int), .slice p3 n c3] 24) := ⟨_, rfl⟩
  obtain ⟨hbz, hEz⟩ := start_rule y (.int .i64 (K : Int)) (.int .i64 (R : Int)) (.slice p3 n c3) z3 hz
  rw [← hz]
  obtain ⟨hz3, hhz⟩ : ∃ x, y.heap.size = x := ⟨_, rfl⟩
  rw [hhz] at hEz ⊢
  have hyz := hy.trans (hbz.mono hy.size)
  have J3 := Lib.hid (J2.out.trans (hyz.mono J2.out.size))
  have E3 := Lib.hid (E2.out.next hyz)
  have X3 := Lib.hid (X2.out.next hyz)
  have M3 := Lib.hid (And.intro hEz (ho3.next hbz).toV)
  clear hz hbz hEz hyz hhz hy ho3
  have hbk : ∀ wx : World, Below z3.heap.size z3 wx → Calls Tryd.prog 10 #[.slice q m d] wx (IntPost wx LR) := fun wx hbx => HA.out.2.2.1 wx ((H.out.2.2.2.2.1.next J3.out).next hbx)
  have hig : ∀ (wx : World) (pa : Option Addr) (ca : Nat), Below z3.heap.size z3 wx → IntV wx.heap.size wx pa ca LR → Calls Tryd.prog 8 #[.agg #[.int .i64 (K : Int), .int .i64 (R : Int), .slice p3 n c3], .slice pa m ca] wx (ImgPost wx XR true) := fun wx pa ca hbx hx => HA.out.2.2.2.2.2.2.2.2.2 wx p3 c3 pa ca (M3.out.2.next hbx) hx
  have hxA : ∀ wx : World, Below z3.heap.size z3 wx → wx.cell? ⟨hz3, 0, none⟩ = some (.int .i64 (K : Int)) ∧ wx.cell? ⟨hz3, 1, none⟩ = some (.int .i64 (R : Int)) ∧ wx.cell? ⟨hz3, 2, none⟩ = some (.slice p3 n c3) := fun wx hbx => (M3.out.1.next hbx).facts.2
  have hd0 : Below z3.heap.size z3 z3.drew := (Below.refl _ _).drew
  have hlr := HA.out.2.2.2.2.1
  have hxr := HA.out.2.2.2.2.2.1
  obtain ⟨hc0, hc1, hc2⟩ := hxA z3 (Below.refl _ _)
  go_region_held3 (fun w' => w'.cell? ⟨hz3, 0, none⟩ = some (.int .i64 (K : Int)) ∧ w'.cell? ⟨hz3, 1, none⟩ = some (.int .i64 (R : Int)) ∧ w'.cell? ⟨hz3, 2, none⟩ = some (.slice p3 n c3)) (first | exact hxA _ (by assumption) | exact hxA _ (Below.refl _ _) | exact hxA _ hd0 | go_keep) (first
    | (go_at_call 10; refine (hbk _ (by first | assumption | exact Below.refl _ _)).mono ?_; rintro e wa ⟨pa, ca, rfl, hoa, hba⟩; rw [hlr]; have hBa : Below z3.heap.size z3 wa := (by first | exact hba | exact hd0.trans (hba.mono hd0.size)))
    | (go_at_call 8; refine (hig _ pa ca hBa hoa.toV).mono ?_; rintro e wb ⟨pb, cb, rfl, hob, hbb⟩; rw [hxr]; have hBb : Below z3.heap.size z3 wb := hBa.trans (hbb.mono hBa.size)))
  all_goals
    have J4 := Lib.hid (J3.out.trans (hBb.mono J3.out.size))
    have E4 := Lib.hid (E3.out.next hBb)
    have X4 := Lib.hid (X3.out.next hBb)
    have M4 := Lib.hid (And.intro (M3.out.1.next hBb) (M3.out.2.next hBb))
    have Y4 := Lib.hid hob.toV
    clear hbk hig hxA hd0 hlr hxr hba hbb hBa hBb hoa hob hc0 hc1 hc2
    obtain ⟨_, hc0, hc1, hc2⟩ := M4.out.1.facts
    go_wp2_with fail
    refine (HA.out.2.2.2.2.2.2.2.2.1 wb p3 c3 M4.out.2).mono ?_
    rintro e y ⟨p5, c5, rfl, ho5, hy⟩
    rw [← H.out.2.1]
    clear hc0 hc1 hc2
    go_upto_region 9 with fail
    obtain ⟨z5, hz⟩ : ∃ x, x = y.alloc (.cells #[.int .i64 (K : Int), .int .i64 (R : Int), .slice p5 n c5] 24) := ⟨_, rfl⟩
    obtain ⟨hbz, hEz⟩ := start_rule y (.int .i64 (K : Int)) (.int .i64 (R : Int)) (.slice p5 n c5) z5 hz
    rw [← hz]
    obtain ⟨hz5, hhz⟩ : ∃ x, y.heap.size = x := ⟨_, rfl⟩
    rw [hhz] at hEz ⊢
    have hyz := hy.trans (hbz.mono hy.size)
    have J5 := Lib.hid (J4.out.trans (hyz.mono J4.out.size))
    have E5 := Lib.hid (E4.out.next hyz)
    have X5 := Lib.hid (X4.out.next hyz)
    have Y5 := Lib.hid (Y4.out.next hyz)
    have N5 := Lib.hid (And.intro hEz (ho5.next hbz).toV)
    clear hz hbz hEz hyz hhz hy ho5
    obtain ⟨_, hc0, hc1, hc2⟩ := E5.out.facts
    obtain ⟨_, hd0, hd1, hd2⟩ := N5.out.1.facts
    go_wp2_with fail
    refine (HA.out.2.2.2.1 z5 p2 c2 X5.out).mono ?_
    rintro e z6 ⟨p6, c6, rfl, ho6, hy⟩
    rw [HA.out.2.2.2.2.2.1]
    have J6 := Lib.hid (J5.out.trans (hy.mono J5.out.size))
    have E6 := Lib.hid (E5.out.next hy)
    have X6 := Lib.hid (X5.out.next hy)
    have Y6 := Lib.hid (And.intro (Y5.out.next hy) ho6.toV)
    have N6 := Lib.hid (And.intro (N5.out.1.next hy) (N5.out.2.next hy))
    clear hy ho6 hc0 hc1 hc2 hd0 hd1 hd2
    obtain ⟨_, hc0, hc1, hc2⟩ := E6.out.facts
    obtain ⟨_, hd0, hd1, hd2⟩ := N6.out.1.facts
    go_wp2_with fail
    refine (ints_any pb p6 lx lx cb c6 XR XR z6 HA.out.2.2.2.2.2.1.symm HA.out.2.2.2.2.2.1.symm Y6.out.1 Y6.out.2).mono ?_
    rintro e z7 ⟨rfl, hy⟩
    rw [sameI_self]
    have J7 := Lib.hid (J6.out.trans (hy.mono J6.out.size))
    have E7 := Lib.hid (E6.out.next hy)
    have X7 := Lib.hid (X6.out.next hy)
    have N7 := Lib.hid (And.intro (N6.out.1.next hy) (N6.out.2.next hy))
    clear hy hc0 hc1 hc2 hd0 hd1 hd2
    obtain ⟨_, hc0, hc1, hc2⟩ := E7.out.facts
    obtain ⟨_, hd0, hd1, hd2⟩ := N7.out.1.facts
    go_wp2_with fail
    refine (rules_same (K : Int) (R : Int) p5 p n c5 c t z7 H.out.2.1 N7.out.2 (H.out.2.2.2.1.next J7.out)).mono ?_
    rintro e z8 ⟨rfl, hy⟩
    have J8 := Lib.hid (J7.out.trans (hy.mono J7.out.size))
    have E8 := Lib.hid (E7.out.next hy)
    have X8 := Lib.hid (X7.out.next hy)
    clear hy hc0 hc1 hc2 hd0 hd1 hd2
    obtain ⟨_, hc0, hc1, hc2⟩ := E8.out.facts
    go_wp2_with fail
    refine (H.out.2.2.2.2.2.2 z8 (H.out.1.below J8.out) (H.out.2.2.2.1.next J8.out) (H.out.2.2.2.2.2.1.next J8.out)).mono ?_
    rintro e y ⟨b, rfl, _, hy⟩
    rw [noRule_eq]
    clear hc0 hc1 hc2
    go_upto_region 12 with fail
    obtain ⟨z9, hz⟩ : ∃ x, x = y.alloc (.cells #[.int .i64 0, .int .i64 0, .slice none 0 0] 24) := ⟨_, rfl⟩
    obtain ⟨hbz, hEz⟩ := start_rule y (.int .i64 0) (.int .i64 0) (.slice none 0 0) z9 hz
    rw [← hz]
    have hyz := hy.trans (hbz.mono hy.size)
    obtain ⟨_, hc0, hc1, hc2⟩ := hEz.facts
    have JZ := Lib.hid (J8.out.trans (hyz.mono J8.out.size))
    clear hz hbz hEz hyz hy
    go_wp2_with fail
    go_ret
    exact ⟨rfl, JZ.out⟩
set_option maxRecDepth 100000 in
set_option maxHeartbeats 32000000 in
theorem mirrors_ok (K R : Nat) (p q pp : Option Addr) (n c m d mp dp : Nat) (t l P : List Int) (w : World) (A : Nat → Addr) (hr : Roots w A) (hn : n = t.length) (hm : m = l.length) (hmp : mp = P.length) (h : IntV w.heap.size w p c t) (hl : IntV w.heap.size w q d l) (hP : IntV w.heap.size w pp dp P) (ho : OkR K R t) (hw : okW K l) (hl4 : l.length ≤ 4096) (hsh : ¬ 200 < m) (hp : permOf K P) :
    Calls Tryd.prog 3 #[.agg #[.int .i64 (K : Int), .int .i64 (R : Int), .slice p n c], .slice q m d, .slice pp mp dp] w (Tells (.bool true) w) := by
  have him := fun W hW hW' => image_ok K R p q n c m d t l W hn hm hW hW' ho hl4 hw
  obtain ⟨X, hX⟩ : ∃ X, imgW K R t l = X := ⟨_, rfl⟩
  obtain ⟨lx, hlx⟩ : ∃ x, X.length = x := ⟨_, rfl⟩
  simp only [hX] at him
  have hshort : ¬ (200 : Int) < (m : Int) := by omega
  have hmi := mirT_ok ho
  have hmm := mir_mir ho
  have himr := img_mir ho hw
  rw [hX] at himr
  have hrl : l.reverse.length = m := by rw [List.length_reverse, hm]
  have hXr : X.reverse.length = lx := by rw [List.length_reverse, hlx]
  have hbk := fun W hW => back_any q m d l W hm hW (by omega)
  have hbx := fun W px cx hW => back_any px lx cx X W hlx.symm hW (by rw [← hX, imgW_length]; omega)
  obtain ⟨LR, hLR⟩ : ∃ x, l.reverse = x := ⟨_, rfl⟩
  obtain ⟨XR, hXR⟩ : ∃ x, X.reverse = x := ⟨_, rfl⟩
  have hLRo : okW K LR := by rw [← hLR]; exact okW_rev hw
  rw [hLR] at himr hrl
  rw [hXR] at himr hXr
  simp only [hLR] at hbk
  simp only [hXR] at hbx
  obtain ⟨M, hM⟩ : ∃ x, mirT K R t = x := ⟨_, rfl⟩
  rw [hM] at hmi hmm himr
  have hmd := fun W hW => fmirror_ok K R p n c t W hn hW ho
  simp only [hM] at hmd
  have hMl : M.length = n := by rw [hmi.len, hn, ho.len]
  have hmd2 := fun W px cx hW => fmirror_ok K R px n cx M W hMl.symm hW hmi
  rw [hmm] at hmd2
  have him2 := fun W px cx py cy hW hW' => image_ok K R px py n cx m cy M LR W hMl.symm hrl.symm hW hW' hmi (by omega) hLRo
  rw [himr] at him2
  have HA := Lib.hid (And.intro him (And.intro hlx (And.intro hbk (And.intro hbx (And.intro hrl (And.intro hXr (And.intro hmd (And.intro hMl (And.intro hmd2 him2)))))))))
  have hk4 := ho.k4
  have hpi := perm_inv hp
  have hrok := renT_ok ho hpi
  have hrr := ren_ren ho hpi
  have hir := img_ren ho hpi hw
  have hii := inv_inv hp
  have hip := inv_perm hp
  have hPo := perm_okW hp
  have hPl := hp.1
  have hbf := backT_full hp
  have hbs := fun (j : Nat) (hj : j < K) => backT_step hp hj
  have hbz0 := backT_zero K P
  have hXo : okW K X := by rw [← hX]; exact imgW_ok ho hw
  rw [hX] at hir
  have hrn := fun W hW hPW => frename_ok K R p pp n c mp dp t P W hn hmp hW hPW ho hp
  obtain ⟨I, hI⟩ : ∃ x, invL K P = x := ⟨_, rfl⟩
  rw [hI] at hrok hrr hir hii hip hpi hbf
  simp only [hI] at hrn
  obtain ⟨T, hT⟩ : ∃ x, renT K R t P I = x := ⟨_, rfl⟩
  rw [hT] at hrok hrr hir
  simp only [hT] at hrn
  have hTl : T.length = n := by rw [hrok.len, hn, ho.len]
  have hIl : I.length = K := by rw [← hI]; exact tabN_length _ _
  have hmpI : mp = I.length := by rw [hIl, hmp, hPl]
  have hrb := fun W px cx py cy hW hPW => frename_ok K R px py n cx mp cy T I W hTl.symm hmpI hW hPW hrok hip
  rw [hii, hrr] at hrb
  have hVl := nmW_length P l
  have hVe := fun (j : Nat) (hj : j < l.length) => nmW_take P l j hj
  have hVo := nmW_ok hPo hPl hw
  have hZl := nmW_length P X
  have hZe := fun (j : Nat) (hj : j < X.length) => nmW_ent (P := P) hj
  obtain ⟨V, hV⟩ : ∃ x, nmW P l = x := ⟨_, rfl⟩
  obtain ⟨Z, hZ⟩ : ∃ x, nmW P X = x := ⟨_, rfl⟩
  rw [hV] at hVl hVo hir
  simp only [hV] at hVe
  rw [hZ] at hZl hir
  simp only [hZ] at hZe
  rw [← hm] at hVl
  rw [hlx] at hZl
  have him3 := fun W px cx py cy hW hW' => image_ok K R px py n cx m cy T V W hTl.symm hVl.symm hW hW' hrok (by omega) hVo
  rw [hir] at him3
  have hmpK : mp = K := by rw [hmp, hPl]
  have HQ := Lib.hid (And.intro hrn (And.intro hTl (And.intro hrb (And.intro hVl (And.intro hVe (And.intro hZl (And.intro hZe (And.intro him3 (And.intro hPo (And.intro hPl (And.intro hbf (And.intro hbs (And.intro hbz0 (And.intro hXo (And.intro hw (And.intro hmpK hk4))))))))))))))))
  have H := Lib.hid (And.intro hr (And.intro hn (And.intro hm (And.intro h (And.intro hl (And.intro hP hmp))))))
  have hmk := fun W => makeI m (by omega) W
  have hmk2 := fun W => makeI mp (by omega) W
  have hlxb : lx ≤ 200 := by rw [← hlx, ← hX, imgW_length]; omega
  have HM := Lib.hid (And.intro hmk (And.intro hmk2 hlxb))
  clear hr hn hm hmp h hl hP ho hw hl4 him hlx hbk hbx hrl hXr hmd hMl hmd2 him2 hmi hmm himr hX hLR hXR hLRo hM hrn hsh hp hpi hrok hrr hir hii hip hPo hPl hbf hbs hbz0 hXo hI hT hTl hIl hrb hVl hVe hVo hZl hZe hV hZ him3 hmpK hmpI hmk hmk2 hlxb hk4
  have ST := Lib.hid (start_rule w (.int .i64 (K : Int)) (.int .i64 (R : Int)) (.slice p n c))
  go_enter Tryd.func3, Tryd.ntmps3
  go_upto_region 1 with fail
  obtain ⟨w0, hw0⟩ : ∃ w0, w0 = w.alloc (.cells #[.int .i64 (K : Int), .int .i64 (R : Int), .slice p n c] 24) := ⟨_, rfl⟩
  rw [← hw0]
  obtain ⟨hb0, hE0⟩ := ST.out w0 hw0
  have HE := Lib.hid (And.intro hE0 hb0)
  clear hw0 hE0 hb0
  go_wp2_with fail
  refine (awakeF w0 A (H.out.1.below HE.out.2)).mono ?_
  rintro e w1 ⟨rfl, hb1⟩
  have H1 := Lib.hid (And.intro (HE.out.1.next hb1) (HE.out.2.trans (hb1.mono HE.out.2.size)))
  clear hb1
  obtain ⟨_, hc0, hc1, hc2⟩ := H1.out.1.facts
  go_wp2_with fail
  refine (HA.out.1 w1 (H.out.2.2.2.1.next H1.out.2) (H.out.2.2.2.2.1.next H1.out.2)).mono ?_
  rintro e w2 ⟨p2, c2, rfl, ho2, hb2⟩
  rw [HA.out.2.1]
  have J2 := Lib.hid (H1.out.2.trans (hb2.mono H1.out.2.size))
  have E2 := Lib.hid (H1.out.1.next hb2)
  have X2 := Lib.hid ho2.toV
  clear hb2 hc0 hc1 hc2 ho2
  obtain ⟨_, hc0, hc1, hc2⟩ := E2.out.facts
  go_wp2_with fail
  refine (HA.out.2.2.2.2.2.2.1 w2 (H.out.2.2.2.1.next J2.out)).mono ?_
  rintro e y ⟨p3, c3, rfl, ho3, hy⟩
  rw [HA.out.2.2.2.2.2.2.2.1]
  clear hc0 hc1 hc2
  go_upto_region 7 with fail
  obtain ⟨z3, hz⟩ : ∃ x, x = y.alloc (.cells #[.int .i64 (K : Int), .int .i64 (R : Int), .slice p3 n c3] 24) := ⟨_, rfl⟩
  obtain ⟨hbz, hEz⟩ := start_rule y (.int .i64 (K : Int)) (.int .i64 (R : Int)) (.slice p3 n c3) z3 hz
  rw [← hz]
  obtain ⟨hz3, hhz⟩ : ∃ x, y.heap.size = x := ⟨_, rfl⟩
  rw [hhz] at hEz ⊢
  have hyz := hy.trans (hbz.mono hy.size)
  have J3 := Lib.hid (J2.out.trans (hyz.mono J2.out.size))
  have E3 := Lib.hid (E2.out.next hyz)
  have X3 := Lib.hid (X2.out.next hyz)
  have M3 := Lib.hid (And.intro hEz (ho3.next hbz).toV)
  clear hz hbz hEz hyz hhz hy ho3
  have hbk : ∀ wx : World, Below z3.heap.size z3 wx → Calls Tryd.prog 10 #[.slice q m d] wx (IntPost wx LR) := fun wx hbx => HA.out.2.2.1 wx ((H.out.2.2.2.2.1.next J3.out).next hbx)
  have hig : ∀ (wx : World) (pa : Option Addr) (ca : Nat), Below z3.heap.size z3 wx → IntV wx.heap.size wx pa ca LR → Calls Tryd.prog 8 #[.agg #[.int .i64 (K : Int), .int .i64 (R : Int), .slice p3 n c3], .slice pa m ca] wx (ImgPost wx XR true) := fun wx pa ca hbx hx => HA.out.2.2.2.2.2.2.2.2.2 wx p3 c3 pa ca (M3.out.2.next hbx) hx
  have hxA : ∀ wx : World, Below z3.heap.size z3 wx → wx.cell? ⟨hz3, 0, none⟩ = some (.int .i64 (K : Int)) ∧ wx.cell? ⟨hz3, 1, none⟩ = some (.int .i64 (R : Int)) ∧ wx.cell? ⟨hz3, 2, none⟩ = some (.slice p3 n c3) := fun wx hbx => (M3.out.1.next hbx).facts.2
  have hd0 : Below z3.heap.size z3 z3.drew := (Below.refl _ _).drew
  have hlr := HA.out.2.2.2.2.1
  have hxr := HA.out.2.2.2.2.2.1
  obtain ⟨hc0, hc1, hc2⟩ := hxA z3 (Below.refl _ _)
  go_region_held3 (fun w' => w'.cell? ⟨hz3, 0, none⟩ = some (.int .i64 (K : Int)) ∧ w'.cell? ⟨hz3, 1, none⟩ = some (.int .i64 (R : Int)) ∧ w'.cell? ⟨hz3, 2, none⟩ = some (.slice p3 n c3)) (first | exact hxA _ (by assumption) | exact hxA _ (Below.refl _ _) | exact hxA _ hd0 | go_keep) (first
    | (go_at_call 10; refine (hbk _ (by first | assumption | exact Below.refl _ _)).mono ?_; rintro e wa ⟨pa, ca, rfl, hoa, hba⟩; rw [hlr]; have hBa : Below z3.heap.size z3 wa := (by first | exact hba | exact hd0.trans (hba.mono hd0.size)))
    | (go_at_call 8; refine (hig _ pa ca hBa hoa.toV).mono ?_; rintro e wb ⟨pb, cb, rfl, hob, hbb⟩; rw [hxr]; have hBb : Below z3.heap.size z3 wb := hBa.trans (hbb.mono hBa.size)))
  all_goals
    have J4 := Lib.hid (J3.out.trans (hBb.mono J3.out.size))
    have E4 := Lib.hid (E3.out.next hBb)
    have X4 := Lib.hid (X3.out.next hBb)
    have M4 := Lib.hid (And.intro (M3.out.1.next hBb) (M3.out.2.next hBb))
    have Y4 := Lib.hid hob.toV
    clear hbk hig hxA hd0 hlr hxr hba hbb hBa hBb hoa hob hc0 hc1 hc2
    obtain ⟨_, hc0, hc1, hc2⟩ := M4.out.1.facts
    go_wp2_with fail
    refine (HA.out.2.2.2.2.2.2.2.2.1 wb p3 c3 M4.out.2).mono ?_
    rintro e y ⟨p5, c5, rfl, ho5, hy⟩
    rw [← H.out.2.1]
    clear hc0 hc1 hc2
    go_upto_region 9 with fail
    obtain ⟨z5, hz⟩ : ∃ x, x = y.alloc (.cells #[.int .i64 (K : Int), .int .i64 (R : Int), .slice p5 n c5] 24) := ⟨_, rfl⟩
    obtain ⟨hbz, hEz⟩ := start_rule y (.int .i64 (K : Int)) (.int .i64 (R : Int)) (.slice p5 n c5) z5 hz
    rw [← hz]
    obtain ⟨hz5, hhz⟩ : ∃ x, y.heap.size = x := ⟨_, rfl⟩
    rw [hhz] at hEz ⊢
    have hyz := hy.trans (hbz.mono hy.size)
    have J5 := Lib.hid (J4.out.trans (hyz.mono J4.out.size))
    have E5 := Lib.hid (E4.out.next hyz)
    have X5 := Lib.hid (X4.out.next hyz)
    have Y5 := Lib.hid (Y4.out.next hyz)
    have N5 := Lib.hid (And.intro hEz (ho5.next hbz).toV)
    clear hz hbz hEz hyz hhz hy ho5
    obtain ⟨_, hc0, hc1, hc2⟩ := E5.out.facts
    obtain ⟨_, hd0, hd1, hd2⟩ := N5.out.1.facts
    go_wp2_with fail
    refine (HA.out.2.2.2.1 z5 p2 c2 X5.out).mono ?_
    rintro e z6 ⟨p6, c6, rfl, ho6, hy⟩
    rw [HA.out.2.2.2.2.2.1]
    have J6 := Lib.hid (J5.out.trans (hy.mono J5.out.size))
    have E6 := Lib.hid (E5.out.next hy)
    have X6 := Lib.hid (X5.out.next hy)
    have Y6 := Lib.hid (And.intro (Y5.out.next hy) ho6.toV)
    have N6 := Lib.hid (And.intro (N5.out.1.next hy) (N5.out.2.next hy))
    clear hy ho6 hc0 hc1 hc2 hd0 hd1 hd2
    obtain ⟨_, hc0, hc1, hc2⟩ := E6.out.facts
    obtain ⟨_, hd0, hd1, hd2⟩ := N6.out.1.facts
    go_wp2_with fail
    refine (ints_any pb p6 lx lx cb c6 XR XR z6 HA.out.2.2.2.2.2.1.symm HA.out.2.2.2.2.2.1.symm Y6.out.1 Y6.out.2).mono ?_
    rintro e z7 ⟨rfl, hy⟩
    rw [sameI_self]
    have J7 := Lib.hid (J6.out.trans (hy.mono J6.out.size))
    have E7 := Lib.hid (E6.out.next hy)
    have X7 := Lib.hid (X6.out.next hy)
    have N7 := Lib.hid (And.intro (N6.out.1.next hy) (N6.out.2.next hy))
    clear hy hc0 hc1 hc2 hd0 hd1 hd2
    obtain ⟨_, hc0, hc1, hc2⟩ := E7.out.facts
    obtain ⟨_, hd0, hd1, hd2⟩ := N7.out.1.facts
    go_wp2_with fail
    refine (rules_same (K : Int) (R : Int) p5 p n c5 c t z7 H.out.2.1 N7.out.2 (H.out.2.2.2.1.next J7.out)).mono ?_
    rintro e z8 ⟨rfl, hy⟩
    have J8 := Lib.hid (J7.out.trans (hy.mono J7.out.size))
    have E8 := Lib.hid (E7.out.next hy)
    have X8 := Lib.hid (X7.out.next hy)
    clear hy hc0 hc1 hc2 hd0 hd1 hd2
    obtain ⟨_, hc0, hc1, hc2⟩ := E8.out.facts
    go_wp2_with fail
    refine (HQ.out.1 z8 (H.out.2.2.2.1.next J8.out) (H.out.2.2.2.2.2.1.next J8.out)).mono ?_
    rintro e y ⟨p9, c9, rfl, ho9, hy⟩
    rw [HQ.out.2.1]
    clear hc0 hc1 hc2
    go_upto_region 12 with fail
    obtain ⟨z9, hz⟩ : ∃ x, x = y.alloc (.cells #[.int .i64 (K : Int), .int .i64 (R : Int), .slice p9 n c9] 24) := ⟨_, rfl⟩
    obtain ⟨hbz, hEz⟩ := start_rule y (.int .i64 (K : Int)) (.int .i64 (R : Int)) (.slice p9 n c9) z9 hz
    rw [← hz]
    obtain ⟨hz9, hhz⟩ : ∃ x, y.heap.size = x := ⟨_, rfl⟩
    rw [hhz] at hEz ⊢
    have hyz := hy.trans (hbz.mono hy.size)
    have J9 := Lib.hid (J8.out.trans (hyz.mono J8.out.size))
    have E9 := Lib.hid (E8.out.next hyz)
    have X9 := Lib.hid (X8.out.next hyz)
    have T9 := Lib.hid (And.intro hEz (ho9.next hbz).toV)
    clear hz hbz hEz hyz hhz hy ho9
    have hmk := HM.out.1 z9
    go_upto_region 16 with fail
    have ho0 := IntO.made z9 m (by have := H.out.2.2.1; have := H.out.2.2.2.2.1.le; have := H.out.2.2.2.2.1.cap; omega)
    have hbm : Below z9.heap.size z9 (z9.alloc (.cells (madeCells #[.int .i64 0] m) 3)) := (Below.refl _ _).alloc (Nat.le_refl _) _
    have HO := Lib.hid (And.intro ho0 hbm)
    clear hmk ho0 hbm
    go_loopw [17] (fun v17 wr => VRel z9 z9.heap.size m V v17 wr) (fun v _ => m - (intOf v).toNat)
    case atStart => exact ⟨0, Nat.zero_le _, rfl, by simpa using HO.out.1, HO.out.2⟩
    case round =>
      obtain ⟨j, hj, rfl, hov, hbv⟩ := hrel
      by_cases hlt : j < m
      · have hlv := (H.out.2.2.2.2.1.next J9.out).next hbv
        have hPv := (H.out.2.2.2.2.2.1.next J9.out).next hbv
        have hjl : j < l.length := by rw [← H.out.2.2.1]; exact hlt
        obtain ⟨bl, ol, hql, hcl⟩ := row_at hlv hjl
        have heo := ent_ok HQ.out.2.2.2.2.2.2.2.2.2.2.2.2.2.2.1 hjl
        have hst := HQ.out.2.2.2.2.1 j hjl
        obtain ⟨x, hx⟩ : ∃ x, ent l j = x := ⟨_, rfl⟩
        rw [hx] at hcl heo hst
        obtain ⟨x, rfl⟩ : ∃ x' : Nat, x = (x' : Int) := ⟨x.toNat, by omega⟩
        rw [Int.toNat_natCast] at hst
        have hxK : x < K := by omega
        have hxP : x < P.length := by rw [HQ.out.2.2.2.2.2.2.2.2.2.1]; exact hxK
        have hxm : x < mp := by rw [HQ.out.2.2.2.2.2.2.2.2.2.2.2.2.2.2.2.1]; exact hxK
        obtain ⟨bp, op, hqp, hcp⟩ := row_at hPv hxP
        subst hql hqp
        obtain ⟨f, hf⟩ : ∃ f, ent P x = f := ⟨_, rfl⟩
        rw [hf] at hcp hst
        have hlen : (V.take j ++ List.replicate (m - j) (0 : Int)).length = m := by rw [List.length_append, List.length_take, List.length_replicate, HQ.out.2.2.2.1]; omega
        have hset : (V.take j ++ List.replicate (m - j) (0 : Int)).set j f = V.take (j + 1) ++ List.replicate (m - (j + 1)) 0 := by
          have hjt : (V.take j).length = j := by rw [List.length_take, HQ.out.2.2.2.1]; omega
          rw [show m - j = (m - (j + 1)) + 1 by omega, List.replicate_succ, List.set_append_right _ _ (by omega), hjt, Nat.sub_self, hst, List.append_assoc]; rfl
        have hlen2 : (V.take (j + 1) ++ List.replicate (m - (j + 1)) (0 : Int)).length = m := by rw [List.length_append, List.length_take, List.length_replicate, HQ.out.2.2.2.1]; omega
        obtain ⟨xs, hxs⟩ : ∃ xs, V.take j ++ List.replicate (m - j) (0 : Int) = xs := ⟨_, rfl⟩
        rw [hxs] at hov hlen hset
        have hown : wr.ownsRow z9.heap.size 3 1 (.slice (some ⟨z9.heap.size, 0, none⟩) m m) m (cI xs) := by
          unfold IntO at hov
          rwa [hlen] at hov
        have hfy : wr.frozen? ⟨z9.heap.size, j, none⟩ = false := hown.frozenAt j
        obtain ⟨y0, hy0⟩ := getI (l := xs) (k := j) (by omega)
        have hcy : wr.cell? ⟨z9.heap.size, j, none⟩ = some (.int .i64 y0) := (hown.cellAt j (by omega)).trans (cI_get hy0)
        obtain ⟨s1, _⟩ := hown.stored j (.int .i64 f)
        rw [← cI_set, hset] at s1
        have hb3 : Below z9.heap.size z9 (wr.setCell ⟨z9.heap.size, j, none⟩ (.int .i64 f)) := hbv.setCell (p := ⟨z9.heap.size, j, none⟩) (Nat.le_refl _) _
        have HS := Lib.hid (And.intro s1 (And.intro hb3 hlen2))
        clear s1 hb3 hlen2 hown hy0 hov hbv hlen hset hxs hst hf hxP hlv hPv hjl heo hx
        go_wp2_with fail
        go_roundw
        case rel => exact ⟨j + 1, by omega, by go_num, by unfold IntO; rw [HS.out.2.2]; exact HS.out.1, HS.out.2.1⟩
        case measure => simp [intOf]; omega
      · obtain rfl : j = m := by omega
        rw [Nat.sub_self, List.replicate_zero, List.append_nil, List.take_of_length_le (by rw [HQ.out.2.2.2.1]; exact Nat.le_refl _)] at hov
        have J10 := Lib.hid (J9.out.trans (hbv.mono J9.out.size))
        have E10 := Lib.hid (E9.out.next hbv)
        have X10 := Lib.hid (X9.out.next hbv)
        have T10 := Lib.hid (And.intro (T9.out.1.next hbv) (T9.out.2.next hbv))
        have V10 := Lib.hid hov.toV
        clear hov hbv
        obtain ⟨_, hc0, hc1, hc2⟩ := T10.out.1.facts
        go_wp2_with fail
        refine (HQ.out.2.2.2.2.2.2.2.1 wr p9 c9 _ _ T10.out.2 V10.out).mono ?_
        rintro e z10 ⟨pz, cz, rfl, hoz, hy⟩
        rw [HQ.out.2.2.2.2.2.1]
        have J11 := Lib.hid (J10.out.trans (hy.mono J10.out.size))
        have E11 := Lib.hid (E10.out.next hy)
        have X11 := Lib.hid (X10.out.next hy)
        have T11 := Lib.hid (And.intro (T10.out.1.next hy) (T10.out.2.next hy))
        have Z11 := Lib.hid hoz.toV
        clear hy hoz hc0 hc1 hc2
        go_upto_region 23 with fail
        go_loopw [19] (fun v wr => (∃ j : Nat, j ≤ lx ∧ v = .int .i64 (j : Int)) ∧ Below z10.heap.size z10 wr) (fun v _ => lx - (intOf v).toNat)
        case atStart => exact ⟨⟨0, Nat.zero_le _, rfl⟩, Below.refl _ _⟩
        case round =>
          obtain ⟨⟨i, hi, rfl⟩, hbi⟩ := hrel
          by_cases hlt : i < lx
          · have hZv := Z11.out.next hbi
            have hXv := X11.out.next hbi
            have hPv := (H.out.2.2.2.2.2.1.next J11.out).next hbi
            have hiX : i < X.length := by rw [HA.out.2.1]; exact hlt
            have hiZ : i < Z.length := by rw [HQ.out.2.2.2.2.2.1]; exact hlt
            have hze := HQ.out.2.2.2.2.2.2.1 i hiX
            obtain ⟨bz, oz, hqz, hcz⟩ := row_at hZv hiZ
            obtain ⟨bx, ox, hqx, hcx⟩ := row_at hXv hiX
            have heo := ent_ok HQ.out.2.2.2.2.2.2.2.2.2.2.2.2.2.1 hiX
            obtain ⟨x, hx⟩ : ∃ x, ent X i = x := ⟨_, rfl⟩
            rw [hx] at hcx heo hze
            obtain ⟨x, rfl⟩ : ∃ x' : Nat, x = (x' : Int) := ⟨x.toNat, by omega⟩
            rw [Int.toNat_natCast] at hze
            have hxK : x < K := by omega
            have hxP : x < P.length := by rw [HQ.out.2.2.2.2.2.2.2.2.2.1]; exact hxK
            have hxm : x < mp := by rw [HQ.out.2.2.2.2.2.2.2.2.2.2.2.2.2.2.2.1]; exact hxK
            obtain ⟨bp, op, hqp, hcp⟩ := row_at hPv hxP
            subst hqz hqx hqp
            rw [hze] at hcz
            obtain ⟨f, hf⟩ : ∃ f, ent P x = f := ⟨_, rfl⟩
            rw [hf] at hcz hcp
            have hff : (f != f) = false := by simp
            have HB := Lib.hid (And.intro hbi.drew hlt)
            clear hZv hXv hPv hiX hiZ hze hf hxP heo hx hbi
            have hb := HM.out.2.2
            go_wp2_with fail
            go_region
            go_wp2_with fail
            go_roundw
            case rel => have hl := HB.out.2; exact ⟨⟨i + 1, hl, by go_num⟩, HB.out.1⟩
            case measure => have hl := HB.out.2; simp [intOf]; omega
          · obtain rfl : i = lx := by omega
            have J12 := Lib.hid (J11.out.trans (hbi.mono J11.out.size))
            have E12 := Lib.hid (E11.out.next hbi)
            have T12 := Lib.hid (And.intro (T11.out.1.next hbi) (T11.out.2.next hbi))
            clear hbi
            obtain ⟨wq, hwq⟩ : ∃ x, x = wr := ⟨_, rfl⟩
            subst hwq
            have hmk := HM.out.2.1 wq
            go_upto_region 29 with fail
            have ho0 := IntO.made wq mp (by have := HQ.out.2.2.2.2.2.2.2.2.2.2.2.2.2.2.2.1; have := HQ.out.2.2.2.2.2.2.2.2.2.2.2.2.2.2.2.2; omega)
            rw [show List.replicate mp (0 : Int) = backT K P 0 by rw [HQ.out.2.2.2.2.2.2.2.2.2.2.2.2.2.2.2.1]; exact HQ.out.2.2.2.2.2.2.2.2.2.2.2.2.1.symm] at ho0
            have hbm : Below wq.heap.size wq (wq.alloc (.cells (madeCells #[.int .i64 0] mp) 3)) := (Below.refl _ _).alloc (Nat.le_refl _) _
            have HO2 := Lib.hid (And.intro ho0 hbm)
            clear hmk ho0 hbm
            go_loopw [21] (fun v wr => BRel wq wq.heap.size K mp P v wr) (fun v _ => mp - (intOf v).toNat)
            case atStart => exact ⟨0, Nat.zero_le _, rfl, HO2.out.1, HO2.out.2⟩
            case round =>
              obtain ⟨j, hj, rfl, hov, hbv⟩ := hrel
              by_cases hlt : j < mp
              · have hPv := (H.out.2.2.2.2.2.1.next J12.out).next hbv
                have hjP : j < P.length := by rw [← H.out.2.2.2.2.2.2]; exact hlt
                obtain ⟨bp, op, hqp, hcp⟩ := row_at hPv hjP
                have heo := ent_ok HQ.out.2.2.2.2.2.2.2.2.1 hjP
                have hst := HQ.out.2.2.2.2.2.2.2.2.2.2.2.1 j (by rw [← HQ.out.2.2.2.2.2.2.2.2.2.2.2.2.2.2.2.1]; exact hlt)
                obtain ⟨x, hx⟩ : ∃ x, ent P j = x := ⟨_, rfl⟩
                rw [hx] at hcp heo hst
                obtain ⟨x, rfl⟩ : ∃ x' : Nat, x = (x' : Int) := ⟨x.toNat, by omega⟩
                rw [Int.toNat_natCast] at hst
                have hxm : x < mp := by rw [HQ.out.2.2.2.2.2.2.2.2.2.2.2.2.2.2.2.1]; omega
                subst hqp
                have hlen : (backT K P j).length = mp := by rw [backT_length]; exact HQ.out.2.2.2.2.2.2.2.2.2.2.2.2.2.2.2.1.symm
                have hlen2 : (backT K P (j + 1)).length = mp := by rw [backT_length]; exact HQ.out.2.2.2.2.2.2.2.2.2.2.2.2.2.2.2.1.symm
                obtain ⟨xs, hxs⟩ : ∃ xs, backT K P j = xs := ⟨_, rfl⟩
                rw [hxs] at hov hlen hst
                have hown : wr.ownsRow wq.heap.size 3 1 (.slice (some ⟨wq.heap.size, 0, none⟩) mp mp) mp (cI xs) := by
                  unfold IntO at hov
                  rwa [hlen] at hov
                have hfy : wr.frozen? ⟨wq.heap.size, x, none⟩ = false := hown.frozenAt x
                obtain ⟨y0, hy0⟩ := getI (l := xs) (k := x) (by omega)
                have hcy : wr.cell? ⟨wq.heap.size, x, none⟩ = some (.int .i64 y0) := (hown.cellAt x (by omega)).trans (cI_get hy0)
                obtain ⟨s1, _⟩ := hown.stored x (.int .i64 (j : Int))
                rw [← cI_set, hst] at s1
                have hb3 : Below wq.heap.size wq (wr.setCell ⟨wq.heap.size, x, none⟩ (.int .i64 (j : Int))) := hbv.setCell (p := ⟨wq.heap.size, x, none⟩) (Nat.le_refl _) _
                have hmb : mp ≤ 17592186044000 := by have := HQ.out.2.2.2.2.2.2.2.2.2.2.2.2.2.2.2.1; have := HQ.out.2.2.2.2.2.2.2.2.2.2.2.2.2.2.2.2; omega
                have HS := Lib.hid (And.intro s1 (And.intro hb3 (And.intro hlen2 hlt)))
                clear s1 hb3 hlen2 hown hy0 hov hbv hlen hxs hst hPv hjP heo hx
                go_wp2_with fail
                go_roundw
                case rel => have hl := HS.out.2.2.2; exact ⟨j + 1, hl, by go_num, by unfold IntO; rw [HS.out.2.2.1]; exact HS.out.1, HS.out.2.1⟩
                case measure => have hl := HS.out.2.2.2; simp [intOf]; omega
              · have hjm : j = mp := by omega
                rw [hjm, HQ.out.2.2.2.2.2.2.2.2.2.2.2.2.2.2.2.1, HQ.out.2.2.2.2.2.2.2.2.2.2.1] at hov
                rw [← HQ.out.2.2.2.2.2.2.2.2.2.2.2.2.2.2.2.1] at hov
                have J13 := Lib.hid (J12.out.trans (hbv.mono J12.out.size))
                have E13 := Lib.hid (E12.out.next hbv)
                have T13 := Lib.hid (And.intro (T12.out.1.next hbv) (T12.out.2.next hbv))
                have V13 := Lib.hid hov.toV
                clear hov hbv
                obtain ⟨_, hc0, hc1, hc2⟩ := T13.out.1.facts
                go_wp2_with fail
                refine (HQ.out.2.2.1 wr p9 c9 _ _ T13.out.2 V13.out).mono ?_
                rintro e y ⟨pr, cr, rfl, hor, hy⟩
                rw [← H.out.2.1]
                clear hc0 hc1 hc2
                go_upto_region 33 with fail
                obtain ⟨z14, hz⟩ : ∃ x, x = y.alloc (.cells #[.int .i64 (K : Int), .int .i64 (R : Int), .slice pr n cr] 24) := ⟨_, rfl⟩
                obtain ⟨hbz, hEz⟩ := start_rule y (.int .i64 (K : Int)) (.int .i64 (R : Int)) (.slice pr n cr) z14 hz
                rw [← hz]
                obtain ⟨hz14, hhz⟩ : ∃ x, y.heap.size = x := ⟨_, rfl⟩
                rw [hhz] at hEz ⊢
                have hyz := hy.trans (hbz.mono hy.size)
                have J14 := Lib.hid (J13.out.trans (hyz.mono J13.out.size))
                have E14 := Lib.hid (E13.out.next hyz)
                have R14 := Lib.hid (And.intro hEz (hor.next hbz).toV)
                clear hz hbz hEz hyz hhz hy hor
                obtain ⟨_, hc0, hc1, hc2⟩ := E14.out.facts
                obtain ⟨_, hd0, hd1, hd2⟩ := R14.out.1.facts
                go_wp2_with fail
                refine (rules_same (K : Int) (R : Int) pr p n cr c t z14 H.out.2.1 R14.out.2 (H.out.2.2.2.1.next J14.out)).mono ?_
                rintro e z15 ⟨rfl, hy⟩
                have J15 := Lib.hid (J14.out.trans (hy.mono J14.out.size))
                clear hy hc0 hc1 hc2 hd0 hd1 hd2
                go_wp2_with fail
                go_ret
                exact ⟨rfl, J15.out⟩
end Go.Proofs.YtienaogmljlmlaaDoor
