/- The document's own package of rows by its contracts: Image, and Step at a rule and a row that are good. -/
import Derived.Test.YtfgoflaeclfggaaDoorBRowU
namespace Go.Proofs.YtfgoflaeclfggaaDoor
open Go.RowKit Go.Extern.Stop Go.Stop Go.Extern WordM RuleM NatM
attribute [local go_sem ↓] Go.wp_at_zero Go.wp_at_succ

theorem four_boxes (w : World) (a b c a' b' c' d' : Value) (w0 : World) (hw0 : w0 = (((w.alloc (.cells #[a, b, c] 53)).alloc (.cells #[a', b', c', d'] 24)).alloc (.cells #[.int .i64 0, .slice none 0 0, .slice none 0 0, .slice none 0 0] 24)).alloc (.cells #[.int .i64 0, .slice none 0 0, .slice none 0 0] 33)) :
    Below w.heap.size w w0 ∧ Rul3 w0 w.heap.size a b c ∧ Row4 w0 (w.heap.size + 1) a' b' c' d' ∧ Row4 w0 (w.heap.size + 1 + 1) (.int .i64 0) (.slice none 0 0) (.slice none 0 0) (.slice none 0 0) ∧ Err3 w0 (w.heap.size + 1 + 1 + 1) (.int .i64 0) (.slice none 0 0) (.slice none 0 0) := by
  obtain ⟨h1, h2, h3, h4⟩ := three_boxes w a b c a' b' c' d' _ rfl
  obtain ⟨h5, h6⟩ := box_err (((w.alloc (.cells #[a, b, c] 53)).alloc (.cells #[a', b', c', d'] 24)).alloc (.cells #[.int .i64 0, .slice none 0 0, .slice none 0 0, .slice none 0 0] 24)) (.int .i64 0) (.slice none 0 0) (.slice none 0 0) w0 hw0
  have hs : (((w.alloc (.cells #[a, b, c] 53)).alloc (.cells #[a', b', c', d'] 24)).alloc (.cells #[.int .i64 0, .slice none 0 0, .slice none 0 0, .slice none 0 0] 24)).heap.size = w.heap.size + 1 + 1 + 1 := by simp
  rw [hs] at h6
  exact ⟨h1.trans (h5.mono h1.size), h2.next h5, h3.next h5, h4.next h5, h6⟩
/-- a new row -/
def ImgN (w : World) (b : Int) (n m u : Nat) (U V W : List Int) (e : Ending) (w' : World) : Prop :=
  ∃ p1 c1 p2 c2 p3 c3, e = .returned (.agg #[.int .i64 b, .slice p1 n c1, .slice p2 m c2, .slice p3 u c3]) ∧ IntO w.heap.size w' p1 c1 U ∧ IntO w.heap.size w' p2 c2 V ∧ IntO w.heap.size w' p3 c3 W ∧ Below w.heap.size w w'
/-- a new row, and no error of the document's -/
def StepN (w : World) (b : Int) (n m u : Nat) (U V W : List Int) (e : Ending) (w' : World) : Prop :=
  ∃ p1 c1 p2 c2 p3 c3, e = .returned (.tuple #[.agg #[.int .i64 b, .slice p1 n c1, .slice p2 m c2, .slice p3 u c3], .agg #[.int .i64 0, .slice none 0 0, .slice none 0 0]]) ∧ IntO w.heap.size w' p1 c1 U ∧ IntO w.heap.size w' p2 c2 V ∧ IntO w.heap.size w' p3 c3 W ∧ Below w.heap.size w w'
set_option maxRecDepth 100000 in
set_option maxHeartbeats 32000000 in
theorem image_ref07 (k r : Nat) (a fr tt lo : Int) (V : Nat) (X1 X2 X3 : List Int) (pt : Option Addr) (nt ct : Nat) (p q s : Option Addr) (n c m d u e : Nat) (w : World) (h3 : r ≤ 3) (hfr : a - (r : Int) = fr) (htt : fr + (V : Int) = tt) (hlo : fr - (n : Int) = lo) (hV : m + 2 * r = V)
    (a1 : -4096 ≤ a) (a2 : a ≤ 4096) (zn : n ≤ 8192) (zm : m ≤ 16384)
    (cA : ∀ W, Below w.heap.size w W → Calls Tryd.prog 68 #[.agg #[.int .i64 (k : Int), .int .i64 (r : Int), .slice pt nt ct], .agg #[.int .i64 a, .slice p n c, .slice q m d, .slice s u e], .int .i64 lo, .int .i64 (n : Int)] W fun e' w' => ∃ pa ca, e' = .returned (.slice pa n ca) ∧ IntO W.heap.size w' pa ca X1 ∧ Below W.heap.size W w')
    (cB : ∀ W, Below w.heap.size w W → Calls Tryd.prog 68 #[.agg #[.int .i64 (k : Int), .int .i64 (r : Int), .slice pt nt ct], .agg #[.int .i64 a, .slice p n c, .slice q m d, .slice s u e], .int .i64 fr, .int .i64 (V : Int)] W fun e' w' => ∃ pa ca, e' = .returned (.slice pa V ca) ∧ IntO W.heap.size w' pa ca X2 ∧ Below W.heap.size W w')
    (cC : ∀ W, Below w.heap.size w W → Calls Tryd.prog 68 #[.agg #[.int .i64 (k : Int), .int .i64 (r : Int), .slice pt nt ct], .agg #[.int .i64 a, .slice p n c, .slice q m d, .slice s u e], .int .i64 tt, .int .i64 (u : Int)] W fun e' w' => ∃ pa ca, e' = .returned (.slice pa u ca) ∧ IntO W.heap.size w' pa ca X3 ∧ Below W.heap.size W w') :
    Calls Tryd.prog 55 #[.agg #[.int .i64 (k : Int), .int .i64 (r : Int), .slice pt nt ct], .agg #[.int .i64 a, .slice p n c, .slice q m d, .slice s u e]] w (ImgN w fr n V u X1 X2 X3) := by
  have ST := Lib.hid (three_boxes w (.int .i64 (k : Int)) (.int .i64 (r : Int)) (.slice pt nt ct) (.int .i64 a) (.slice p n c) (.slice q m d) (.slice s u e))
  have waS : IntKind.i64.wrap (a - (r : Int)) = fr := by rw [IntWalk.i64_in _ (by omega)]; exact hfr
  have w2S : IntKind.i64.wrap (2 * (r : Int)) = 2 * (r : Int) := by rw [IntWalk.i64_in _ (by omega)]
  have wm2 : IntKind.i64.wrap ((m : Int) + 2 * (r : Int)) = (V : Int) := by rw [IntWalk.i64_in _ (by omega)]; omega
  have wlo : IntKind.i64.wrap (fr - (n : Int)) = lo := by rw [IntWalk.i64_in _ (by omega)]; exact hlo
  have wtt : IntKind.i64.wrap (fr + (V : Int)) = tt := by rw [IntWalk.i64_in _ (by omega)]; exact htt
  have HC := Lib.hid (And.intro cA (And.intro cB cC))
  clear cA cB cC h3 hfr htt hlo hV a1 a2 zn zm
  go_enter Tryd.func55, Tryd.ntmps55
  go_upto_region 1 with fail
  obtain ⟨wa, hw0⟩ : ∃ w0, w0 = ((w.alloc (.cells #[.int .i64 (k : Int), .int .i64 (r : Int), .slice pt nt ct] 53)).alloc (.cells #[.int .i64 a, .slice p n c, .slice q m d, .slice s u e] 24)).alloc (.cells #[.int .i64 0, .slice none 0 0, .slice none 0 0, .slice none 0 0] 24) := ⟨_, rfl⟩
  rw [← hw0]
  obtain ⟨hb0, hE0, hF0, hG0⟩ := ST.out wa hw0
  have H3 := Lib.hid (And.intro hE0 (And.intro hF0 (And.intro hG0 hb0)))
  obtain ⟨_, hc0, hc1, hc2⟩ := hE0.facts
  obtain ⟨hd0, hd1, hd2, hd3⟩ := hF0.facts
  clear hw0 hE0 hF0 hG0 hb0
  go_upto_region 3 with fail
  have hxA : ∀ wx : World, Below wa.heap.size wa wx → (wx.cell? ⟨w.heap.size, 0, none⟩ = some (.int .i64 (k : Int)) ∧ wx.cell? ⟨w.heap.size, 1, none⟩ = some (.int .i64 (r : Int)) ∧ wx.cell? ⟨w.heap.size, 2, none⟩ = some (.slice pt nt ct)) ∧ (wx.cell? ⟨w.heap.size + 1, 0, none⟩ = some (.int .i64 a) ∧ wx.cell? ⟨w.heap.size + 1, 1, none⟩ = some (.slice p n c) ∧ wx.cell? ⟨w.heap.size + 1, 2, none⟩ = some (.slice q m d) ∧ wx.cell? ⟨w.heap.size + 1, 3, none⟩ = some (.slice s u e)) := fun wx hb => ⟨(H3.out.1.next hb).facts.2, (H3.out.2.1.next hb).facts⟩
  have hxP : ∀ wx : World, Below wa.heap.size wa wx → ∀ x y z v, (fun wx => (wx.cell? ⟨w.heap.size, 0, none⟩ = some (.int .i64 (k : Int)) ∧ wx.cell? ⟨w.heap.size, 1, none⟩ = some (.int .i64 (r : Int)) ∧ wx.cell? ⟨w.heap.size, 2, none⟩ = some (.slice pt nt ct)) ∧ (wx.cell? ⟨w.heap.size + 1, 0, none⟩ = some (.int .i64 a) ∧ wx.cell? ⟨w.heap.size + 1, 1, none⟩ = some (.slice p n c) ∧ wx.cell? ⟨w.heap.size + 1, 2, none⟩ = some (.slice q m d) ∧ wx.cell? ⟨w.heap.size + 1, 3, none⟩ = some (.slice s u e))) (put4 wx (w.heap.size + 1 + 1) x y z v) := fun wx hb x y z v => ⟨(((((H3.out.1.next hb).setOther _ 0 (by omega) x).setOther _ 1 (by omega) y).setOther _ 2 (by omega) z).setOther _ 3 (by omega) v).facts.2, (((((H3.out.2.1.next hb).setOther _ 0 (by omega) x).setOther _ 1 (by omega) y).setOther _ 2 (by omega) z).setOther _ 3 (by omega) v).facts⟩
  unfold put4 at hxP
  have hxF : ∀ wx : World, Below wa.heap.size wa wx → (wx.cell? ⟨w.heap.size + 1 + 1, 0, none⟩ = some (.int .i64 0) ∧ wx.cell? ⟨w.heap.size + 1 + 1, 1, none⟩ = some (.slice none 0 0) ∧ wx.cell? ⟨w.heap.size + 1 + 1, 2, none⟩ = some (.slice none 0 0) ∧ wx.cell? ⟨w.heap.size + 1 + 1, 3, none⟩ = some (.slice none 0 0)) ∧ (wx.frozen? ⟨w.heap.size + 1 + 1, 0, none⟩ = false ∧ wx.frozen? ⟨w.heap.size + 1 + 1, 1, none⟩ = false ∧ wx.frozen? ⟨w.heap.size + 1 + 1, 2, none⟩ = false ∧ wx.frozen? ⟨w.heap.size + 1 + 1, 3, none⟩ = false) := fun wx hb => ⟨(H3.out.2.2.1.next hb).facts, (H3.out.2.2.1.next hb).frozen 0, (H3.out.2.2.1.next hb).frozen 1, (H3.out.2.2.1.next hb).frozen 2, (H3.out.2.2.1.next hb).frozen 3⟩
  have hdr : Below wa.heap.size wa wa.drew := (Below.refl _ _).drew
  have hlt2 : w.heap.size + 1 + 1 < wa.heap.size := H3.out.2.2.1.lt
  go_region_held3 (fun wx => (wx.cell? ⟨w.heap.size, 0, none⟩ = some (.int .i64 (k : Int)) ∧ wx.cell? ⟨w.heap.size, 1, none⟩ = some (.int .i64 (r : Int)) ∧ wx.cell? ⟨w.heap.size, 2, none⟩ = some (.slice pt nt ct)) ∧ (wx.cell? ⟨w.heap.size + 1, 0, none⟩ = some (.int .i64 a) ∧ wx.cell? ⟨w.heap.size + 1, 1, none⟩ = some (.slice p n c) ∧ wx.cell? ⟨w.heap.size + 1, 2, none⟩ = some (.slice q m d) ∧ wx.cell? ⟨w.heap.size + 1, 3, none⟩ = some (.slice s u e))) (first | exact hxA _ (by assumption) | exact hxA _ (Below.refl _ _) | exact hxA _ hdr | exact hxP _ (by assumption) _ _ _ _ | go_keep) (first
    | (go_at_call 68; refine (HC.out.2.2 _ (H3.out.2.2.2.trans (hB2.mono H3.out.2.2.2.size))).mono ?_; rintro e' wz ⟨p3, c3, rfl, ho3, hb3⟩; have hB3 : Below wa.heap.size wa wz := hB2.trans (hb3.mono hB2.size); obtain ⟨⟨hg0, hg1, hg2, hg3⟩, hf0, hf1, hf2, hf3⟩ := hxF _ hB3)
    | (go_at_call 68; refine (HC.out.2.1 _ (H3.out.2.2.2.trans (hB1.mono H3.out.2.2.2.size))).mono ?_; rintro e' wy ⟨p2, c2, rfl, ho2, hb2⟩; have hB2 : Below wa.heap.size wa wy := hB1.trans (hb2.mono hB1.size))
    | (go_at_call 68; refine (HC.out.1 _ (H3.out.2.2.2.trans (hdr.mono H3.out.2.2.2.size))).mono ?_; rintro e' wx ⟨p1, c1, rfl, ho1, hb1⟩; have hB1 : Below wa.heap.size wa wx := hdr.trans (hb1.mono hdr.size)))
  all_goals
    have q1 : IntO wa.heap.size wz p1 c1 X1 := (ho1.next hb2).next hb3
    have q2 : IntO wa.heap.size wz p2 c2 X2 := (ho2.next hb3).base hB1.size
    have q3 : IntO wa.heap.size wz p3 c3 X3 := ho3.base hB2.size
    have HF := Lib.hid (And.intro q1 (And.intro q2 (And.intro q3 (And.intro hlt2 (H3.out.2.2.2.trans (hB3.mono H3.out.2.2.2.size))))))
    clear hxA hxP hxF hdr ho1 ho2 ho3 hb1 hb2 hb3 hB1 hB2 hB3 q1 q2 q3 hlt2 hc0 hc1 hc2 hd0 hd1 hd2 hd3
    go_wp2_with fail
    refine bodyPost_ret (v := .agg #[.int .i64 fr, .slice p1 n c1, .slice p2 V c2, .slice p3 u c3]) (by simp [results, Tryd.results55, go_sem, hg0, hg1, hg2, hg3]) rfl ⟨p1, c1, p2, c2, p3, c3, rfl, ?_, ?_, ?_, ?_⟩
    · first
        | exact (HF.out.1.put4 HF.out.2.2.2.1 _ _ _ _).base H3.out.2.2.2.size
        | exact ((HF.out.1.put4 HF.out.2.2.2.1 _ _ _ _).base H3.out.2.2.2.size).next (Below.refl _ _).drew
    · first
        | exact (HF.out.2.1.put4 HF.out.2.2.2.1 _ _ _ _).base H3.out.2.2.2.size
        | exact ((HF.out.2.1.put4 HF.out.2.2.2.1 _ _ _ _).base H3.out.2.2.2.size).next (Below.refl _ _).drew
    · first
        | exact (HF.out.2.2.1.put4 HF.out.2.2.2.1 _ _ _ _).base H3.out.2.2.2.size
        | exact ((HF.out.2.2.1.put4 HF.out.2.2.2.1 _ _ _ _).base H3.out.2.2.2.size).next (Below.refl _ _).drew
    · first
        | exact put4_below HF.out.2.2.2.2 (Nat.le_trans (Nat.le_succ _) (Nat.le_succ _)) _ _ _ _
        | exact (put4_below HF.out.2.2.2.2 (Nat.le_trans (Nat.le_succ _) (Nat.le_succ _)) _ _ _ _).drew
set_option maxRecDepth 100000 in
set_option maxHeartbeats 32000000 in
theorem step_ref07_ok (k r : Nat) (a : Int) (pt : Option Addr) (nt ct : Nat) (t : List Int) (p q s : Option Addr) (n c m d u e : Nat) (L C R : List Int) (w : World) (hnt : nt = t.length) (ht : IntV w.heap.size w pt ct t) (h : RowV w p q s n c m d u e L C R) (ho : OkR k r t) (hw : OkRw k a L C R) (ha : -4096 ≤ a - (r : Int)) (hc : C.length + 2 * r ≤ 16384) :
    Calls Tryd.prog 25 #[.agg #[.int .i64 (k : Int), .int .i64 (r : Int), .slice pt nt ct], .agg #[.int .i64 a, .slice p n c, .slice q m d, .slice s u e]] w (StepN w (a - (r : Int)) n (m + 2 * r) u (imgL k r t a L C R) (imgC k r t a L C R) (imgT k r t a L C R)) := by
  have ST := Lib.hid (four_boxes w (.int .i64 (k : Int)) (.int .i64 (r : Int)) (.slice pt nt ct) (.int .i64 a) (.slice p n c) (.slice q m d) (.slice s u e))
  have h3 := ho.r3
  have a1 := hw.a1
  have a2 := hw.a2
  have hnl := h.hn
  have hml := h.hm
  have hul := h.hu
  have zn : n ≤ 8192 := by have := hw.l1; omega
  have zm : m ≤ 16384 := by have := hw.c1; omega
  have zu : u ≤ 8192 := by have := hw.r1; omega
  obtain ⟨V, hV⟩ : ∃ V, m + 2 * r = V := ⟨_, rfl⟩
  obtain ⟨fr, hfr⟩ : ∃ x, a - (r : Int) = x := ⟨_, rfl⟩
  obtain ⟨tt, htt⟩ : ∃ x, fr + (V : Int) = x := ⟨_, rfl⟩
  obtain ⟨lo, hlo⟩ : ∃ x, fr - (n : Int) = x := ⟨_, rfl⟩
  have waS : IntKind.i64.wrap (a - (r : Int)) = fr := by rw [IntWalk.i64_in _ (by omega)]; exact hfr
  have w2S : IntKind.i64.wrap (2 * (r : Int)) = 2 * (r : Int) := by rw [IntWalk.i64_in _ (by omega)]
  have wm2 : IntKind.i64.wrap ((m : Int) + 2 * (r : Int)) = (V : Int) := by rw [IntWalk.i64_in _ (by omega)]; omega
  have hm2 : ¬ (16384 : Int) < (V : Int) := by omega
  have ha2 : ¬ fr < -4096 := by omega
  have e1 : imgL k r t a L C R = imgR k r t a L C R lo n := by unfold imgL; rw [← hnl, hfr, hlo]
  have e2 : imgC k r t a L C R = imgR k r t a L C R fr V := by unfold imgC; rw [← hml, hfr, hV]
  have e3 : imgT k r t a L C R = imgR k r t a L C R tt u := by unfold imgT; rw [← hml, ← hul, show a + (m : Int) + (r : Int) = tt by omega]
  rw [e1, e2, e3, hfr, hV]
  have cA : ∀ W, Below w.heap.size w W → ∀ (x : Int) (N : Nat), -1048576 ≤ x → x ≤ 1048576 → N ≤ 100000 → Calls Tryd.prog 68 #[.agg #[.int .i64 (k : Int), .int .i64 (r : Int), .slice pt nt ct], .agg #[.int .i64 a, .slice p n c, .slice q m d, .slice s u e], .int .i64 x, .int .i64 (N : Int)] W fun e' w' => ∃ pa ca, e' = .returned (.slice pa N ca) ∧ IntO W.heap.size w' pa ca (imgR k r t a L C R x N) ∧ Below W.heap.size W w' := fun W hW x N h1 h2 h3 =>
    (after_ref k r a x N pt nt ct t p q s n c m d u e L C R W hnt (ht.next hW) ho (h.next hW) hw h1 h2 h3).mono fun e' w' ⟨pa, ca, he, ho', hb⟩ => ⟨pa, ca, by rw [he, imgR_length], ho', hb⟩
  obtain ⟨X1, hX1⟩ : ∃ X, imgR k r t a L C R lo n = X := ⟨_, rfl⟩
  obtain ⟨X2, hX2⟩ : ∃ X, imgR k r t a L C R fr V = X := ⟨_, rfl⟩
  obtain ⟨X3, hX3⟩ : ∃ X, imgR k r t a L C R tt u = X := ⟨_, rfl⟩
  have cI : ∀ W, Below w.heap.size w W → Calls Tryd.prog 55 #[.agg #[.int .i64 (k : Int), .int .i64 (r : Int), .slice pt nt ct], .agg #[.int .i64 a, .slice p n c, .slice q m d, .slice s u e]] W (ImgN W fr n V u X1 X2 X3) := fun W hW =>
    image_ref07 k r a fr tt lo V X1 X2 X3 pt nt ct p q s n c m d u e W h3 hfr htt hlo hV a1 a2 zn zm (fun W' hW' => hX1 ▸ cA W' (hW.trans (hW'.mono hW.size)) lo n (by omega) (by omega) (by omega)) (fun W' hW' => hX2 ▸ cA W' (hW.trans (hW'.mono hW.size)) fr V (by omega) (by omega) (by omega)) (fun W' hW' => hX3 ▸ cA W' (hW.trans (hW'.mono hW.size)) tt u (by omega) (by omega) (by omega))
  rw [hX1, hX2, hX3]
  have cK : ∀ W, IntV W.heap.size W pt ct t → Calls Tryd.prog 54 #[.agg #[.int .i64 (k : Int), .int .i64 (r : Int), .slice pt nt ct]] W (Tells (.agg #[.int .i64 0, .slice none 0 0, .slice none 0 0]) W) := fun W hW => rcheck_ref_ok k r pt nt ct t W hnt hW ho
  have HC := Lib.hid (And.intro cK (And.intro (fun W h => rchk_ref_ok k a p q s n c m d u e L C R W h hw) cI))
  have H := Lib.hid (And.intro ht h)
  clear h ht hnt ho hw cA cI cK e1 e2 e3 hX1 hX2 hX3 hlo htt hfr hV hnl hml hul zn zm zu a1 a2 h3 ha hc
  go_enter Tryd.func25, Tryd.ntmps25
  go_upto_region 1 with fail
  obtain ⟨w0, hw0⟩ : ∃ w0, w0 = (((w.alloc (.cells #[.int .i64 (k : Int), .int .i64 (r : Int), .slice pt nt ct] 53)).alloc (.cells #[.int .i64 a, .slice p n c, .slice q m d, .slice s u e] 24)).alloc (.cells #[.int .i64 0, .slice none 0 0, .slice none 0 0, .slice none 0 0] 24)).alloc (.cells #[.int .i64 0, .slice none 0 0, .slice none 0 0] 33) := ⟨_, rfl⟩
  rw [← hw0]
  obtain ⟨hb0, hE0, hF0, hG0, hH0⟩ := ST.out w0 hw0
  have HE := Lib.hid (And.intro hE0 (And.intro hF0 (And.intro hG0 (And.intro hH0 hb0))))
  obtain ⟨_, hr0, hr1, hr2⟩ := hE0.facts
  clear hw0 hE0 hF0 hG0 hH0 hb0
  go_wp2_with fail
  refine (HC.out.1 w0 (H.out.1.next HE.out.2.2.2.2)).mono ?_
  rintro e1 w1 ⟨rfl, hb1⟩
  clear hr0 hr1 hr2
  go_wp2_with fail
  refine (under_ref_none _ _ w1).mono ?_
  rintro e1 w2 ⟨rfl, hb2⟩
  go_upto_region 2 with fail
  obtain ⟨wB, hwB⟩ : ∃ x, x = w2.alloc (.cells #[.int .i64 0, .slice none 0 0, .slice none 0 0] 33) := ⟨_, rfl⟩
  rw [← hwB]
  obtain ⟨hbB, hEB⟩ := box_err w2 _ _ _ wB hwB
  obtain ⟨g8, hg8⟩ : ∃ x, w2.heap.size = x := ⟨_, rfl⟩
  rw [hg8] at hEB ⊢
  have h0B := (hb1.trans (hb2.mono hb1.size)).trans (hbB.mono (Nat.le_trans hb1.size hb2.size))
  have hlt0 := HE.out.2.2.2.1.lt
  have hs1 := hb1.size
  have hs2 := hb2.size
  have H1 := Lib.hid (And.intro (HE.out.1.next h0B) (And.intro (HE.out.2.1.next h0B) (And.intro (HE.out.2.2.1.next h0B) (And.intro (HE.out.2.2.2.1.next h0B) (And.intro hEB (And.intro (HE.out.2.2.2.2.trans (h0B.mono HE.out.2.2.2.2.size)) (show g8 ≠ w.heap.size + 1 + 1 + 1 ∧ g8 ≠ w.heap.size + 1 + 1 ∧ w.heap.size ≤ g8 from ⟨by omega, by omega, by omega⟩)))))))
  obtain ⟨_, hk0, hk1, hk2⟩ := hEB.facts
  clear hwB hbB hEB hg8 h0B hlt0 hs1 hs2 hb1 hb2
  go_wp2_with fail
  refine (badG_no _ _ wB).mono ?_
  rintro e1 wC ⟨rfl, hbC⟩
  have H2 := Lib.hid (And.intro (H1.out.1.next hbC) (And.intro (H1.out.2.1.next hbC) (And.intro (H1.out.2.2.1.next hbC) (And.intro (H1.out.2.2.2.1.next hbC) (And.intro (H1.out.2.2.2.2.1.next hbC) (And.intro (H1.out.2.2.2.2.2.1.trans (hbC.mono H1.out.2.2.2.2.2.1.size)) H1.out.2.2.2.2.2.2))))))
  clear hbC hk0 hk1 hk2
  obtain ⟨_, hr0, hr1, hr2⟩ := H2.out.1.facts
  obtain ⟨hd0, hd1, hd2, hd3⟩ := H2.out.2.1.facts
  go_wp2_with fail
  refine (HC.out.2.1 wC (H.out.2.next H2.out.2.2.2.2.2.1)).mono ?_
  rintro e1 w2 ⟨rfl, hb2⟩
  obtain ⟨⟨hf0, hf1, hf2⟩, hk0, hk1, hk2⟩ := (H2.out.2.2.2.2.1.next hb2).facts
  have hps := put3_sameE (H2.out.2.2.2.2.1.next hb2)
  unfold put3 at hps
  have H3 := Lib.hid (And.intro (H2.out.1.next hb2) (And.intro (H2.out.2.1.next hb2) (And.intro (H2.out.2.2.1.next hb2) (And.intro (H2.out.2.2.2.1.next hb2) (And.intro (H2.out.2.2.2.2.2.1.trans (hb2.mono H2.out.2.2.2.2.2.1.size)) H2.out.2.2.2.2.2.2)))))
  clear hb2 hr0 hr1 hr2 hd0 hd1 hd2 hd3
  go_upto_region 4 with fail
  (try rw [hps])
  clear hps hf0 hf1 hf2
  go_wp2_with fail
  refine (badG_no _ _ w2).mono ?_
  rintro e1 w4 ⟨rfl, hb4⟩
  have H4 := Lib.hid (And.intro (H3.out.1.next hb4) (And.intro (H3.out.2.1.next hb4) (And.intro (H3.out.2.2.1.next hb4) (And.intro (H3.out.2.2.2.1.next hb4) (And.intro (H3.out.2.2.2.2.1.trans (hb4.mono H3.out.2.2.2.2.1.size)) H3.out.2.2.2.2.2)))))
  clear hb4 hk0 hk1 hk2
  obtain ⟨_, hr0, hr1, hr2⟩ := H4.out.1.facts
  obtain ⟨hd0, hd1, hd2, hd3⟩ := H4.out.2.1.facts
  go_wp2_with fail
  refine (HC.out.2.2 w4 H4.out.2.2.2.2.1).mono ?_
  rintro e1 w5 ⟨p1, c1, p2, c2, p3, c3, rfl, o1, o2, o3, hb5⟩
  have hY := H4.out.2.2.1.next hb5
  have hy0 := hY.frozen 0; have hy1 := hY.frozen 1; have hy2 := hY.frozen 2; have hy3 := hY.frozen 3; obtain ⟨hx0, hx1, hx2, hx3⟩ := hY.facts
  obtain ⟨⟨hf0, hf1, hf2⟩, hk0, hk1, hk2⟩ := (H4.out.2.2.2.1.next hb5).facts
  have HF := Lib.hid (And.intro o1 (And.intro o2 (And.intro o3 (And.intro H4.out.2.2.1.lt (And.intro H4.out.2.2.2.1.lt (And.intro H4.out.2.2.2.2.1.size (H4.out.2.2.2.2.1.trans (hb5.mono H4.out.2.2.2.2.1.size))))))))
  clear hb5 o1 o2 o3 hY hr0 hr1 hr2 hd0 hd1 hd2 hd3
  go_wp2_with fail
  refine bodyPost_ret (v := .tuple #[.agg #[.int .i64 fr, .slice p1 n c1, .slice p2 V c2, .slice p3 u c3], .agg #[.int .i64 0, .slice none 0 0, .slice none 0 0]]) (by simp [results, Tryd.results25, go_sem, hx0, hx1, hx2, hx3, hk0, hk1, hk2]) rfl ⟨p1, c1, p2, c2, p3, c3, rfl, ?_, ?_, ?_, ?_⟩
  · exact ((HF.out.1.put4 HF.out.2.2.2.1 _ _ _ _).put3 HF.out.2.2.2.2.1 _ _ _).base HF.out.2.2.2.2.2.1
  · exact ((HF.out.2.1.put4 HF.out.2.2.2.1 _ _ _ _).put3 HF.out.2.2.2.2.1 _ _ _).base HF.out.2.2.2.2.2.1
  · exact ((HF.out.2.2.1.put4 HF.out.2.2.2.1 _ _ _ _).put3 HF.out.2.2.2.2.1 _ _ _).base HF.out.2.2.2.2.2.1
  · exact put3_below (put4_below HF.out.2.2.2.2.2.2 (by omega) _ _ _ _) (by omega) _ _ _
end Go.Proofs.YtfgoflaeclfggaaDoor
