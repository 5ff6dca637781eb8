/- RuleSteps: its walk. -/
import Derived.Test.YthafjbegkifekaaDoorBPairS
import Derived.Test.YthafjbegkifekaaDoorB5
namespace Go.Proofs.YthafjbegkifekaaDoor
open Go.RowKit Go.Extern.Stop Go.Stop Go.Extern WordM RuleM NatM

set_option maxRecDepth 100000 in
set_option maxHeartbeats 16000000 in
theorem steps_any (k r : Int) (p q q' : Option Addr) (n c m d m' d' : Nat) (t l x : List Int) (w : World) (A : Nat → Addr) (hr : Roots w A) (hT : TypeVar w) (hn : n = t.length) (hm : m = l.length) (hm' : m' = x.length)
    (h : IntV w.heap.size w p c t) (hl : IntV w.heap.size w q d l) (hx : IntV w.heap.size w q' d' x) (ht4 : t.length ≤ 17592186043904) (hl4 : l.length ≤ 17592186043904) (hx4 : x.length ≤ 17592186043904) :
    Calls Tryd.prog 4 #[.agg #[.int .i64 k, .int .i64 r, .slice p n c], .slice q m d, .slice q' m' d'] w (Tells (.bool true) w) := by
  have hlent := fun W hW => lentR_any k r p n c t W hn hW ht4
  unfold LentR at hlent
  simp only [← hn] at hlent
  have hl1 := fun W hW => lentI_any q d l W hW hl4
  unfold LentPostI at hl1
  simp only [← hm] at hl1
  have hl2 := fun W hW => lentI_any q' d' x W hW hx4
  unfold LentPostI at hl2
  simp only [← hm'] at hl2
  have H := Lib.hid (And.intro hr (And.intro hT (And.intro h (And.intro hl (And.intro hx (And.intro hlent (And.intro hl1 hl2)))))))
  have HN := Lib.hid (And.intro hn (And.intro hm (And.intro hm' (And.intro ht4 (And.intro hl4 hx4)))))
  clear hr hT hn h hl hlent hm hm' hx hl1 hl2 ht4 hl4 hx4
  go_enter Tryd.func4, Tryd.ntmps4
  go_upto_region 1 with fail
  obtain ⟨w0, hw0⟩ : ∃ w0, w0 = w.alloc (.cells #[.int .i64 k, .int .i64 r, .slice p n c] 24) := ⟨_, rfl⟩
  have hb0 : Below w.heap.size w w0 := by rw [hw0]; exact (Below.refl _ _).alloc (Nat.le_refl _) _
  have hE0 : Rul3 w0 w.heap.size (.int .i64 k) (.int .i64 r) (.slice p n c) := by rw [hw0]; exact Rul3.new w _ _ _
  rw [← hw0]
  have HE := Lib.hid (And.intro hE0 hb0)
  clear hw0 hE0 hb0
  go_wp2_with fail
  refine (awakeR w0 A (H.out.1.below HE.out.2)).mono ?_
  rintro e w1 ⟨rfl, hb1⟩
  have H1 := Lib.hid (And.intro (HE.out.1.next hb1) (HE.out.2.trans (hb1.mono HE.out.2.size)))
  clear hb1
  obtain ⟨_, hc0, hc1, hc2⟩ := H1.out.1.facts
  go_wp2_with fail
  refine (H.out.2.2.2.2.2.1 w1 (H.out.2.2.1.next H1.out.2)).mono ?_
  rintro e w2 ⟨g, rfl, _, hLg, hb2⟩
  go_upto_region 4 with fail
  obtain ⟨wA, hwA⟩ : ∃ x, x = w2.alloc (.cells #[.int .i64 k, .int .i64 r, .slice (some ⟨g, 0, none⟩) n (n + 2)] 24) := ⟨_, rfl⟩
  have hbA : Below w2.heap.size w2 wA := by rw [hwA]; exact (Below.refl _ _).alloc (Nat.le_refl _) _
  have hEA : Rul3 wA w2.heap.size (.int .i64 k) (.int .i64 r) (.slice (some ⟨g, 0, none⟩) n (n + 2)) := by rw [hwA]; exact Rul3.new w2 _ _ _
  rw [← hwA]
  have hbwA : Below w.heap.size w wA := (H1.out.2.trans (hb2.mono H1.out.2.size)).trans (hbA.mono (Nat.le_trans H1.out.2.size hb2.size))
  have HA := Lib.hid (And.intro hEA (And.intro ((H1.out.1.next hb2).next hbA) (And.intro hbwA (hLg.below hbA))))
  clear hwA hbA hEA hbwA hLg hb2 hc0 hc1 hc2
  go_wp2_with fail
  refine (H.out.2.2.2.2.2.2.1 wA (H.out.2.2.2.1.next HA.out.2.2.1)).mono ?_
  rintro e w3 ⟨rfl, hLl, hb3⟩
  have HL := Lib.hid (And.intro hLl hb3)
  clear hLl hb3
  go_wp2_with fail
  refine (H.out.2.2.2.2.2.2.2 w3 ((H.out.2.2.2.2.1.next HA.out.2.2.1).next HL.out.2)).mono ?_
  rintro e wC ⟨rfl, hLx, hb4⟩
  have hAC : Below wA.heap.size wA wC := HL.out.2.trans (hb4.mono HL.out.2.size)
  obtain ⟨gl, hgl⟩ : ∃ g, wA.heap.size = g := ⟨_, rfl⟩
  obtain ⟨gx, hgx⟩ : ∃ g, w3.heap.size = g := ⟨_, rfl⟩
  have hLlC : LentI wC gl l := by rw [← hgl]; exact HL.out.1.below hb4
  rw [hgx] at hLx
  rw [hgl, hgx]
  have HC := Lib.hid (And.intro (HA.out.1.next hAC) (And.intro (HA.out.2.1.next hAC) (And.intro (HA.out.2.2.1.trans (hAC.mono HA.out.2.2.1.size)) (And.intro (HA.out.2.2.2.below hAC) (And.intro hLlC hLx)))))
  clear hAC hLlC hLx hb4 hgl hgx
  have hgt : ∀ wx : World, Below wC.heap.size wC wx → IntV wx.heap.size wx (some ⟨g, 0, none⟩) (n + 2) t := fun wx hb => (HC.out.2.2.2.1.below hb).vn (by rw [HN.out.1]) HN.out.2.2.2.1
  have hgl : ∀ wx : World, Below wC.heap.size wC wx → IntV wx.heap.size wx (some ⟨gl, 0, none⟩) (m + 2) l := fun wx hb => (HC.out.2.2.2.2.1.below hb).vn (by rw [HN.out.2.1]) HN.out.2.2.2.2.1
  have hgx : ∀ wx : World, Below wC.heap.size wC wx → IntV wx.heap.size wx (some ⟨gx, 0, none⟩) (m' + 2) x := fun wx hb => (HC.out.2.2.2.2.2.below hb).vn (by rw [HN.out.2.2.1]) HN.out.2.2.2.2.2
  have HG := Lib.hid (And.intro hgt (And.intro hgl hgx))
  clear hgt hgl hgx
  obtain ⟨_, hc0, hc1, hc2⟩ := HC.out.1.facts
  obtain ⟨L, hL⟩ : ∃ L, stepL k r t l = L := ⟨_, rfl⟩
  obtain ⟨V, hV⟩ : ∃ V, localV k r t x = V := ⟨_, rfl⟩
  go_wp2_with fail
  have hsa := step_a k r _ _ n _ m _ t l wC A (H.out.1.below HC.out.2.2.1) HN.out.1 HN.out.2.1 (HG.out.1 wC (Below.refl _ _)) (HG.out.2.1 wC (Below.refl _ _))
  rw [hL] at hsa
  refine hsa.mono ?_
  clear hsa
  rintro e w5 ⟨p5, c5, v5, rfl, ho5, he5, hb5⟩
  obtain ⟨u, hu⟩ : ∃ u, L.length = u := ⟨_, rfl⟩
  rw [hu]
  clear hc0 hc1 hc2
  obtain ⟨_, hr0, hr1, hr2⟩ := (HC.out.2.1.next hb5).facts
  have H5 := Lib.hid (And.intro ho5 (And.intro he5 hb5))
  clear ho5 he5 hb5
  go_wp2_with fail
  have hsb := step_b k r p q n c m d t l w5 HN.out.1 HN.out.2.1 ((H.out.2.2.1.next HC.out.2.2.1).next H5.out.2.2) ((H.out.2.2.2.1.next HC.out.2.2.1).next H5.out.2.2)
  rw [hL] at hsb
  refine hsb.mono ?_
  clear hsb
  rintro e w6 ⟨p6, c6, a6, po6, pa6, z6, rfl, ho6, he6, hb6⟩
  rw [hu]
  go_upto_region 8 with fail
  obtain ⟨wD, hwD⟩ : ∃ x, x = w6.alloc (.cells #[.int .i64 a6, .slice po6 z6 z6, .slice pa6 z6 z6] 33) := ⟨_, rfl⟩
  have hbD : Below w6.heap.size w6 wD := by rw [hwD]; exact (Below.refl _ _).alloc (Nat.le_refl _) _
  have hED : Err3 wD w6.heap.size (.int .i64 a6) (.slice po6 z6 z6) (.slice pa6 z6 z6) := by rw [hwD]; exact ⟨heap_newN w6 _⟩
  rw [← hwD]
  have hCD : Below wC.heap.size wC wD := (H5.out.2.2.trans (hb6.mono H5.out.2.2.size)).trans (hbD.mono (Nat.le_trans H5.out.2.2.size hb6.size))
  have h5D : Below w5.heap.size w5 wD := hb6.trans (hbD.mono hb6.size)
  have HD := Lib.hid (And.intro (H5.out.1.next h5D) (And.intro (H5.out.2.1.next h5D) (And.intro (ho6.next hbD) (And.intro (he6.next hbD) (And.intro hED hCD)))))
  clear hwD hbD hED hCD h5D ho6 he6 hb6 hr0 hr1 hr2
  obtain ⟨_, hc0, hc1, hc2⟩ := (HC.out.1.next HD.out.2.2.2.2.2).facts
  go_wp2_with fail
  have hla := local_a k r _ _ n _ m' _ t x wD A ((H.out.1.below HC.out.2.2.1).below HD.out.2.2.2.2.2) HN.out.1 HN.out.2.2.1 (HG.out.1 wD HD.out.2.2.2.2.2) (HG.out.2.2 wD HD.out.2.2.2.2.2)
  rw [hV] at hla
  refine hla.mono ?_
  clear hla
  rintro e w7 ⟨v7, rfl, he7, hb7⟩
  clear hc0 hc1 hc2
  have hC7 := HD.out.2.2.2.2.2.trans (hb7.mono HD.out.2.2.2.2.2.size)
  obtain ⟨_, hr0, hr1, hr2⟩ := (HC.out.2.1.next hC7).facts
  have H7 := Lib.hid (And.intro he7 (And.intro hb7 hC7))
  clear he7 hb7 hC7
  go_wp2_with fail
  have hlb := local_b k r p q' n c m' d' t x w7 HN.out.1 HN.out.2.2.1 ((H.out.2.2.1.next HC.out.2.2.1).next H7.out.2.2) ((H.out.2.2.2.2.1.next HC.out.2.2.1).next H7.out.2.2)
  rw [hV] at hlb
  refine hlb.mono ?_
  clear hlb
  rintro e w8 ⟨a8, po8, pa8, z8, rfl, he8, hb8⟩
  go_upto_region 10 with fail
  obtain ⟨wF, hwF⟩ : ∃ x, x = w8.alloc (.cells #[.int .i64 a8, .slice po8 z8 z8, .slice pa8 z8 z8] 33) := ⟨_, rfl⟩
  have hbF : Below w8.heap.size w8 wF := by rw [hwF]; exact (Below.refl _ _).alloc (Nat.le_refl _) _
  have hEF : Err3 wF w8.heap.size (.int .i64 a8) (.slice po8 z8 z8) (.slice pa8 z8 z8) := by rw [hwF]; exact ⟨heap_newN w8 _⟩
  rw [← hwF]
  have h7F : Below w7.heap.size w7 wF := hb8.trans (hbF.mono hb8.size)
  have hDF : Below wD.heap.size wD wF := H7.out.2.1.trans (h7F.mono H7.out.2.1.size)
  have hCF : Below wC.heap.size wC wF := HD.out.2.2.2.2.2.trans (hDF.mono HD.out.2.2.2.2.2.size)
  have hwF' : Below w.heap.size w wF := HC.out.2.2.1.trans (hCF.mono HC.out.2.2.1.size)
  have hS : ∀ wx : World, Below wF.heap.size wF wx → (wx.cell? ⟨w.heap.size, 0, none⟩ = some (.int .i64 k) ∧ wx.cell? ⟨w.heap.size, 1, none⟩ = some (.int .i64 r) ∧ wx.cell? ⟨w.heap.size, 2, none⟩ = some (.slice p n c)) ∧ (wx.cell? ⟨w2.heap.size, 0, none⟩ = some (.int .i64 k) ∧ wx.cell? ⟨w2.heap.size, 1, none⟩ = some (.int .i64 r) ∧ wx.cell? ⟨w2.heap.size, 2, none⟩ = some (.slice (some ⟨g, 0, none⟩) n (n + 2))) ∧ (wx.cell? ⟨w6.heap.size, 0, none⟩ = some (.int .i64 a6) ∧ wx.cell? ⟨w6.heap.size, 1, none⟩ = some (.slice po6 z6 z6) ∧ wx.cell? ⟨w6.heap.size, 2, none⟩ = some (.slice pa6 z6 z6)) ∧ (wx.cell? ⟨w8.heap.size, 0, none⟩ = some (.int .i64 a8) ∧ wx.cell? ⟨w8.heap.size, 1, none⟩ = some (.slice po8 z8 z8) ∧ wx.cell? ⟨w8.heap.size, 2, none⟩ = some (.slice pa8 z8 z8)) :=
    fun wx hbx => ⟨((HC.out.2.1.next hCF).next hbx).facts.2, ((HC.out.1.next hCF).next hbx).facts.2, ((HD.out.2.2.2.2.1.next hDF).next hbx).facts.2, (hEF.next hbx).facts.2⟩
  have HF := Lib.hid (And.intro hS (And.intro hwF' (And.intro ((HD.out.1.next hDF).toV) (And.intro ((HD.out.2.2.1.next hDF).toV) (And.intro (HD.out.2.1.next hDF) (And.intro (HD.out.2.2.2.1.next hDF) (And.intro (H7.out.1.next h7F) (And.intro (he8.next hbF) hCF))))))))
  clear hwF hbF hEF h7F hDF hCF hwF' hS he8 hb8 hr0 hr1 hr2
  go_wp2_with fail
  refine (ints_any _ _ _ _ _ _ L L _ hu.symm hu.symm HF.out.2.2.1 HF.out.2.2.2.1).mono ?_
  rintro e y1 ⟨rfl, hy1⟩
  rw [sameI_self]
  have G1 := Lib.hid hy1
  clear hy1
  obtain ⟨_, _, ⟨hc0, hc1, hc2⟩, _⟩ := HF.out.1 y1 G1.out
  go_wp2_with fail
  have hR1 := (H.out.1.below HF.out.2.1).below G1.out
  have hT1 := (H.out.2.1.below HF.out.2.1).below G1.out
  refine (is_pair hR1 hT1 (numOk_chkT k r t l) (HF.out.2.2.2.2.1.next G1.out) (HF.out.2.2.2.2.2.1.next G1.out)).mono ?_
  rintro e y2 ⟨rfl, hy2⟩
  have G2 := Lib.hid (G1.out.trans (hy2.mono G1.out.size))
  clear hy2 hc0 hc1 hc2 hR1 hT1
  obtain ⟨_, _, _, hc0, hc1, hc2⟩ := HF.out.1 y2 G2.out
  go_wp2_with fail
  have hR2 := (H.out.1.below HF.out.2.1).below G2.out
  have hT2 := (H.out.2.1.below HF.out.2.1).below G2.out
  refine (is_pair hR2 hT2 (numOk_chkL k r t x) (HF.out.2.2.2.2.2.2.1.next G2.out) (HF.out.2.2.2.2.2.2.2.1.next G2.out)).mono ?_
  rintro e y3 ⟨rfl, hy3⟩
  have G3 := Lib.hid (G2.out.trans (hy3.mono G2.out.size))
  clear hy3 hc0 hc1 hc2 hR2 hT2
  obtain ⟨⟨hc0, hc1, hc2⟩, ⟨hd0, hd1, hd2⟩, _⟩ := HF.out.1 y3 G3.out
  have hC3 := HF.out.2.2.2.2.2.2.2.2.trans (G3.out.mono HF.out.2.2.2.2.2.2.2.2.size)
  have HC3 := Lib.hid hC3
  clear hC3
  go_wp2_with fail
  refine (keptR_any g k r p n (n + 2) c t y3 (HC.out.2.2.2.1.below HC3.out) ((H.out.2.2.1.next HC.out.2.2.1).next HC3.out) HN.out.2.2.2.1 HN.out.1 (by rw [HN.out.1])).mono ?_
  rintro e y4 ⟨rfl, hy4⟩
  have HC4 := Lib.hid (HC3.out.trans (hy4.mono HC3.out.size))
  clear hy4 hc0 hc1 hc2 hd0 hd1 hd2
  go_wp2_with fail
  have hk5 := keptI_any gl q m (m + 2) d l y4 (HC.out.2.2.2.2.1.below HC4.out) ((H.out.2.2.2.1.next HC.out.2.2.1).next HC4.out) HN.out.2.2.2.2.1 HN.out.2.1 (by rw [HN.out.2.1])
  rw [← HN.out.2.1] at hk5
  refine hk5.mono ?_
  rintro e y5 ⟨rfl, hy5⟩
  have HC5 := Lib.hid (HC4.out.trans (hy5.mono HC4.out.size))
  clear hy5 hk5
  go_wp2_with fail
  have hk6 := keptI_any gx q' m' (m' + 2) d' x y5 (HC.out.2.2.2.2.2.below HC5.out) ((H.out.2.2.2.2.1.next HC.out.2.2.1).next HC5.out) HN.out.2.2.2.2.2 HN.out.2.2.1 (by rw [HN.out.2.2.1])
  rw [← HN.out.2.2.1] at hk6
  refine hk6.mono ?_
  rintro e y6 ⟨rfl, hy6⟩
  have HC6 := Lib.hid (HC5.out.trans (hy6.mono HC5.out.size))
  clear hy6 hk6
  go_wp2_with fail
  go_ret
  exact ⟨rfl, HC.out.2.2.1.trans (HC6.out.mono HC.out.2.2.1.size)⟩
end Go.Proofs.YthafjbegkifekaaDoor
