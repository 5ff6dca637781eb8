/- RuleKeeps: its walk. -/
import Derived.Test.YthafjbegkifekaaDoorB4
import Derived.Test.YthafjbegkifekaaDoorBApartFar
import Derived.Test.YthafjbegkifekaaDoorB3
namespace Go.Proofs.YthafjbegkifekaaDoor
open Go.RowKit Go.Extern.Stop Go.Stop Go.Extern WordM RuleM NatM

theorem Kq.two {w w2 : World} {g gl : Nat} {t l : List Int} (hb : Below w.heap.size w w2) (hg : LentI w2 g t) (hl : LentI w2 gl l) (h1 : w.heap.size ≤ g) (h2 : w.heap.size ≤ gl) (hne : g < gl) : Kq w w2 w2.heap.size [(g, t), (gl, l)] [] := by
  refine ⟨hb, fun i x hi => ?_, fun i j x y hi hj hne' => ?_, Nat.le_refl _, hb.size, fun i e he => by simp at he, fun i j e f _ he => by simp at he⟩
  · rcases i with _ | _ | i
    · obtain rfl := Option.some.inj hi
      exact ⟨hg, h1, hg.lt⟩
    · obtain rfl := Option.some.inj hi
      exact ⟨hl, h2, hl.lt⟩
    · simp at hi
  · rcases i with _ | _ | i <;> rcases j with _ | _ | j <;> first | exact absurd rfl hne' | (simp at hi; done) | (simp at hj; done) | (obtain rfl := Option.some.inj hi; obtain rfl := Option.some.inj hj; simp; omega)
theorem NatO.vfar {base : Nat} {w w' : World} {p : Option Addr} {c : Nat} {l : List Nat} (h : NatO base w p c l) (hs : w.heap.size ≤ w'.heap.size) (hb : ∀ z, base ≤ z → z < w.heap.size → w'.heap[z]? = w.heap[z]?) : NatV w'.heap.size w' p c l := by
  have hv := h.toV
  refine ⟨hv.ok, hv.le, hv.cap, hv.nil, fun hn => ?_⟩
  obtain ⟨g, rfl, hg1, hg2, hc, _⟩ := h.shape (List.length_pos_iff.2 hn)
  exact ⟨g, 0, rfl, by omega, fun j x hx => by rw [Nat.zero_add]; exact (World.cell?_of_block (hb g hg1 hg2)).trans (hc j x hx)⟩
theorem Rul3.far {w w' : World} {h : Nat} {a b c : Value} (k : Rul3 w h a b c) (e : w'.heap[h]? = w.heap[h]?) : Rul3 w' h a b c := ⟨e.trans k.heap⟩

def Bump2 (w w13 : World) (B g gl m : Nat) (t : List Int) (Lo : List MkI) (v : Value) (wr : World) : Prop :=
  ∃ (i : Nat) (t' : List Int), i ≤ m ∧ v = .int .i64 (i : Int) ∧ t'.length = m ∧ Kq w wr B [(g, t), (gl, t')] Lo ∧ (∀ z, z ≠ gl → wr.heap[z]? = w13.heap[z]?) ∧ wr.heap.size = w13.heap.size

set_option maxRecDepth 100000 in
set_option maxHeartbeats 4000000 in
/-- of long words and great tables nothing is asked -/
theorem rkeeps_long (k r : Int) (p q : Option Addr) (n c m d : Nat) (w : World) (A : Nat → Addr) (hr : Roots w A) (hn : n ≤ 9223372036854775807) (hm : m ≤ 9223372036854775807) (hc : 100 < m ∨ 256 < n) :
    Calls Tryd.prog 8 #[.agg #[.int .i64 k, .int .i64 r, .slice p n c], .slice q m d] w (Tells (.bool true) w) := by
  have H := Lib.hid (And.intro hr True.intro)
  clear hr
  rcases (by omega : 100 < m ∨ (¬ 100 < m ∧ 256 < n)) with h1 | ⟨h1, h2⟩
  all_goals
    clear hc
    go_enter Tryd.func8, Tryd.ntmps8
    go_upto_region 1 with fail
    obtain ⟨w0, hw0⟩ : ∃ w0, w0 = w.alloc (.cells #[.int .i64 k, .int .i64 r, .slice p n c] 24) := ⟨_, rfl⟩
    have hb0 : Below w.heap.size w w0 := by rw [hw0]; exact (Below.refl _ _).alloc (Nat.le_refl _) _
    have hE0 : Rul3 w0 w.heap.size (.int .i64 k) (.int .i64 r) (.slice p n c) := by rw [hw0]; exact Rul3.new w _ _ _
    rw [← hw0]
    have HE := Lib.hid (And.intro hE0 hb0)
    clear hw0 hE0 hb0
    go_wp2_with fail
    refine (awakeR w0 A (H.out.1.below HE.out.2)).mono ?_
    rintro e w1 ⟨rfl, hb1⟩
    have H1 := Lib.hid (And.intro (HE.out.1.next hb1) (HE.out.2.trans (hb1.mono HE.out.2.size)))
    clear hb1
    obtain ⟨_, hc0, hc1, hc2⟩ := H1.out.1.facts
    go_wp2_with fail
    go_ret
    exact ⟨rfl, H1.out.2⟩

set_option maxRecDepth 100000 in
set_option maxHeartbeats 8000000 in
theorem rkeeps_bad (k r : Int) (p q : Option Addr) (n c m d : Nat) (t l : List Int) (w : World) (A : Nat → Addr) (hr : Roots w A) (hn : n = t.length) (hm : m = l.length) (h : IntV w.heap.size w p c t) (hl : IntV w.heap.size w q d l) (hm1 : ¬ 100 < m) (hn2 : ¬ 256 < n) (i a : Nat) (hc : chkT k r t l = some (i, a)) :
    Calls Tryd.prog 8 #[.agg #[.int .i64 k, .int .i64 r, .slice p n c], .slice q m d] w (Tells (.bool true) w) := by
  have hlent := fun W hW => lentR_any k r p n c t W hn hW (by omega)
  unfold LentR at hlent
  simp only [← hn] at hlent
  have hl1 := fun W hW => lentI_any q d l W hW (by omega)
  unfold LentPostI at hl1
  simp only [← hm] at hl1
  have HL := Lib.hid (And.intro hlent hl1)
  have H := Lib.hid (And.intro hr (And.intro hn (And.intro hm (And.intro h (And.intro hl hc)))))
  clear hr hn hm h hl hc hlent hl1
  go_enter Tryd.func8, Tryd.ntmps8
  go_upto_region 1 with fail
  obtain ⟨w0, hw0⟩ : ∃ w0, w0 = w.alloc (.cells #[.int .i64 k, .int .i64 r, .slice p n c] 24) := ⟨_, rfl⟩
  have hb0 : Below w.heap.size w w0 := by rw [hw0]; exact (Below.refl _ _).alloc (Nat.le_refl _) _
  have hE0 : Rul3 w0 w.heap.size (.int .i64 k) (.int .i64 r) (.slice p n c) := by rw [hw0]; exact Rul3.new w _ _ _
  rw [← hw0]
  have HE := Lib.hid (And.intro hE0 hb0)
  clear hw0 hE0 hb0
  go_wp2_with fail
  refine (awakeR w0 A (H.out.1.below HE.out.2)).mono ?_
  rintro e w1 ⟨rfl, hb1⟩
  have H1 := Lib.hid (And.intro (HE.out.1.next hb1) (HE.out.2.trans (hb1.mono HE.out.2.size)))
  clear hb1
  obtain ⟨_, hc0, hc1, hc2⟩ := H1.out.1.facts
  go_wp2_with fail
  refine (HL.out.1 w1 (H.out.2.2.2.1.next H1.out.2)).mono ?_
  rintro e w2 ⟨g, rfl, hgw, hLg, hb2⟩
  go_upto_region 6 with fail
  obtain ⟨wA, hwA⟩ : ∃ x, x = w2.alloc (.cells #[.int .i64 k, .int .i64 r, .slice (some ⟨g, 0, none⟩) n (n + 2)] 24) := ⟨_, rfl⟩
  have hbA : Below w2.heap.size w2 wA := by rw [hwA]; exact (Below.refl _ _).alloc (Nat.le_refl _) _
  have hEA : Rul3 wA w2.heap.size (.int .i64 k) (.int .i64 r) (.slice (some ⟨g, 0, none⟩) n (n + 2)) := by rw [hwA]; exact Rul3.new w2 _ _ _
  rw [← hwA]
  have hbwA : Below w.heap.size w wA := (H1.out.2.trans (hb2.mono H1.out.2.size)).trans (hbA.mono (Nat.le_trans H1.out.2.size hb2.size))
  have hgw2 : w.heap.size ≤ g := Nat.le_trans H1.out.2.size hgw
  have HA := Lib.hid (And.intro hEA (And.intro ((H1.out.1.next hb2).next hbA) (And.intro hbwA (And.intro (hLg.below hbA) hgw2))))
  clear hwA hbA hEA hbwA hLg hb2 hc0 hc1 hc2 hgw hgw2
  go_wp2_with fail
  refine (HL.out.2 wA (H.out.2.2.2.2.1.next HA.out.2.2.1)).mono ?_
  rintro e w3 ⟨rfl, hLl, hb3⟩
  obtain ⟨gl, hgl⟩ : ∃ g, wA.heap.size = g := ⟨_, rfl⟩
  rw [hgl] at hLl ⊢
  have hgl5 := And.intro HA.out.1.lt HA.out.2.1.lt
  rw [hgl] at hgl5
  have HGL := Lib.hid hgl5
  have hglg : g < gl := by rw [← hgl]; exact HA.out.2.2.2.1.lt
  have hwgl : w.heap.size ≤ gl := by rw [← hgl]; exact HA.out.2.2.1.size
  have H3 := Lib.hid (And.intro (HA.out.1.next hb3) (And.intro (HA.out.2.1.next hb3) (And.intro (HA.out.2.2.1.trans (hb3.mono HA.out.2.2.1.size)) (And.intro (HA.out.2.2.2.1.below hb3) (And.intro hLl (And.intro hglg hwgl))))))
  clear hLl hb3 hgl hglg hwgl hgl5
  have hgt : ∀ wx : World, LentI wx g t → IntV wx.heap.size wx (some ⟨g, 0, none⟩) (n + 2) t := fun wx hb => hb.vn (by rw [H.out.2.1]) (by have := H.out.2.1; omega)
  have hgl : ∀ (wx : World) (l' : List Int), l'.length = m → LentI wx gl l' → IntV wx.heap.size wx (some ⟨gl, 0, none⟩) (m + 2) l' := fun wx l' hl' hb => hb.vn (by rw [hl']) (by omega)
  have HG := Lib.hid (And.intro hgt hgl)
  clear hgt hgl
  obtain ⟨_, hc0, hc1, hc2⟩ := H3.out.1.facts
  go_wp2_with fail
  refine (step_bad k r _ _ n _ m _ t l w3 A (H.out.1.below H3.out.2.2.1) H.out.2.1 H.out.2.2.1 (HG.out.1 w3 H3.out.2.2.2.1) (HG.out.2 w3 l H.out.2.2.1.symm H3.out.2.2.2.2.1) i a H.out.2.2.2.2.2).mono ?_
  rintro e w4 ⟨b4, rfl, _, hb4⟩
  clear hc0 hc1 hc2
  have G4 := Lib.hid hb4
  clear hb4
  obtain ⟨_, hc0, hc1, hc2⟩ := (H3.out.1.next G4.out).facts
  go_wp2_with fail
  refine (step_bad k r _ _ n _ m _ t l w4 A ((H.out.1.below H3.out.2.2.1).below G4.out) H.out.2.1 H.out.2.2.1 (HG.out.1 w4 (H3.out.2.2.2.1.below G4.out)) (HG.out.2 w4 l H.out.2.2.1.symm (H3.out.2.2.2.2.1.below G4.out)) i a H.out.2.2.2.2.2).mono ?_
  rintro e w5 ⟨b5, rfl, _, hb5⟩
  clear hc0 hc1 hc2
  have G5 := Lib.hid (G4.out.trans (hb5.mono G4.out.size))
  clear hb5
  obtain ⟨_, hc0, hc1, hc2⟩ := (H3.out.1.next G5.out).facts
  obtain ⟨_, hr0, hr1, hr2⟩ := (H3.out.2.1.next G5.out).facts
  go_wp2_with fail
  refine (keptR_any g k r p n (n + 2) c t w5 (H3.out.2.2.2.1.below G5.out) ((H.out.2.2.2.1.next H3.out.2.2.1).next G5.out) (by have := H.out.2.1; omega) H.out.2.1 (by rw [H.out.2.1])).mono ?_
  rintro e w6 ⟨rfl, hb6⟩
  have G6 := Lib.hid (H3.out.2.2.1.trans ((G5.out.trans (hb6.mono G5.out.size)).mono H3.out.2.2.1.size))
  clear hb6
  go_wp2_with fail
  go_ret
  exact ⟨rfl, G6.out⟩

set_option maxRecDepth 100000 in
set_option maxHeartbeats 16000000 in
theorem rkeeps_ok (K R : Nat) (p q : Option Addr) (n c m d : Nat) (t l : List Int) (w : World) (A : Nat → Addr) (hr : Roots w A) (hn : n = t.length) (hm : m = l.length) (h : IntV w.heap.size w p c t) (hl : IntV w.heap.size w q d l) (hm1 : ¬ 100 < m) (hn2 : ¬ 256 < n) (ho : OkR K R t) (hw : okW K l) :
    Calls Tryd.prog 8 #[.agg #[.int .i64 (K : Int), .int .i64 (R : Int), .slice p n c], .slice q m d] w (Tells (.bool true) w) := by
  have hlent := fun W hW => lentR_any (K : Int) (R : Int) p n c t W hn hW (by omega)
  unfold LentR at hlent
  simp only [← hn] at hlent
  have hl1 := fun W hW => lentI_any q d l W hW (by omega)
  unfold LentPostI at hl1
  simp only [← hm] at hl1
  have HL := Lib.hid (And.intro hlent hl1)
  have hst := fun W g gl hW hW' => step_ok (K : Int) (R : Int) (some ⟨g, 0, none⟩) (some ⟨gl, 0, none⟩) n (n + 2) m (m + 2) t l W hn hm hW hW' (chkT_ok ho (by omega) hw)
  simp only [Int.toNat_natCast] at hst
  have hil := imgW_length K R t l
  obtain ⟨I, hI⟩ : ∃ I, imgW K R t l = I := ⟨_, rfl⟩
  simp only [hI] at hst hil
  obtain ⟨u, hu⟩ : ∃ u, I.length = u := ⟨_, rfl⟩
  simp only [hu] at hil
  have hu100 : u ≤ 100 := by omega
  have hcd := fun W g hW => code_ok K R (some ⟨g, 0, none⟩) n (n + 2) t W hn hW ho (by omega)
  obtain ⟨N, hN⟩ : ∃ N, codeR K t = N := ⟨_, rfl⟩
  have hNlt := code_lt ho
  have hNl : (D32 N).length ≤ 100000 := by
    have h1 := valW_len ho.k4 ho.rev
    rw [← hN]
    unfold codeR
    rw [List.length_reverse] at h1
    omega
  simp only [hN] at hcd hNlt
  have hfr : ∀ W pN cN, NatV W.heap.size W pN cN (D32 N) → Calls Tryd.prog 29 #[.int .i64 (K : Int), .int .i64 (R : Int), .slice pN (D32 N).length cN] W (RuleOk W K R t) := fun W pN cN hW => by
    have := from_ok K R pN (D32 N).length cN (D32 N) W rfl hW hNl ho.k1 ho.k4 ho.r3 (by rw [← ho.len]; omega) (by rw [V32_D32]; exact hNlt)
    rw [V32_D32] at this
    refine this.mono fun e w' ⟨t', h1, h2, h3⟩ => ?_
    obtain rfl : t' = t := code_inj h1 ho (by rw [h2, hN])
    exact h3
  unfold RuleOk at hfr
  simp only [← hn] at hfr
  obtain ⟨dl, hdl⟩ : ∃ z, (D32 N).length = z := ⟨_, rfl⟩
  simp only [hdl] at hfr
  have HS := Lib.hid (And.intro hst (And.intro hcd (And.intro hfr (And.intro hdl hu))))
  have H := Lib.hid (And.intro hr (And.intro hn (And.intro hm (And.intro h (And.intro hl True.intro)))))
  clear hr hn hm h hl hlent hl1 hst hil hI hu hcd hN hNlt hNl hfr hdl ho hw
  go_enter Tryd.func8, Tryd.ntmps8
  go_upto_region 1 with fail
  obtain ⟨w0, hw0⟩ : ∃ w0, w0 = w.alloc (.cells #[.int .i64 (K : Int), .int .i64 (R : Int), .slice p n c] 24) := ⟨_, rfl⟩
  have hb0 : Below w.heap.size w w0 := by rw [hw0]; exact (Below.refl _ _).alloc (Nat.le_refl _) _
  have hE0 : Rul3 w0 w.heap.size (.int .i64 (K : Int)) (.int .i64 (R : Int)) (.slice p n c) := by rw [hw0]; exact Rul3.new w _ _ _
  rw [← hw0]
  have HE := Lib.hid (And.intro hE0 hb0)
  clear hw0 hE0 hb0
  go_wp2_with fail
  refine (awakeR w0 A (H.out.1.below HE.out.2)).mono ?_
  rintro e w1 ⟨rfl, hb1⟩
  have H1 := Lib.hid (And.intro (HE.out.1.next hb1) (HE.out.2.trans (hb1.mono HE.out.2.size)))
  clear hb1
  obtain ⟨_, hc0, hc1, hc2⟩ := H1.out.1.facts
  go_wp2_with fail
  refine (HL.out.1 w1 (H.out.2.2.2.1.next H1.out.2)).mono ?_
  rintro e w2 ⟨g, rfl, hgw, hLg, hb2⟩
  go_upto_region 6 with fail
  obtain ⟨wA, hwA⟩ : ∃ x, x = w2.alloc (.cells #[.int .i64 (K : Int), .int .i64 (R : Int), .slice (some ⟨g, 0, none⟩) n (n + 2)] 24) := ⟨_, rfl⟩
  have hbA : Below w2.heap.size w2 wA := by rw [hwA]; exact (Below.refl _ _).alloc (Nat.le_refl _) _
  have hEA : Rul3 wA w2.heap.size (.int .i64 (K : Int)) (.int .i64 (R : Int)) (.slice (some ⟨g, 0, none⟩) n (n + 2)) := by rw [hwA]; exact Rul3.new w2 _ _ _
  rw [← hwA]
  have hbwA : Below w.heap.size w wA := (H1.out.2.trans (hb2.mono H1.out.2.size)).trans (hbA.mono (Nat.le_trans H1.out.2.size hb2.size))
  have hgw2 : w.heap.size ≤ g := Nat.le_trans H1.out.2.size hgw
  have HA := Lib.hid (And.intro hEA (And.intro ((H1.out.1.next hb2).next hbA) (And.intro hbwA (And.intro (hLg.below hbA) hgw2))))
  clear hwA hbA hEA hbwA hLg hb2 hc0 hc1 hc2 hgw hgw2
  go_wp2_with fail
  refine (HL.out.2 wA (H.out.2.2.2.2.1.next HA.out.2.2.1)).mono ?_
  rintro e w3 ⟨rfl, hLl, hb3⟩
  obtain ⟨gl, hgl⟩ : ∃ g, wA.heap.size = g := ⟨_, rfl⟩
  rw [hgl] at hLl ⊢
  have hgl5 := And.intro HA.out.1.lt HA.out.2.1.lt
  rw [hgl] at hgl5
  have HGL := Lib.hid hgl5
  have hglg : g < gl := by rw [← hgl]; exact HA.out.2.2.2.1.lt
  have hwgl : w.heap.size ≤ gl := by rw [← hgl]; exact HA.out.2.2.1.size
  have H3 := Lib.hid (And.intro (HA.out.1.next hb3) (And.intro (HA.out.2.1.next hb3) (And.intro (HA.out.2.2.1.trans (hb3.mono HA.out.2.2.1.size)) (And.intro (HA.out.2.2.2.1.below hb3) (And.intro hLl (And.intro hglg hwgl))))))
  clear hLl hb3 hgl hglg hwgl hgl5
  have hgt : ∀ wx : World, LentI wx g t → IntV wx.heap.size wx (some ⟨g, 0, none⟩) (n + 2) t := fun wx hb => hb.vn (by rw [H.out.2.1]) (by have := H.out.2.1; omega)
  have hgl : ∀ (wx : World) (l' : List Int), l'.length = m → LentI wx gl l' → IntV wx.heap.size wx (some ⟨gl, 0, none⟩) (m + 2) l' := fun wx l' hl' hb => hb.vn (by rw [hl']) (by omega)
  have HG := Lib.hid (And.intro hgt hgl)
  clear hgt hgl
  obtain ⟨_, hc0, hc1, hc2⟩ := H3.out.1.facts
  go_wp2_with fail
  have hK3 := Kq.two H3.out.2.2.1 H3.out.2.2.2.1 H3.out.2.2.2.2.1 (by have := HA.out.2.2.2.2; exact this) H3.out.2.2.2.2.2.2 H3.out.2.2.2.2.2.1
  obtain ⟨B, hB⟩ : ∃ B, w3.heap.size = B := ⟨_, rfl⟩
  rw [hB] at hK3
  have K3 := Lib.hid hK3
  clear hK3
  have hgm : ∀ (wx : World) (Lo : List MkI) (l' : List Int), Kq w wx B [(g, t), (gl, l')] Lo → IntV wx.heap.size wx (some ⟨g, 0, none⟩) (n + 2) t := fun wx Lo l' Kx => HG.out.1 wx (Kx.lent 0 _ rfl).1
  have hgv : ∀ (wx : World) (Lo : List MkI) (l' : List Int), l'.length = m → Kq w wx B [(g, t), (gl, l')] Lo → IntV wx.heap.size wx (some ⟨gl, 0, none⟩) (m + 2) l' := fun wx Lo l' hl' Kx => HG.out.2 wx l' hl' (Kx.lent 1 _ rfl).1
  have HGK := Lib.hid (And.intro hgm hgv)
  clear hgm hgv
  refine (HS.out.1 w3 g gl (HGK.out.1 _ _ _ K3.out) (HGK.out.2 _ _ _ H.out.2.2.1.symm K3.out)).mono ?_
  rintro e w4 ⟨p4, c4, rfl, ho4, hb4⟩
  rw [HS.out.2.2.2.2]
  clear hc0 hc1 hc2
  have K4 := Lib.hid (K3.out.push hb4 ho4)
  have E4 := Lib.hid (And.intro (H3.out.1.next hb4) (And.intro (H3.out.2.1.next hb4) hb4.size))
  clear hb4 ho4
  obtain ⟨_, hc0, hc1, hc2⟩ := E4.out.1.facts
  go_wp2_with fail
  refine (HS.out.1 w4 g gl (HGK.out.1 _ _ _ K4.out) (HGK.out.2 _ _ _ H.out.2.2.1.symm K4.out)).mono ?_
  rintro e w5 ⟨p5, c5, rfl, ho5, hb5⟩
  rw [HS.out.2.2.2.2]
  clear hc0 hc1 hc2
  have K5 := Lib.hid (K4.out.push hb5 ho5)
  have E5 := Lib.hid (And.intro (E4.out.1.next hb5) (And.intro (E4.out.2.1.next hb5) hb5.size))
  clear hb5 ho5
  obtain ⟨_, hc0, hc1, hc2⟩ := E5.out.1.facts
  go_wp2_with fail
  refine (HS.out.2.1 w5 g (HGK.out.1 _ _ _ K5.out)).mono ?_
  rintro e w6 ⟨pN, cN, rfl, hoN, hb6⟩
  rw [HS.out.2.2.2.1]
  clear hc0 hc1 hc2
  have K6 := Lib.hid (K5.out.next hb6)
  have E6 := Lib.hid (And.intro (E5.out.1.next hb6) (And.intro (E5.out.2.1.next hb6) (And.intro hb6.size hoN)))
  clear hb6 hoN
  obtain ⟨_, hr0, hr1, hr2⟩ := E6.out.2.1.facts
  go_wp2_with fail
  refine (HS.out.2.2.1 w6 pN cN E6.out.2.2.2.toV).mono ?_
  rintro e w7 ⟨p7, c7, rfl, ho7, hb7⟩
  go_upto_region 13 with fail
  obtain ⟨wB, hwB⟩ : ∃ x, x = w7.alloc (.cells #[.int .i64 (K : Int), .int .i64 (R : Int), .slice p7 n c7] 24) := ⟨_, rfl⟩
  have hbB : Below w7.heap.size w7 wB := by rw [hwB]; exact (Below.refl _ _).alloc (Nat.le_refl _) _
  have hEB : Rul3 wB w7.heap.size (.int .i64 (K : Int)) (.int .i64 (R : Int)) (.slice p7 n c7) := by rw [hwB]; exact Rul3.new w7 _ _ _
  have hsB : wB.heap.size = w7.heap.size + 1 := by rw [hwB]; simp
  rw [← hwB]
  have K7 := Lib.hid ((K6.out.push hb7 ho7).next hbB)
  have hb6B : Below w6.heap.size w6 wB := hb7.trans (hbB.mono hb7.size)
  have E7 := Lib.hid (And.intro (E6.out.1.next hb6B) (And.intro (E6.out.2.1.next hb6B) (And.intro hb7.size (And.intro hb6B (And.intro hEB hsB)))))
  clear hwB hbB hEB hsB hb7 ho7 hb6B hr0 hr1 hr2
  obtain ⟨_, hr0, hr1, hr2⟩ := E7.out.2.1.facts
  go_wp2_with fail
  have hNB : NatV wB.heap.size wB pN cN (D32 N) := (E6.out.2.2.2.next E7.out.2.2.2.1).toV
  refine (HS.out.2.2.1 wB pN cN hNB).mono ?_
  rintro e w8 ⟨p8, c8, rfl, ho8, hb8⟩
  clear hNB
  go_upto_region 14 with fail
  obtain ⟨w9, hw9⟩ : ∃ x, x = w8.alloc (.cells #[.int .i64 (K : Int), .int .i64 (R : Int), .slice p8 n c8] 24) := ⟨_, rfl⟩
  have hb9 : Below w8.heap.size w8 w9 := by rw [hw9]; exact (Below.refl _ _).alloc (Nat.le_refl _) _
  have hE9 : Rul3 w9 w8.heap.size (.int .i64 (K : Int)) (.int .i64 (R : Int)) (.slice p8 n c8) := by rw [hw9]; exact Rul3.new w8 _ _ _
  have hs9 : w9.heap.size = w8.heap.size + 1 := by rw [hw9]; simp
  rw [← hw9]
  have K9 := Lib.hid ((K7.out.push hb8 ho8).next hb9)
  have hbB9 : Below wB.heap.size wB w9 := hb8.trans (hb9.mono hb8.size)
  have E9 := Lib.hid (And.intro (E7.out.1.next hbB9) (And.intro (E7.out.2.1.next hbB9) (And.intro hb8.size (And.intro (E7.out.2.2.2.1.trans (hbB9.mono E7.out.2.2.2.1.size)) (And.intro (E7.out.2.2.2.2.1.next hbB9) (And.intro hE9 hs9))))))
  clear hw9 hb9 hE9 hs9 hb8 ho8 hbB9 hr0 hr1 hr2
  go_wp2_with fail
  refine (ints_any _ _ _ _ _ _ I I _ HS.out.2.2.2.2.symm HS.out.2.2.2.2.symm (K9.out.get 3 rfl) (K9.out.get 2 rfl)).mono ?_
  rintro e x1 ⟨rfl, hy1⟩
  rw [sameI_self]
  have G1 := Lib.hid hy1
  clear hy1
  obtain ⟨_, hc0, hc1, hc2⟩ := (E9.out.2.2.2.2.1.next G1.out).facts
  obtain ⟨_, hr0, hr1, hr2⟩ := (E9.out.2.1.next G1.out).facts
  go_wp2_with fail
  refine (rules_same (K : Int) (R : Int) p7 p n c7 c t x1 H.out.2.1 ((K9.out.next G1.out).get 1 rfl) ((K9.out.next G1.out).old H.out.2.2.2.1)).mono ?_
  rintro e x2 ⟨rfl, hy2⟩
  have G2 := Lib.hid (G1.out.trans (hy2.mono G1.out.size))
  clear hy2 hc0 hc1 hc2 hr0 hr1 hr2
  obtain ⟨_, hc0, hc1, hc2⟩ := (E9.out.2.2.2.2.2.1.next G2.out).facts
  obtain ⟨_, hr0, hr1, hr2⟩ := (E9.out.2.1.next G2.out).facts
  go_wp2_with fail
  refine (rules_same (K : Int) (R : Int) p8 p n c8 c t x2 H.out.2.1 ((K9.out.next G2.out).get 0 rfl) ((K9.out.next G2.out).old H.out.2.2.2.1)).mono ?_
  rintro e x3 ⟨rfl, hy3⟩
  have G3 := Lib.hid (G2.out.trans (hy3.mono G2.out.size))
  clear hy3 hc0 hc1 hc2 hr0 hr1 hr2
  go_wp2_with fail
  refine (copyI_any _ _ _ I _ HS.out.2.2.2.2.symm ((K9.out.next G3.out).get 2 rfl) (by have := HS.out.2.2.2.2; omega)).mono ?_
  rintro e w13 ⟨p13, c13, rfl, ho13, hb13⟩
  rw [HS.out.2.2.2.2]
  obtain ⟨Lo, hLo⟩ : ∃ Lo : List MkI, Lo = [((p13, c13, I), x3.heap.size, w13.heap.size), ((p8, c8, t), wB.heap.size, w8.heap.size), ((p7, c7, t), w6.heap.size, w7.heap.size), ((p5, c5, I), w4.heap.size, w5.heap.size), ((p4, c4, I), B, w4.heap.size)] := ⟨_, rfl⟩
  have hK13 : Kq w w13 B [(g, t), (gl, l)] Lo := by
    have := (K9.out.next G3.out).push hb13 ho13
    rw [hB] at this
    rw [hLo]; exact this
  have hgets : Lo[0]? = some ((p13, c13, I), x3.heap.size, w13.heap.size) ∧ Lo[1]? = some ((p8, c8, t), wB.heap.size, w8.heap.size) ∧ Lo[2]? = some ((p7, c7, t), w6.heap.size, w7.heap.size) ∧ Lo[3]? = some ((p5, c5, I), w4.heap.size, w5.heap.size) ∧ Lo[4]? = some ((p4, c4, I), B, w4.heap.size) := by
    rw [hLo]; exact ⟨rfl, rfl, rfl, rfl, rfl⟩
  have GG := Lib.hid hgets
  have K13 := Lib.hid hK13
  have h913 := G3.out.trans (hb13.mono G3.out.size)
  have E13 := Lib.hid (And.intro (E9.out.1.next h913) (And.intro (E9.out.2.1.next h913) (And.intro (E9.out.2.2.2.2.1.next h913) (And.intro (E9.out.2.2.2.2.2.1.next h913) (And.intro (E9.out.2.2.2.1.trans (h913.mono E9.out.2.2.2.1.size)) h913.size)))))
  have hszs : w2.heap.size < B ∧ w.heap.size < B ∧ B ≤ w4.heap.size ∧ w4.heap.size ≤ w5.heap.size ∧ w5.heap.size ≤ w6.heap.size ∧ w6.heap.size ≤ w7.heap.size ∧ wB.heap.size = w7.heap.size + 1 ∧ wB.heap.size ≤ w8.heap.size ∧ w9.heap.size = w8.heap.size + 1 ∧ w9.heap.size ≤ w13.heap.size ∧ gl < B := by
    have e1 := H3.out.1.lt
    have e2 := H3.out.2.1.lt
    have e3 := E4.out.2.2
    have e4 := H3.out.2.2.2.2.1.lt
    refine ⟨by omega, by omega, by omega, E5.out.2.2, E6.out.2.2.1, E7.out.2.2.1, E7.out.2.2.2.2.2, E9.out.2.2.1, E9.out.2.2.2.2.2.2, E13.out.2.2.2.2.2, by omega⟩
  have SZ := Lib.hid hszs
  clear hLo hK13 hgets h913 hb13 ho13 hszs
  go_wp2_with fail
  go_loopw [18] (fun v wr => Bump2 w w13 B g gl m t Lo v wr) (fun v _ => m - (intOf v).toNat)
  case atStart => exact ⟨0, l, Nat.zero_le _, rfl, H.out.2.2.1.symm, K13.out, fun _ _ => rfl, rfl⟩
  case round =>
    obtain ⟨i, t', hi, rfl, htl, hK, hfar, hsz⟩ := hrel
    by_cases hlt : i < m
    · obtain ⟨x, hx⟩ := getI (l := t') (k := i) (by omega)
      have hlx := (hK.lent 1 _ rfl).1
      have hcx : wr.cell? ⟨gl, i, none⟩ = some (.int .i64 x) := LentI.cell hlx (by rw [List.getElem?_append_left (by show i < t'.length; omega)]; exact hx)
      have hfx : wr.frozen? ⟨gl, i, none⟩ = false := frozen_of_row wr gl i _ _ hlx
      have hnew := fun v => hK.setx 1 gl t' rfl i v (by omega)
      have hfar' : ∀ (v : Value) (z : Nat), z ≠ gl → (wr.setCell ⟨gl, i, none⟩ v).heap[z]? = w13.heap[z]? := fun v z hz => by
        rw [← hfar z hz]
        show (wr.heap.modify gl _)[z]? = _
        rw [Array.getElem?_modify, if_neg (Ne.symm hz)]
      have hsz' : ∀ v : Value, (wr.setCell ⟨gl, i, none⟩ v).heap.size = w13.heap.size := fun v => by rw [← hsz]; simp [World.setCell]
      have HN := Lib.hid (And.intro hnew (And.intro htl (And.intro hfar' hsz')))
      clear hnew hK hx hlx htl hfar hsz hfar' hsz'
      go_wp2_with fail
      go_roundw
      case rel => exact ⟨i + 1, t'.set i _, by omega, by go_num, by rw [List.length_set]; exact HN.out.2.1, HN.out.1 _, HN.out.2.2.1 _, HN.out.2.2.2 _⟩
      case measure => simp [intOf]; omega
    · obtain rfl : i = m := by omega
      have K14 := Lib.hid hK
      have HF := Lib.hid (And.intro hfar hsz)
      clear hK hfar hsz
      go_wp2_with fail
      refine (ints_any _ _ _ _ _ _ I I _ HS.out.2.2.2.2.symm HS.out.2.2.2.2.symm (K14.out.get 4 GG.out.2.2.2.2) (K14.out.get 0 GG.out.1)).mono ?_
      rintro e w15 ⟨rfl, hb15⟩
      rw [sameI_self]
      have K15 := Lib.hid (K14.out.next hb15)
      have hf15 : ∀ z, z < w13.heap.size → z ≠ gl → w15.heap[z]? = w13.heap[z]? := fun z hz hne => (hb15.block z (by rw [HF.out.2]; exact hz)).trans (HF.out.1 z hne)
      have hs15 : w13.heap.size ≤ w15.heap.size := by rw [← HF.out.2]; exact hb15.size
      have F15 := Lib.hid (And.intro hf15 hs15)
      clear hb15 hf15 hs15
      have hz := SZ.out
      have hgl' := hz.2.2.2.2.2.2.2.2.2.2
      obtain ⟨_, hc0, hc1, hc2⟩ := (E13.out.2.2.1.far (F15.out.1 _ (by omega) (by omega))).facts
      obtain ⟨_, hd0, hd1, hd2⟩ := (E13.out.2.2.2.1.far (F15.out.1 _ (by omega) (by omega))).facts
      clear hz hgl'
      have hap := K15.out.apart_far [4, 3, 2, 1] (by decide) #[.slice p4 u c4, .slice p5 u c5, .slice p7 n c7, .slice p8 n c8] 22 4 rfl (by omega) (fun k j hk => by
        have hl1 := HS.out.2.2.2.2
        have hl2 := H.out.2.1
        rcases k with _ | _ | _ | _ | k
        · obtain rfl := Option.some.inj hk
          exact ⟨_, GG.out.2.2.2.2, by simp [Sl.val, hl1], by simp; omega⟩
        · obtain rfl := Option.some.inj hk
          exact ⟨_, GG.out.2.2.2.1, by simp [Sl.val, hl1], by simp; omega⟩
        · obtain rfl := Option.some.inj hk
          exact ⟨_, GG.out.2.2.1, by simp [Sl.val, hl2], by simp; omega⟩
        · obtain rfl := Option.some.inj hk
          exact ⟨_, GG.out.2.1, by simp [Sl.val, hl2], by simp; omega⟩
        · simp at hk)
      have HAP := Lib.hid hap
      clear hap
      go_wp2_with fail
      refine HAP.out.mono ?_
      rintro e w16 ⟨rfl, hb16, hfar16, hs16⟩
      have hfar : ∀ z, z < w13.heap.size → z ≠ gl → (z < B ∨ (w5.heap.size ≤ z ∧ z < w6.heap.size) ∨ z = w7.heap.size ∨ w8.heap.size ≤ z) → w16.heap[z]? = w13.heap[z]? := fun z hz hne hcase => by
        rw [← F15.out.1 z hz hne]
        refine hfar16 z (by have := F15.out.2; omega) (fun i f hi hf => ?_)
        have hzz := SZ.out
        simp only [List.mem_cons, List.not_mem_nil, or_false] at hi
        rcases hi with rfl | rfl | rfl | rfl
        · obtain rfl := Option.some.inj (GG.out.2.2.2.2.symm.trans hf); simp only []; omega
        · obtain rfl := Option.some.inj (GG.out.2.2.2.1.symm.trans hf); simp only []; omega
        · obtain rfl := Option.some.inj (GG.out.2.2.1.symm.trans hf); simp only []; omega
        · obtain rfl := Option.some.inj (GG.out.2.1.symm.trans hf); simp only []; omega
      have hz := SZ.out
      have hgl' := HGL.out
      have hR2 := E13.out.2.1.far (hfar _ (by omega) (by omega) (by omega))
      have hR5 := E13.out.1.far (hfar _ (by omega) (by omega) (by omega))
      have hLg := (K13.out.lent 0 _ rfl).1.block (hfar g (by have := (K13.out.lent 0 _ rfl).1.lt; exact this) (by have := H3.out.2.2.2.2.2.1; omega) (Or.inl (K13.out.lent 0 _ rfl).2.2))
      have hN16 := E6.out.2.2.2.vfar (w' := w16) (by have := F15.out.2; have := E13.out.2.2.2.2.2; have := E9.out.2.2.2.1.size; omega) (fun z h1 h2 => by
        have e1 := E9.out.2.2.2.1.size
        have e2 := E13.out.2.2.2.2.1
        rw [hfar z (by have := e2.size; omega) (by omega) (Or.inr (Or.inl ⟨h1, h2⟩))]
        exact e2.block z h2)
      obtain ⟨_, hr0, hr1, hr2⟩ := hR2.facts
      obtain ⟨_, hm0, hm1, hm2⟩ := hR5.facts
      have HX := Lib.hid (And.intro hb16 (And.intro hR2 (And.intro hLg hN16)))
      clear hz hgl' hR2 hR5 hLg hN16 hfar hb16 hfar16 hs16 hc0 hc1 hc2 hd0 hd1 hd2 HAP
      go_wp2_with fail
      refine (keptR_any g (K : Int) (R : Int) p n (n + 2) c t w16 HX.out.2.2.1 (H.out.2.2.2.1.next HX.out.1) (by have := H.out.2.1; omega) H.out.2.1 (by rw [H.out.2.1])).mono ?_
      rintro e w17 ⟨rfl, hb17⟩
      clear hr0 hr1 hr2 hm0 hm1 hm2
      have hR17 := HX.out.2.1.next hb17
      obtain ⟨_, hr0, hr1, hr2⟩ := hR17.facts
      have HY := Lib.hid (And.intro (HX.out.1.trans (hb17.mono HX.out.1.size)) (And.intro hR17 (HX.out.2.2.2.next hb17)))
      clear hb17 hR17
      go_wp2_with fail
      refine (HS.out.2.2.1 w17 pN cN HY.out.2.2).mono ?_
      rintro e w18 ⟨p18, c18, rfl, ho18, hb18⟩
      go_upto_region 24 with fail
      obtain ⟨wZ, hwZ⟩ : ∃ x, x = w18.alloc (.cells #[.int .i64 (K : Int), .int .i64 (R : Int), .slice p18 n c18] 24) := ⟨_, rfl⟩
      have hbZ : Below w18.heap.size w18 wZ := by rw [hwZ]; exact (Below.refl _ _).alloc (Nat.le_refl _) _
      have hEZ : Rul3 wZ w18.heap.size (.int .i64 (K : Int)) (.int .i64 (R : Int)) (.slice p18 n c18) := by rw [hwZ]; exact Rul3.new w18 _ _ _
      rw [← hwZ]
      have hb17Z := hb18.trans (hbZ.mono hb18.size)
      have hRZ := HY.out.2.1.next hb17Z
      have hwZ' := HY.out.1.trans (hb17Z.mono HY.out.1.size)
      clear hr0 hr1 hr2
      obtain ⟨_, hr0, hr1, hr2⟩ := hRZ.facts
      obtain ⟨_, hc0, hc1, hc2⟩ := hEZ.facts
      have HZ := Lib.hid (And.intro hwZ' (ho18.next hbZ).toV)
      clear hwZ hbZ hEZ hb17Z hRZ hwZ' ho18 hb18
      go_wp2_with fail
      refine (rules_same (K : Int) (R : Int) p18 p n c18 c t wZ H.out.2.1 HZ.out.2 (H.out.2.2.2.1.next HZ.out.1)).mono ?_
      rintro e w20 ⟨rfl, hb20⟩
      have HW := Lib.hid (HZ.out.1.trans (hb20.mono HZ.out.1.size))
      clear hb20
      go_wp2_with fail
      go_ret
      exact ⟨rfl, HW.out⟩

theorem rkeeps_any (k r : Int) (p q : Option Addr) (n c m d : Nat) (t l : List Int) (w : World) (A : Nat → Addr) (hr : Roots w A) (hn : n = t.length) (hm : m = l.length) (h : IntV w.heap.size w p c t) (hl : IntV w.heap.size w q d l) :
    Calls Tryd.prog 8 #[.agg #[.int .i64 k, .int .i64 r, .slice p n c], .slice q m d] w (Tells (.bool true) w) := by
  have h1 := h.le
  have h2 := h.cap
  have h3 := hl.le
  have h4 := hl.cap
  unfold maxLen at h2 h4
  by_cases hbig : 100 < m ∨ 256 < n
  · exact rkeeps_long k r p q n c m d w A hr (by omega) (by omega) hbig
  · cases hc : chkT k r t l with
    | some y => exact rkeeps_bad k r p q n c m d t l w A hr hn hm h hl (by omega) (by omega) y.1 y.2 hc
    | none =>
      obtain ⟨K, R, rfl, rfl, ho, _, hw⟩ := chkT_none hc
      exact rkeeps_ok K R p q n c m d t l w A hr hn hm h hl (by omega) (by omega) ho hw
end Go.Proofs.YthafjbegkifekaaDoor
