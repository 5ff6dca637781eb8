/- The document's own package of rings by its contracts, second part: Fault. -/
import Derived.Test.YtgdjnohhofbcnaaDoorBRgI
import Derived.Test.YtgdjnohhofbcnaaDoorB5
namespace Go.Proofs.YtgdjnohhofbcnaaDoor
open Go.RowKit Go.Extern.Stop Go.Stop Go.Extern WordM RuleM NatM

theorem badG_no (a b : Value) (w : World) : Calls Tryd.prog 34 #[.agg #[.int .i64 0, a, b]] w (Tells (.bool false) w) := by
  go_enter Tryd.func34, Tryd.ntmps34
  go_wp2_with fail
  go_ret
  exact ⟨rfl, (Below.refl _ _).alloc (Nat.le_refl _) _⟩
theorem badG_yes (k : Int) (hk : k ≠ 0) (a b : Value) (w : World) : Calls Tryd.prog 34 #[.agg #[.int .i64 k, a, b]] w (Tells (.bool true) w) := by
  have hk' : (k != 0) = true := by simpa using hk
  have hk2 : (k == 0) = false := by simpa using hk
  go_enter Tryd.func34, Tryd.ntmps34
  go_wp2_with fail
  go_ret
  exact ⟨rfl, (Below.refl _ _).alloc (Nat.le_refl _) _⟩
theorem wantV_put3g {w : World} {g g' h co ca : Nat} {L : List (ByteArray × Int)} (hv : WantV w (some ⟨g, 0, none⟩) (some ⟨g', 0, none⟩) co ca L) (hg : g ≠ h) (hg' : g' ≠ h) (a b c : Value) : WantV (put3 w h a b c) (some ⟨g, 0, none⟩) (some ⟨g', 0, none⟩) co ca L :=
  ⟨fun hn => by
    obtain ⟨b1, o1, e1, l1, c1⟩ := hv.ops hn
    obtain ⟨rfl, rfl⟩ : g = b1 ∧ 0 = o1 := by simpa using e1
    exact ⟨g, 0, rfl, by rw [put3_size]; exact l1, fun j x hx => (put3_cell w h a b c _ hg).trans (c1 j x hx)⟩, fun hn => by
    obtain ⟨b2, o2, e2, l2, c2⟩ := hv.ats hn
    obtain ⟨rfl, rfl⟩ : g' = b2 ∧ 0 = o2 := by simpa using e2
    exact ⟨g', 0, rfl, by rw [put3_size]; exact l2, fun j x hx => (put3_cell w h a b c _ hg').trans (c2 j x hx)⟩, hv.leo, hv.lea, hv.capo, hv.capa⟩
theorem two_boxesG (w : World) (a b c x y z : Value) : ∀ (w0 : World), w0 = (w.alloc (.cells #[a, b, c] 24)).alloc (.cells #[x, y, z] 34) →
    Below w.heap.size w w0 ∧ Rul3 w0 w.heap.size a b c ∧ Err3 w0 (w.heap.size + 1) x y z := fun w0 hw0 => by
  have h1 : Below w.heap.size w (w.alloc (.cells #[a, b, c] 24)) := (Below.refl _ _).alloc (Nat.le_refl _) _
  have h2 : Below (w.alloc (.cells #[a, b, c] 24)).heap.size (w.alloc (.cells #[a, b, c] 24)) w0 := by rw [hw0]; exact (Below.refl _ _).alloc (Nat.le_refl _) _
  have hs : (w.alloc (.cells #[a, b, c] 24)).heap.size = w.heap.size + 1 := by simp
  have h3 : Err3 w0 (w.alloc (.cells #[a, b, c] 24)).heap.size x y z := by rw [hw0]; exact ⟨heap_newN _ _⟩
  rw [hs] at h3
  exact ⟨h1.trans (h2.mono h1.size), (Rul3.new w a b c).next h2, h3⟩
/-- an Err of one package, laid into the result's cells -/
theorem UnderPost.laid {w wx w2 : World} {h g g' : Nat} {op : ByteArray} {pl a : Int} (hb : Below w.heap.size w wx) (hh : w.heap.size ≤ h) (hlt : h < wx.heap.size) (hg : wx.heap.size ≤ g ∧ g < w2.heap.size ∧ wx.heap.size ≤ g' ∧ g' < w2.heap.size)
    (hc : w2.cell? ⟨g, 0, none⟩ = some (.string op)) (hc' : w2.cell? ⟨g', 0, none⟩ = some (.int .i64 pl)) (hb2 : Below wx.heap.size wx w2) (x y z : Value) :
    UnderPost w a [(op, pl)] (.returned (.agg #[.int .i64 a, .slice (some ⟨g, 0, none⟩) 1 1, .slice (some ⟨g', 0, none⟩) 1 1])) (put3 w2 h x y z) := by
  have hs := hb.size
  exact ⟨g, g', 1, 1, rfl, by omega, by omega, WantV.one (by rw [put3_size]; omega) (by rw [put3_size]; omega) ((put3_cell w2 h x y z _ (by show g ≠ h; omega)).trans hc) ((put3_cell w2 h x y z _ (by show g' ≠ h; omega)).trans hc'), put3_below (hb.trans (hb2.mono hs)) hh _ _ _⟩

set_option maxRecDepth 100000 in
set_option maxHeartbeats 8000000 in
theorem gfault_ref_ok (K R : Nat) (p q : Option Addr) (n c m d : Nat) (t l : List Int) (w : World) (hn : n = t.length) (hm : m = l.length) (h : IntV w.heap.size w p c t) (h' : IntV w.heap.size w q d l) (ho : OkR K R t) (h0 : 0 < l.length) (h4 : l.length ≤ 4096) (hw : okW K l) :
    Calls Tryd.prog 33 #[.agg #[.int .i64 (K : Int), .int .i64 (R : Int), .slice p n c], .slice q m d] w (Tells (.agg #[.int .i64 0, .slice none 0 0, .slice none 0 0]) w) := by
  have ST := Lib.hid (two_boxesG w (.int .i64 (K : Int)) (.int .i64 (R : Int)) (.slice p n c) (.int .i64 0) (.slice none 0 0) (.slice none 0 0))
  have hm0 : 0 < m := by omega
  have hm4 : ¬ 4096 < m := by omega
  have hm0' : ¬ m = 0 := by omega
  have hbn := badN_ok hw
  have HB := Lib.hid (And.intro hbn (And.intro hm h'))
  have H := Lib.hid (And.intro hn (And.intro True.intro (And.intro h (And.intro True.intro ho))))
  clear hn hm h h' ho h0 h4 hw hbn
  go_enter Tryd.func33, Tryd.ntmps33
  go_upto_region 1 with fail
  obtain ⟨w0, hw0⟩ : ∃ w0, w0 = (w.alloc (.cells #[.int .i64 (K : Int), .int .i64 (R : Int), .slice p n c] 24)).alloc (.cells #[.int .i64 0, .slice none 0 0, .slice none 0 0] 34) := ⟨_, rfl⟩
  rw [← hw0]
  obtain ⟨hb0, hR0, hE0⟩ := ST.out w0 hw0
  have hszb : (w.alloc (.cells #[.int .i64 (K : Int), .int .i64 (R : Int), .slice p n c] 24)).heap.size = w.heap.size + 1 := by simp
  obtain ⟨_, hr0, hr1, hr2⟩ := hR0.facts
  have HE := Lib.hid (And.intro hR0 (And.intro hE0 hb0))
  clear hw0 hR0 hE0 hb0
  go_wp2_with fail
  have hck : Calls Tryd.prog 57 #[.agg #[.int .i64 (K : Int), .int .i64 (R : Int), .slice p n c]] w0 (Tells (.agg #[.int .i64 0, .slice none 0 0, .slice none 0 0]) w0) := rcheck_ref_ok K R p n c t w0 H.out.1 (H.out.2.2.1.next HE.out.2.2) H.out.2.2.2.2
  refine hck.mono ?_
  clear hck
  rintro e w1 ⟨rfl, hb1⟩
  clear hr0 hr1 hr2
  go_wp2_with fail
  refine (under_ref_none _ _ w1).mono ?_
  rintro e w2 ⟨rfl, hb2⟩
  go_upto_region 2 with fail
  obtain ⟨w3, hw3⟩ : ∃ x, x = w2.alloc (.cells #[.int .i64 0, .slice none 0 0, .slice none 0 0] 34) := ⟨_, rfl⟩
  obtain ⟨hb3, hE3⟩ := box_err w2 _ _ _ w3 hw3
  rw [← hw3]
  have h03 := (hb1.trans (hb2.mono hb1.size)).trans (hb3.mono (Nat.le_trans hb1.size hb2.size))
  have H3 := Lib.hid (And.intro (HE.out.1.next h03) (And.intro (HE.out.2.1.next h03) (HE.out.2.2.trans (h03.mono HE.out.2.2.size))))
  obtain ⟨_, hk0, hk1, hk2⟩ := hE3.facts
  clear hb1 hb2 hw3 hb3 hE3 h03
  go_wp2_with fail
  refine (badG_no (.slice none 0 0) (.slice none 0 0) w3).mono ?_
  rintro e w4 ⟨rfl, hb4⟩
  have H4 := Lib.hid (And.intro (H3.out.1.next hb4) (And.intro (H3.out.2.1.next hb4) (H3.out.2.2.trans (hb4.mono H3.out.2.2.size))))
  clear hb4 hk0 hk1 hk2
  obtain ⟨_, hr0, hr1, hr2⟩ := H4.out.1.facts
  go_wp2_with fail
  refine (bad_ref (K : Int) q m d l w4 HB.out.2.1 (HB.out.2.2.next H4.out.2.2)).mono ?_
  rintro e w5 ⟨rfl, rfl⟩
  rw [HB.out.1]
  obtain ⟨⟨hf0, hf1, hf2⟩, hc0, hc1, hc2⟩ := H4.out.2.1.facts
  clear hr0 hr1 hr2
  go_wp2_with fail
  refine bodyPost_ret (v := .agg #[.int .i64 0, .slice none 0 0, .slice none 0 0]) (by simp [results, Tryd.results33, go_sem, hc0, hc1, hc2]) rfl ⟨rfl, put3_below H4.out.2.2 (Nat.le_succ _) _ _ _⟩

set_option maxRecDepth 100000 in
set_option maxHeartbeats 16000000 in
theorem gfault_ref_bad (k r : Int) (p q : Option Addr) (n c m d : Nat) (t l : List Int) (w : World) (hn : n = t.length) (hm : m = l.length) (h : IntV w.heap.size w p c t) (h' : IntV w.heap.size w q d l) (L : List (ByteArray × Int)) (M : Nat) (hc : chkG k r t l = some (L, M)) :
    Calls Tryd.prog 33 #[.agg #[.int .i64 k, .int .i64 r, .slice p n c], .slice q m d] w (UnderPost w M L) := by
  unfold chkG at hc
  cases hk : chkR k r t with
  | some i =>
    rw [hk] at hc
    obtain ⟨rfl, rfl⟩ := Prod.mk.inj (Option.some.inj hc)
    have ST := Lib.hid (two_boxesG w (.int .i64 k) (.int .i64 r) (.slice p n c) (.int .i64 0) (.slice none 0 0) (.slice none 0 0))
    have H := Lib.hid (And.intro hn (And.intro h hk))
    clear hn hm h h' hk hc
    go_enter Tryd.func33, Tryd.ntmps33
    go_upto_region 1 with fail
    obtain ⟨w0, hw0⟩ : ∃ w0, w0 = (w.alloc (.cells #[.int .i64 k, .int .i64 r, .slice p n c] 24)).alloc (.cells #[.int .i64 0, .slice none 0 0, .slice none 0 0] 34) := ⟨_, rfl⟩
    rw [← hw0]
    obtain ⟨hb0, hR0, hE0⟩ := ST.out w0 hw0
    have hszb : (w.alloc (.cells #[.int .i64 k, .int .i64 r, .slice p n c] 24)).heap.size = w.heap.size + 1 := by simp
    obtain ⟨_, hr0, hr1, hr2⟩ := hR0.facts
    have HE := Lib.hid (And.intro hR0 (And.intro hE0 hb0))
    clear hw0 hR0 hE0 hb0
    go_wp2_with fail
    refine (rcheck_ref_bad k r p n c t w0 H.out.1 (H.out.2.1.next HE.out.2.2) i H.out.2.2).mono ?_
    rintro e w1 ⟨v, rfl, g, g', rfl, _, hwv, hb1⟩
    clear hr0 hr1 hr2
    have hun := under_ref ringOp 0 1 (some ⟨g, 0, none⟩) (some ⟨g', 0, none⟩) 1 1 1 [(ruleOp, (i : Int))] w1 (by omega) rfl (by omega) (by omega) hwv
    have HUN := Lib.hid hun
    clear hun
    go_wp2_with fail
    refine HUN.out.mono ?_
    rintro e w2 ⟨go, ga, co, ca, rfl, hgo, hga, hw2, hb2⟩
    rw [show ([(ringOp, (0 : Int)), (ruleOp, (i : Int))] : List (ByteArray × Int)).length = 2 from rfl]
    go_upto_region 2 with fail
    obtain ⟨w3, hw3⟩ : ∃ x, x = w2.alloc (.cells #[.int .i64 1, .slice (some ⟨go, 0, none⟩) 2 co, .slice (some ⟨ga, 0, none⟩) 2 ca] 34) := ⟨_, rfl⟩
    obtain ⟨hb3, hE3⟩ := box_err w2 _ _ _ w3 hw3
    rw [← hw3]
    have h03 := (hb1.trans (hb2.mono hb1.size)).trans (hb3.mono (Nat.le_trans hb1.size hb2.size))
    have hlt0 := heap_ltN HE.out.2.1.heap
    have hs1 := hb1.size
    have hs2 := hb2.size
    have H3 := Lib.hid (And.intro (HE.out.2.1.next h03) (And.intro (HE.out.2.2.trans (h03.mono HE.out.2.2.size)) (And.intro (hw2.below hb3) hE3)))
    obtain ⟨_, hk0, hk1, hk2⟩ := hE3.facts
    have hgne : go ≠ w.heap.size + 1 ∧ ga ≠ w.heap.size + 1 ∧ w.heap.size ≤ go ∧ w.heap.size ≤ ga ∧ w2.heap.size ≠ w.heap.size + 1 := by omega
    have HG := Lib.hid hgne
    clear hb1 hb2 hw3 hb3 hE3 h03 hgne hgo hga hw2 hwv HUN hlt0 hs1 hs2
    go_wp2_with fail
    refine (badG_yes 1 (by omega) (.slice (some ⟨go, 0, none⟩) 2 co) (.slice (some ⟨ga, 0, none⟩) 2 ca) w3).mono ?_
    rintro e w4 ⟨rfl, hb4⟩
    obtain ⟨⟨hf0, hf1, hf2⟩, hc0, hc1, hc2⟩ := (H3.out.1.next hb4).facts
    have H4 := Lib.hid (And.intro (H3.out.2.1.trans (hb4.mono H3.out.2.1.size)) (H3.out.2.2.1.below hb4))
    clear hk0 hk1 hk2
    obtain ⟨_, hk0, hk1, hk2⟩ := (H3.out.2.2.2.next hb4).facts
    clear hb4
    go_wp2_with fail
    refine bodyPost_ret (v := .agg #[.int .i64 1, .slice (some ⟨go, 0, none⟩) 2 co, .slice (some ⟨ga, 0, none⟩) 2 ca]) (by simp [results, Tryd.results33, go_sem, hc0, hc1, hc2]) rfl ⟨go, ga, co, ca, rfl, HG.out.2.2.1, HG.out.2.2.2.1, ?_, ?_⟩
    · exact wantV_put3g H4.out.2 HG.out.1 HG.out.2.1 _ _ _
    · exact put3_below H4.out.1 (Nat.le_succ _) _ _ _
  | none =>
    rw [hk] at hc
    obtain ⟨K, R, rfl, rfl, ho⟩ := chkR_none hk
    rw [Int.toNat_natCast] at hc
    obtain ⟨⟨i, M'⟩, hi, hL⟩ := Option.map_eq_some_iff.1 hc
    obtain ⟨rfl, rfl⟩ := Prod.mk.inj hL
    have hmx : m ≤ 9223372036854775807 := by have := h'.le; have := h'.cap; unfold maxLen at this; omega
    have ST := Lib.hid (two_boxesG w (.int .i64 (K : Int)) (.int .i64 (R : Int)) (.slice p n c) (.int .i64 0) (.slice none 0 0) (.slice none 0 0))
    unfold chkRg at hi
    split at hi
    · rename_i hz
      obtain ⟨rfl, rfl⟩ := Prod.mk.inj (Option.some.inj hi)
      obtain rfl : m = 0 := by omega
      have H := Lib.hid (And.intro hn (And.intro True.intro (And.intro h (And.intro True.intro ho))))
      clear hn hm h h' ho hk hc hi hL hz
      go_enter Tryd.func33, Tryd.ntmps33
      go_upto_region 1 with fail
      obtain ⟨w0, hw0⟩ : ∃ w0, w0 = (w.alloc (.cells #[.int .i64 (K : Int), .int .i64 (R : Int), .slice p n c] 24)).alloc (.cells #[.int .i64 0, .slice none 0 0, .slice none 0 0] 34) := ⟨_, rfl⟩
      rw [← hw0]
      obtain ⟨hb0, hR0, hE0⟩ := ST.out w0 hw0
      have hszb : (w.alloc (.cells #[.int .i64 (K : Int), .int .i64 (R : Int), .slice p n c] 24)).heap.size = w.heap.size + 1 := by simp
      obtain ⟨_, hr0, hr1, hr2⟩ := hR0.facts
      have HE := Lib.hid (And.intro hR0 (And.intro hE0 hb0))
      clear hw0 hR0 hE0 hb0
      go_wp2_with fail
      have hck : Calls Tryd.prog 57 #[.agg #[.int .i64 (K : Int), .int .i64 (R : Int), .slice p n c]] w0 (Tells (.agg #[.int .i64 0, .slice none 0 0, .slice none 0 0]) w0) := rcheck_ref_ok K R p n c t w0 H.out.1 (H.out.2.2.1.next HE.out.2.2) H.out.2.2.2.2
      refine hck.mono ?_
      clear hck
      rintro e w1 ⟨rfl, hb1⟩
      clear hr0 hr1 hr2
      go_wp2_with fail
      refine (under_ref_none _ _ w1).mono ?_
      rintro e w2 ⟨rfl, hb2⟩
      go_upto_region 2 with fail
      obtain ⟨w3, hw3⟩ : ∃ x, x = w2.alloc (.cells #[.int .i64 0, .slice none 0 0, .slice none 0 0] 34) := ⟨_, rfl⟩
      obtain ⟨hb3, hE3⟩ := box_err w2 _ _ _ w3 hw3
      rw [← hw3]
      have h03 := (hb1.trans (hb2.mono hb1.size)).trans (hb3.mono (Nat.le_trans hb1.size hb2.size))
      have H3 := Lib.hid (And.intro (HE.out.1.next h03) (And.intro (HE.out.2.1.next h03) (HE.out.2.2.trans (h03.mono HE.out.2.2.size))))
      obtain ⟨_, hk0, hk1, hk2⟩ := hE3.facts
      clear hb1 hb2 hw3 hb3 hE3 h03
      go_wp2_with fail
      refine (badG_no (.slice none 0 0) (.slice none 0 0) w3).mono ?_
      rintro e w4 ⟨rfl, hb4⟩
      have H4 := Lib.hid (And.intro (H3.out.1.next hb4) (And.intro (H3.out.2.1.next hb4) (H3.out.2.2.trans (hb4.mono H3.out.2.2.size))))
      clear hb4 hk0 hk1 hk2
      obtain ⟨_, hr0, hr1, hr2⟩ := H4.out.1.facts
      go_wp2_with fail
      refine (raw_fresh ringOp 0 3 w4).mono ?_
      rintro e w5 ⟨g, g', rfl, hg, hcg, hcg', hb5⟩
      obtain ⟨⟨hf0, hf1, hf2⟩, hc0, hc1, hc2⟩ := (H4.out.2.1.next hb5).facts
      have HB := Lib.hid (UnderPost.laid (a := 3) H4.out.2.2 (Nat.le_succ _) (heap_ltN H4.out.2.1.heap) hg hcg hcg' hb5)
      clear hb5 hcg hcg' hg hr0 hr1 hr2
      go_wp2_with fail
      refine bodyPost_ret (v := .agg #[.int .i64 3, .slice (some ⟨g, 0, none⟩) 1 1, .slice (some ⟨g', 0, none⟩) 1 1]) (by simp [results, Tryd.results33, go_sem, hc0, hc1, hc2]) rfl ?_
      exact HB.out _ _ _
    · rename_i hz
      have hm0 : ¬ m = 0 := by omega
      split at hi
      · rename_i h4
        obtain ⟨rfl, rfl⟩ := Prod.mk.inj (Option.some.inj hi)
        have hm4 : 4096 < m := by omega
        have H := Lib.hid (And.intro hn (And.intro True.intro (And.intro h (And.intro True.intro ho))))
        clear hn hm h h' ho hk hc hi hL hz h4
        go_enter Tryd.func33, Tryd.ntmps33
        go_upto_region 1 with fail
        obtain ⟨w0, hw0⟩ : ∃ w0, w0 = (w.alloc (.cells #[.int .i64 (K : Int), .int .i64 (R : Int), .slice p n c] 24)).alloc (.cells #[.int .i64 0, .slice none 0 0, .slice none 0 0] 34) := ⟨_, rfl⟩
        rw [← hw0]
        obtain ⟨hb0, hR0, hE0⟩ := ST.out w0 hw0
        have hszb : (w.alloc (.cells #[.int .i64 (K : Int), .int .i64 (R : Int), .slice p n c] 24)).heap.size = w.heap.size + 1 := by simp
        obtain ⟨_, hr0, hr1, hr2⟩ := hR0.facts
        have HE := Lib.hid (And.intro hR0 (And.intro hE0 hb0))
        clear hw0 hR0 hE0 hb0
        go_wp2_with fail
        have hck : Calls Tryd.prog 57 #[.agg #[.int .i64 (K : Int), .int .i64 (R : Int), .slice p n c]] w0 (Tells (.agg #[.int .i64 0, .slice none 0 0, .slice none 0 0]) w0) := rcheck_ref_ok K R p n c t w0 H.out.1 (H.out.2.2.1.next HE.out.2.2) H.out.2.2.2.2
        refine hck.mono ?_
        clear hck
        rintro e w1 ⟨rfl, hb1⟩
        clear hr0 hr1 hr2
        go_wp2_with fail
        refine (under_ref_none _ _ w1).mono ?_
        rintro e w2 ⟨rfl, hb2⟩
        go_upto_region 2 with fail
        obtain ⟨w3, hw3⟩ : ∃ x, x = w2.alloc (.cells #[.int .i64 0, .slice none 0 0, .slice none 0 0] 34) := ⟨_, rfl⟩
        obtain ⟨hb3, hE3⟩ := box_err w2 _ _ _ w3 hw3
        rw [← hw3]
        have h03 := (hb1.trans (hb2.mono hb1.size)).trans (hb3.mono (Nat.le_trans hb1.size hb2.size))
        have H3 := Lib.hid (And.intro (HE.out.1.next h03) (And.intro (HE.out.2.1.next h03) (HE.out.2.2.trans (h03.mono HE.out.2.2.size))))
        obtain ⟨_, hk0, hk1, hk2⟩ := hE3.facts
        clear hb1 hb2 hw3 hb3 hE3 h03
        go_wp2_with fail
        refine (badG_no (.slice none 0 0) (.slice none 0 0) w3).mono ?_
        rintro e w4 ⟨rfl, hb4⟩
        have H4 := Lib.hid (And.intro (H3.out.1.next hb4) (And.intro (H3.out.2.1.next hb4) (H3.out.2.2.trans (hb4.mono H3.out.2.2.size))))
        clear hb4 hk0 hk1 hk2
        obtain ⟨_, hr0, hr1, hr2⟩ := H4.out.1.facts
        go_wp2_with fail
        refine (raw_fresh ringOp 0 4 w4).mono ?_
        rintro e w5 ⟨g, g', rfl, hg, hcg, hcg', hb5⟩
        obtain ⟨⟨hf0, hf1, hf2⟩, hc0, hc1, hc2⟩ := (H4.out.2.1.next hb5).facts
        have HB := Lib.hid (UnderPost.laid (a := 4) H4.out.2.2 (Nat.le_succ _) (heap_ltN H4.out.2.1.heap) hg hcg hcg' hb5)
        clear hb5 hcg hcg' hg hr0 hr1 hr2
        go_wp2_with fail
        refine bodyPost_ret (v := .agg #[.int .i64 4, .slice (some ⟨g, 0, none⟩) 1 1, .slice (some ⟨g', 0, none⟩) 1 1]) (by simp [results, Tryd.results33, go_sem, hc0, hc1, hc2]) rfl ?_
        exact HB.out _ _ _
      · rename_i h4
        have hm4 : ¬ 4096 < m := by omega
        obtain ⟨j, hj, he⟩ := Option.map_eq_some_iff.1 hi
        obtain ⟨rfl, rfl⟩ := Prod.mk.inj he
        have hbn := badN_bad hj
        have HB2 := Lib.hid (And.intro hbn (And.intro hm h'))
        have H := Lib.hid (And.intro hn (And.intro True.intro (And.intro h (And.intro True.intro ho))))
        clear hn hm h h' ho hk hc hi hL hz h4 hj he hbn
        go_enter Tryd.func33, Tryd.ntmps33
        go_upto_region 1 with fail
        obtain ⟨w0, hw0⟩ : ∃ w0, w0 = (w.alloc (.cells #[.int .i64 (K : Int), .int .i64 (R : Int), .slice p n c] 24)).alloc (.cells #[.int .i64 0, .slice none 0 0, .slice none 0 0] 34) := ⟨_, rfl⟩
        rw [← hw0]
        obtain ⟨hb0, hR0, hE0⟩ := ST.out w0 hw0
        have hszb : (w.alloc (.cells #[.int .i64 (K : Int), .int .i64 (R : Int), .slice p n c] 24)).heap.size = w.heap.size + 1 := by simp
        obtain ⟨_, hr0, hr1, hr2⟩ := hR0.facts
        have HE := Lib.hid (And.intro hR0 (And.intro hE0 hb0))
        clear hw0 hR0 hE0 hb0
        go_wp2_with fail
        have hck : Calls Tryd.prog 57 #[.agg #[.int .i64 (K : Int), .int .i64 (R : Int), .slice p n c]] w0 (Tells (.agg #[.int .i64 0, .slice none 0 0, .slice none 0 0]) w0) := rcheck_ref_ok K R p n c t w0 H.out.1 (H.out.2.2.1.next HE.out.2.2) H.out.2.2.2.2
        refine hck.mono ?_
        clear hck
        rintro e w1 ⟨rfl, hb1⟩
        clear hr0 hr1 hr2
        go_wp2_with fail
        refine (under_ref_none _ _ w1).mono ?_
        rintro e w2 ⟨rfl, hb2⟩
        go_upto_region 2 with fail
        obtain ⟨w3, hw3⟩ : ∃ x, x = w2.alloc (.cells #[.int .i64 0, .slice none 0 0, .slice none 0 0] 34) := ⟨_, rfl⟩
        obtain ⟨hb3, hE3⟩ := box_err w2 _ _ _ w3 hw3
        rw [← hw3]
        have h03 := (hb1.trans (hb2.mono hb1.size)).trans (hb3.mono (Nat.le_trans hb1.size hb2.size))
        have H3 := Lib.hid (And.intro (HE.out.1.next h03) (And.intro (HE.out.2.1.next h03) (HE.out.2.2.trans (h03.mono HE.out.2.2.size))))
        obtain ⟨_, hk0, hk1, hk2⟩ := hE3.facts
        clear hb1 hb2 hw3 hb3 hE3 h03
        go_wp2_with fail
        refine (badG_no (.slice none 0 0) (.slice none 0 0) w3).mono ?_
        rintro e w4 ⟨rfl, hb4⟩
        have H4 := Lib.hid (And.intro (H3.out.1.next hb4) (And.intro (H3.out.2.1.next hb4) (H3.out.2.2.trans (hb4.mono H3.out.2.2.size))))
        clear hb4 hk0 hk1 hk2
        obtain ⟨_, hr0, hr1, hr2⟩ := H4.out.1.facts
        go_wp2_with fail
        refine (bad_ref (K : Int) q m d l w4 HB2.out.2.1 (HB2.out.2.2.next H4.out.2.2)).mono ?_
        rintro e w5 ⟨rfl, rfl⟩
        rw [HB2.out.1]
        go_wp2_with fail
        refine (raw_fresh ringOp j 2 w4).mono ?_
        rintro e w5 ⟨g, g', rfl, hg, hcg, hcg', hb5⟩
        obtain ⟨⟨hf0, hf1, hf2⟩, hc0, hc1, hc2⟩ := (H4.out.2.1.next hb5).facts
        have HB := Lib.hid (UnderPost.laid (a := 2) H4.out.2.2 (Nat.le_succ _) (heap_ltN H4.out.2.1.heap) hg hcg hcg' hb5)
        clear hb5 hcg hcg' hg hr0 hr1 hr2
        go_wp2_with fail
        refine bodyPost_ret (v := .agg #[.int .i64 2, .slice (some ⟨g, 0, none⟩) 1 1, .slice (some ⟨g', 0, none⟩) 1 1]) (by simp [results, Tryd.results33, go_sem, hc0, hc1, hc2]) rfl ?_
        exact HB.out _ _ _
end Go.Proofs.YtgdjnohhofbcnaaDoor
