/- The document's own package of rings by its contracts, seventh part: Orbit. -/
import Derived.Test.YtgdjnohhofbcnaaDoorBRgR
import Derived.Test.YtgdjnohhofbcnaaDoorBRingF
import Derived.Test.YtgdjnohhofbcnaaDoorB3
namespace Go.Proofs.YtgdjnohhofbcnaaDoor
open Go.RowKit Go.Extern.Stop Go.Stop Go.Extern WordM RuleM NatM

/-- the faults of an orbit -/
def chkO (k r : Int) (t l : List Int) : Option (List (ByteArray × Int) × Nat) := match chkG k r t l with
  | some y => some y
  | none => if 64 < l.length then some ([(ringOp, 0)], 4) else none
theorem chkO_num {k r : Int} {t l : List Int} : ∀ y, chkO k r t l = some y → 1 ≤ y.2 ∧ y.2 ≤ 11 := fun y h => by
  unfold chkO at h
  cases hk : chkG k r t l with
  | some x => rw [hk] at h; obtain rfl := Option.some.inj h; exact chkG_num _ hk
  | none =>
    rw [hk] at h
    simp only at h
    split at h
    · obtain rfl := Option.some.inj h; simp
    · cases h
/-- the error, behind two noughts -/
def GUnd3 (w : World) (a : Int) (L : List (ByteArray × Int)) (e : Ending) (w' : World) : Prop :=
  ∃ go ga co ca, e = .returned (.tuple #[.int .i64 0, .int .i64 0, .agg #[.int .i64 a, .slice (some ⟨go, 0, none⟩) L.length co, .slice (some ⟨ga, 0, none⟩) L.length ca]]) ∧ WantV w' (some ⟨go, 0, none⟩) (some ⟨ga, 0, none⟩) co ca L ∧ Below w.heap.size w w'
theorem GUnd3.laid {w wx w2 : World} {h g g' : Nat} {op : ByteArray} {pl a : Int} (hb : Below w.heap.size w wx) (hh : w.heap.size ≤ h) (hlt : h < wx.heap.size) (hg : wx.heap.size ≤ g ∧ g < w2.heap.size ∧ wx.heap.size ≤ g' ∧ g' < w2.heap.size)
    (hc : w2.cell? ⟨g, 0, none⟩ = some (.string op)) (hc' : w2.cell? ⟨g', 0, none⟩ = some (.int .i64 pl)) (hb2 : Below wx.heap.size wx w2) (x y z : Value) :
    GUnd3 w a [(op, pl)] (.returned (.tuple #[.int .i64 0, .int .i64 0, .agg #[.int .i64 a, .slice (some ⟨g, 0, none⟩) 1 1, .slice (some ⟨g', 0, none⟩) 1 1]])) (put3 w2 h x y z) := by
  obtain ⟨go, ga, co, ca, he, _, _, hw, hb3⟩ := UnderPost.laid (a := a) hb hh hlt hg hc hc' hb2 x y z
  have h1 := Ending.returned.inj he
  have h2 := (Value.agg.inj h1)
  refine ⟨go, ga, co, ca, ?_, hw, hb3⟩
  rw [show Value.agg #[.int .i64 a, .slice (some ⟨g, 0, none⟩) 1 1, .slice (some ⟨g', 0, none⟩) 1 1] = _ from h1]
set_option maxRecDepth 100000 in
set_option maxHeartbeats 16000000 in
theorem gorbit_ref_bad (k r : Int) (p q : Option Addr) (n c m d : Nat) (t l : List Int) (w : World) (hn : n = t.length) (hm : m = l.length) (h : IntV w.heap.size w p c t) (h' : IntV w.heap.size w q d l) (L : List (ByteArray × Int)) (M : Nat) (hc : chkO k r t l = some (L, M)) :
    Calls Tryd.prog 23 #[.agg #[.int .i64 k, .int .i64 r, .slice p n c], .slice q m d] w (GUnd3 w M L) := by
  have hM0 : (M : Int) ≠ 0 := by have := chkO_num _ hc; simp only at this; omega
  unfold chkO at hc
  cases hk : chkG k r t l with
  | some x =>
    rw [hk] at hc
    obtain rfl := Option.some.inj hc
    have ST := Lib.hid (two_boxesG w (.int .i64 k) (.int .i64 r) (.slice p n c) (.int .i64 0) (.slice none 0 0) (.slice none 0 0))
    have H := Lib.hid (And.intro hn (And.intro hm (And.intro h (And.intro h' hk))))
    clear hn hm h h' hk hc
    go_enter Tryd.func23, Tryd.ntmps23
    go_upto_region 1 with fail
    obtain ⟨w0, hw0⟩ : ∃ w0, w0 = (w.alloc (.cells #[.int .i64 k, .int .i64 r, .slice p n c] 24)).alloc (.cells #[.int .i64 0, .slice none 0 0, .slice none 0 0] 34) := ⟨_, rfl⟩
    rw [← hw0]
    obtain ⟨hb0, hR0, hE0⟩ := ST.out w0 hw0
    have hszb : (w.alloc (.cells #[.int .i64 k, .int .i64 r, .slice p n c] 24)).heap.size = w.heap.size + 1 := by simp
    obtain ⟨_, hr0, hr1, hr2⟩ := hR0.facts
    have HE := Lib.hid (And.intro hR0 (And.intro hE0 hb0))
    clear hw0 hR0 hE0 hb0
    go_wp2_with fail
    refine (gfault_ref_bad k r p q n c m d t l w0 H.out.1 H.out.2.1 (H.out.2.2.1.next HE.out.2.2) (H.out.2.2.2.1.next HE.out.2.2) L M H.out.2.2.2.2).mono ?_
    rintro e w1 ⟨go, ga, co, ca, rfl, hgo, hga, hw1, hb1⟩
    obtain ⟨nL, hnL⟩ : ∃ x, L.length = x := ⟨_, rfl⟩
    rw [hnL]
    clear hr0 hr1 hr2
    go_upto_region 2 with fail
    obtain ⟨w3, hw3⟩ : ∃ x, x = w1.alloc (.cells #[.int .i64 (M : Int), .slice (some ⟨go, 0, none⟩) nL co, .slice (some ⟨ga, 0, none⟩) nL ca] 34) := ⟨_, rfl⟩
    obtain ⟨hb3, hE3⟩ := box_err w1 _ _ _ w3 hw3
    rw [← hw3]
    have h03 := hb1.trans (hb3.mono hb1.size)
    have hlt0 := heap_ltN HE.out.2.1.heap
    have hs1 := hb1.size
    have H3 := Lib.hid (And.intro (HE.out.2.1.next h03) (And.intro (HE.out.2.2.trans (h03.mono HE.out.2.2.size)) (And.intro (hw1.below hb3) (And.intro hE3 hnL))))
    obtain ⟨_, hk0, hk1, hk2⟩ := hE3.facts
    have HG := Lib.hid (show go ≠ w.heap.size + 1 ∧ ga ≠ w.heap.size + 1 ∧ w.heap.size ≤ go ∧ w.heap.size ≤ ga by omega)
    have hne : w1.heap.size ≠ w.heap.size + 1 := by omega
    clear hb1 hw3 hb3 hE3 h03 hgo hga hw1 hnL hlt0 hs1
    go_wp2_with fail
    refine (badG_yes (M : Int) hM0 (.slice (some ⟨go, 0, none⟩) nL co) (.slice (some ⟨ga, 0, none⟩) nL ca) w3).mono ?_
    rintro e w4 ⟨rfl, hb4⟩
    obtain ⟨⟨hf0, hf1, hf2⟩, hc0, hc1, hc2⟩ := (H3.out.1.next hb4).facts
    have H4 := Lib.hid (And.intro (H3.out.2.1.trans (hb4.mono H3.out.2.1.size)) (H3.out.2.2.1.below hb4))
    clear hk0 hk1 hk2
    obtain ⟨_, hk0, hk1, hk2⟩ := (H3.out.2.2.2.1.next hb4).facts
    clear hb4
    go_wp2_with fail
    go_region
    go_wp2_with fail
    refine bodyPost_ret (v := .tuple #[.int .i64 0, .int .i64 0, .agg #[.int .i64 (M : Int), .slice (some ⟨go, 0, none⟩) nL co, .slice (some ⟨ga, 0, none⟩) nL ca]]) (by simp [results, Tryd.results23, go_sem, hc0, hc1, hc2]) rfl ⟨go, ga, co, ca, by rw [H3.out.2.2.2.2], ?_, ?_⟩
    · exact (wantV_put3g H4.out.2 HG.out.1 HG.out.2.1 _ _ _).below (Below.refl _ _).drew
    · exact (put3_below H4.out.1 (Nat.le_succ _) _ _ _).drew
  | none =>
    rw [hk] at hc
    simp only at hc
    obtain ⟨K, R, rfl, rfl, ho, h0, h4, hw⟩ := chkG_none hk
    split at hc
    · rename_i h64
      obtain ⟨rfl, rfl⟩ := Prod.mk.inj (Option.some.inj hc)
      have hm64 : 64 < m := by omega
      have ST := Lib.hid (two_boxesG w (.int .i64 (K : Int)) (.int .i64 (R : Int)) (.slice p n c) (.int .i64 0) (.slice none 0 0) (.slice none 0 0))
      have H := Lib.hid (And.intro hn (And.intro hm (And.intro h (And.intro h' (And.intro ho (And.intro h0 (And.intro h4 hw)))))))
      clear hn hm h h' ho h0 h4 hw hk hc hM0 h64
      go_enter Tryd.func23, Tryd.ntmps23
      go_upto_region 1 with fail
      obtain ⟨w0, hw0⟩ : ∃ w0, w0 = (w.alloc (.cells #[.int .i64 (K : Int), .int .i64 (R : Int), .slice p n c] 24)).alloc (.cells #[.int .i64 0, .slice none 0 0, .slice none 0 0] 34) := ⟨_, rfl⟩
      rw [← hw0]
      obtain ⟨hb0, hR0, hE0⟩ := ST.out w0 hw0
      have hszb : (w.alloc (.cells #[.int .i64 (K : Int), .int .i64 (R : Int), .slice p n c] 24)).heap.size = w.heap.size + 1 := by simp
      obtain ⟨_, hr0, hr1, hr2⟩ := hR0.facts
      have HE := Lib.hid (And.intro hR0 (And.intro hE0 hb0))
      clear hw0 hR0 hE0 hb0
      go_wp2_with fail
      refine (gfault_ref_ok K R p q n c m d t l w0 H.out.1 H.out.2.1 (H.out.2.2.1.next HE.out.2.2) (H.out.2.2.2.1.next HE.out.2.2) H.out.2.2.2.2.1 H.out.2.2.2.2.2.1 H.out.2.2.2.2.2.2.1 H.out.2.2.2.2.2.2.2).mono ?_
      rintro e w1 ⟨rfl, hb1⟩
      clear hr0 hr1 hr2
      go_upto_region 2 with fail
      obtain ⟨w3, hw3⟩ : ∃ x, x = w1.alloc (.cells #[.int .i64 0, .slice none 0 0, .slice none 0 0] 34) := ⟨_, rfl⟩
      obtain ⟨hb3, hE3⟩ := box_err w1 _ _ _ w3 hw3
      rw [← hw3]
      have h03 := hb1.trans (hb3.mono hb1.size)
      have H3 := Lib.hid (And.intro (HE.out.1.next h03) (And.intro (HE.out.2.1.next h03) (HE.out.2.2.trans (h03.mono HE.out.2.2.size))))
      obtain ⟨_, hk0, hk1, hk2⟩ := hE3.facts
      clear hb1 hw3 hb3 hE3 h03
      go_wp2_with fail
      refine (badG_no (.slice none 0 0) (.slice none 0 0) w3).mono ?_
      rintro e w4 ⟨rfl, hb4⟩
      have H4 := Lib.hid (And.intro (H3.out.1.next hb4) (And.intro (H3.out.2.1.next hb4) (H3.out.2.2.trans (hb4.mono H3.out.2.2.size))))
      have hlt4 := heap_ltN (H3.out.2.1.next hb4).heap
      clear hb4 hk0 hk1 hk2
      obtain ⟨_, hr0, hr1, hr2⟩ := H4.out.1.facts
      clear hr0 hr1 hr2 hlt4
      go_wp2_with fail
      refine (raw_fresh ringOp 0 4 w4).mono ?_
      rintro e wn ⟨g, g', rfl, hg, hcg, hcg', hbn⟩
      obtain ⟨⟨hf0, hf1, hf2⟩, hc0, hc1, hc2⟩ := (H4.out.2.1.next hbn).facts
      have HB := Lib.hid (GUnd3.laid (a := 4) H4.out.2.2 (Nat.le_succ _) (heap_ltN H4.out.2.1.heap) hg hcg hcg' hbn)
      clear hbn hcg hcg' hg
      go_wp2_with fail
      refine bodyPost_ret (v := .tuple #[.int .i64 0, .int .i64 0, .agg #[.int .i64 4, .slice (some ⟨g, 0, none⟩) 1 1, .slice (some ⟨g', 0, none⟩) 1 1]]) (by simp [results, Tryd.results23, go_sem, hc0, hc1, hc2]) rfl ?_
      exact HB.out _ _ _
    · cases hc
/-- the way into a cycle and its length, or too much: the document's -/
def RefOrb (w : World) (K R : Nat) (t l : List Int) (e : Ending) (w' : World) : Prop :=
  (∃ m p : Nat, IsOrb K R t l m p ∧ m + p ≤ 4096 ∧ e = .returned (.tuple #[.int .i64 (m : Int), .int .i64 (p : Int), noErr]) ∧ Below w.heap.size w w') ∨
  ((∀ i j, i < j → j ≤ 4096 → stepsW K R t i l ≠ stepsW K R t j l) ∧ GUnd3 w 4 [(ringOp, 1)] e w')
/-- two lists that lie in memory -/
def TwoL (wr : World) (m : Nat) (v8 v9 : Value) (X Y : List Int) : Prop :=
  ∃ p8 c8 p9 c9, v8 = .slice p8 m c8 ∧ v9 = .slice p9 m c9 ∧ IntV wr.heap.size wr p8 c8 X ∧ IntV wr.heap.size wr p9 c9 Y
def Or1 (w4 : World) (K R m : Nat) (t l : List Int) (v8 v9 v10 : Value) (wr : World) : Prop :=
  ∃ n : Nat, 1 ≤ n ∧ n ≤ 4097 ∧ v10 = .int .i64 (n : Int) ∧ TwoL wr m v8 v9 (stepsW K R t n l) (stepsW K R t (n + n) l) ∧ (∀ i, 1 ≤ i → i < n → stepsW K R t i l ≠ stepsW K R t (i + i) l) ∧ Below w4.heap.size w4 wr
def Or2 (w4 : World) (K R m N : Nat) (t l : List Int) (v8 v9 v11 : Value) (wr : World) : Prop :=
  ∃ i : Nat, i ≤ N ∧ v11 = .int .i64 (i : Int) ∧ TwoL wr m v8 v9 (stepsW K R t i l) (stepsW K R t (i + N) l) ∧ (∀ j, j < i → stepsW K R t j l ≠ stepsW K R t (j + N) l) ∧ Below w4.heap.size w4 wr
def Or3 (w4 : World) (K R m N M : Nat) (t l : List Int) (p8 : Option Addr) (c8 : Nat) (v9 v12 : Value) (wr : World) : Prop :=
  ∃ i : Nat, 1 ≤ i ∧ i ≤ N ∧ v12 = .int .i64 (i : Int) ∧ TwoL wr m (.slice p8 m c8) v9 (stepsW K R t M l) (stepsW K R t (M + i) l) ∧ (∀ j, 1 ≤ j → j < i → stepsW K R t M l ≠ stepsW K R t (M + j) l) ∧ Below w4.heap.size w4 wr
set_option maxRecDepth 100000 in
set_option maxHeartbeats 32000000 in
theorem gorbit_ref_ok (K R : Nat) (p q : Option Addr) (n c m d : Nat) (t l : List Int) (w : World) (hn : n = t.length) (hm : m = l.length) (h : IntV w.heap.size w p c t) (h' : IntV w.heap.size w q d l) (ho : OkR K R t) (h0 : 0 < l.length) (h64 : l.length ≤ 64) (hw : okW K l) :
    Calls Tryd.prog 23 #[.agg #[.int .i64 (K : Int), .int .i64 (R : Int), .slice p n c], .slice q m d] w (RefOrb w K R t l) := by
  have ST := Lib.hid (two_boxesG w (.int .i64 (K : Int)) (.int .i64 (R : Int)) (.slice p n c) (.int .i64 0) (.slice none 0 0) (.slice none 0 0))
  have hm0 : 0 < m := by omega
  have hm64 : m ≤ 64 := by omega
  have hsl : ∀ i, (stepsW K R t i l).length = m := fun i => by rw [stepsW_length]; exact hm.symm
  have hso : ∀ i, okW K (stepsW K R t i l) := fun i => stepsW_ok ho i l h0 hw
  have cI : ∀ W p' c' i, Below w.heap.size w W → IntV W.heap.size W p' c' (stepsW K R t i l) → Calls Tryd.prog 35 #[.agg #[.int .i64 (K : Int), .int .i64 (R : Int), .slice p n c], .slice p' m c'] W fun e w' => ∃ pa ca, e = .returned (.slice pa m ca) ∧ IntO W.heap.size w' pa ca (stepsW K R t (i + 1) l) ∧ Below W.heap.size W w' := fun W p' c' i hW hv =>
    (gimage_ref K R p p' n c m c' t (stepsW K R t i l) W hn (hsl i).symm (h.next hW) hv ho hm0 (by omega) (hso i)).mono fun e w' ⟨pa, ca, he, ho', hb⟩ => ⟨pa, ca, by rw [he, ringW_length, hsl], by rw [stepsW_succ]; exact ho', hb⟩
  have cE : ∀ W p8 c8 p9 c9 i j, IntV W.heap.size W p8 c8 (stepsW K R t i l) → IntV W.heap.size W p9 c9 (stepsW K R t j l) → Calls Tryd.prog 18 #[.slice p8 m c8, .slice p9 m c9] W (Tells (.bool (sameI (stepsW K R t i l) (stepsW K R t j l))) W) := fun W p8 c8 p9 c9 i j hv hv' => ints_any p8 p9 m m c8 c9 _ _ W (hsl i).symm (hsl j).symm hv hv'
  have cC : ∀ W, IntV W.heap.size W q d l → Calls Tryd.prog 27 #[.slice q m d] W fun e w' => ∃ pa ca, e = .returned (.slice pa m ca) ∧ IntO W.heap.size w' pa ca l ∧ Below W.heap.size W w' := fun W hv => by
    have h1 := copyI_any q m d l W hm hv (by omega)
    unfold CopyPostI at h1
    rw [← hm] at h1
    exact h1
  have C := Lib.hid (And.intro cI (And.intro cE cC))
  have H := Lib.hid (And.intro hn (And.intro hm (And.intro h (And.intro h' (And.intro ho (And.intro h0 (And.intro (show l.length ≤ 4096 by omega) hw)))))))
  clear hn hm h h' ho h0 h64 hw hsl hso cI cE cC
  go_enter Tryd.func23, Tryd.ntmps23
  go_upto_region 1 with fail
  obtain ⟨w0, hw0⟩ : ∃ w0, w0 = (w.alloc (.cells #[.int .i64 (K : Int), .int .i64 (R : Int), .slice p n c] 24)).alloc (.cells #[.int .i64 0, .slice none 0 0, .slice none 0 0] 34) := ⟨_, rfl⟩
  rw [← hw0]
  obtain ⟨hb0, hR0, hE0⟩ := ST.out w0 hw0
  have hszb : (w.alloc (.cells #[.int .i64 (K : Int), .int .i64 (R : Int), .slice p n c] 24)).heap.size = w.heap.size + 1 := by simp
  obtain ⟨_, hr0, hr1, hr2⟩ := hR0.facts
  have HE := Lib.hid (And.intro hR0 (And.intro hE0 hb0))
  clear hw0 hR0 hE0 hb0
  go_wp2_with fail
  refine (gfault_ref_ok K R p q n c m d t l w0 H.out.1 H.out.2.1 (H.out.2.2.1.next HE.out.2.2) (H.out.2.2.2.1.next HE.out.2.2) H.out.2.2.2.2.1 H.out.2.2.2.2.2.1 H.out.2.2.2.2.2.2.1 H.out.2.2.2.2.2.2.2).mono ?_
  rintro e w1 ⟨rfl, hb1⟩
  clear hr0 hr1 hr2
  go_upto_region 2 with fail
  obtain ⟨w3, hw3⟩ : ∃ x, x = w1.alloc (.cells #[.int .i64 0, .slice none 0 0, .slice none 0 0] 34) := ⟨_, rfl⟩
  obtain ⟨hb3, hE3⟩ := box_err w1 _ _ _ w3 hw3
  rw [← hw3]
  have h03 := hb1.trans (hb3.mono hb1.size)
  have H3 := Lib.hid (And.intro (HE.out.1.next h03) (And.intro (HE.out.2.1.next h03) (HE.out.2.2.trans (h03.mono HE.out.2.2.size))))
  obtain ⟨_, hk0, hk1, hk2⟩ := hE3.facts
  clear hb1 hw3 hb3 hE3 h03
  go_wp2_with fail
  refine (badG_no (.slice none 0 0) (.slice none 0 0) w3).mono ?_
  rintro e w4 ⟨rfl, hb4⟩
  have H4 := Lib.hid (And.intro (H3.out.1.next hb4) (And.intro (H3.out.2.1.next hb4) (H3.out.2.2.trans (hb4.mono H3.out.2.2.size))))
  have hlt4 := heap_ltN (H3.out.2.1.next hb4).heap
  clear hb4 hk0 hk1 hk2
  obtain ⟨_, hr0, hr1, hr2⟩ := H4.out.1.facts
  go_wp2_with fail
  refine (C.out.1 w4 q d 0 H4.out.2.2 (H.out.2.2.2.1.next H4.out.2.2)).mono ?_
  rintro e w5 ⟨p8, c8, rfl, ho5, hb5⟩
  have H5 := Lib.hid (And.intro ho5.toV hb5)
  clear ho5 hb5 hr0 hr1 hr2
  obtain ⟨_, hr0, hr1, hr2⟩ := (H4.out.1.next H5.out.2).facts
  go_wp2_with fail
  refine (C.out.1 w5 p8 c8 1 (H4.out.2.2.trans (H5.out.2.mono H4.out.2.2.size)) H5.out.1).mono ?_
  rintro e w6 ⟨p9, c9, rfl, ho6, hb6⟩
  have H6 := Lib.hid (And.intro ho6.toV (And.intro (H5.out.2.trans (hb6.mono H5.out.2.size)) (H5.out.1.next hb6)))
  clear ho6 hb6 hr0 hr1 hr2
  go_wp2_with fail
  go_loopw [8, 9, 10] (fun v8 v9 v10 wr => Or1 w4 K R m t l v8 v9 v10 wr) (fun _ _ v _ => 4098 - (intOf v).toNat)
  case atStart => exact ⟨1, Nat.le_refl _, by omega, rfl, ⟨_, _, _, _, rfl, rfl, H6.out.2.2, H6.out.1⟩, fun i h1 h2 => absurd h1 (by omega), H6.out.2.1⟩
  case round =>
    obtain ⟨n1, hn1, hn2, rfl, ⟨p8, c8, p9, c9, rfl, rfl, hv8, hv9⟩, hne, hb⟩ := hrel
    have HR := Lib.hid (And.intro hv8 (And.intro hv9 (And.intro hne hb)))
    clear hv8 hv9 hne hb
    have hce := C.out.2.1 wr p8 c8 p9 c9 n1 (n1 + n1) HR.out.1 HR.out.2.1
    by_cases heq : stepsW K R t n1 l = stepsW K R t (n1 + n1) l
    · rw [sameI_eq heq] at hce
      have HCE := Lib.hid (And.intro hce heq)
      clear hce heq
      go_wp2_with fail
      refine HCE.out.1.mono ?_
      rintro e w7 ⟨rfl, hb7⟩
      have H7 := Lib.hid (And.intro (HR.out.2.1.next hb7) (HR.out.2.2.2.trans (hb7.mono HR.out.2.2.2.size)))
      clear hb7
      go_wp2_with fail
      refine (C.out.2.2 w7 (H.out.2.2.2.1.next (H4.out.2.2.trans (H7.out.2.mono H4.out.2.2.size)))).mono ?_
      rintro e w8 ⟨pz, cz, rfl, ho8, hb8⟩
      have H8 := Lib.hid (And.intro ho8.toV (And.intro (H7.out.1.next hb8) (H7.out.2.trans (hb8.mono H7.out.2.size))))
      clear ho8 hb8
      go_wp2_with fail
      go_loopw [8, 9, 11] (fun v8 v9 v11 wr => Or2 w4 K R m n1 t l v8 v9 v11 wr) (fun _ _ v _ => n1 - (intOf v).toNat)
      case atStart => exact ⟨0, Nat.zero_le _, rfl, ⟨_, _, _, _, rfl, rfl, H8.out.1, by rw [Nat.zero_add, HCE.out.2]; exact H8.out.2.1⟩, fun j hj => absurd hj (Nat.not_lt_zero _), H8.out.2.2⟩
      case round =>
        obtain ⟨i, hi, rfl, ⟨p8, c8, p9, c9, rfl, rfl, hv8, hv9⟩, hne, hb⟩ := hrel
        have HS := Lib.hid (And.intro hv8 (And.intro hv9 (And.intro hne hb)))
        clear hv8 hv9 hne hb
        have hce := C.out.2.1 wr p8 c8 p9 c9 i (i + n1) HS.out.1 HS.out.2.1
        by_cases heq2 : stepsW K R t i l = stepsW K R t (i + n1) l
        · rw [sameI_eq heq2] at hce
          have HC2 := Lib.hid (And.intro hce heq2)
          clear hce heq2
          go_wp2_with fail
          refine HC2.out.1.mono ?_
          rintro e x1 ⟨rfl, hbx⟩
          have X1 := Lib.hid (And.intro (HS.out.1.next hbx) (HS.out.2.2.2.trans (hbx.mono HS.out.2.2.2.size)))
          clear hbx
          obtain ⟨_, hr0, hr1, hr2⟩ := (H4.out.1.next X1.out.2).facts
          go_wp2_with fail
          refine (C.out.1 x1 p8 c8 i (H4.out.2.2.trans (X1.out.2.mono H4.out.2.2.size)) X1.out.1).mono ?_
          rintro e x2 ⟨pf, cf, rfl, hof, hbx⟩
          have X2 := Lib.hid (And.intro (X1.out.1.next hbx) (And.intro hof.toV (X1.out.2.trans (hbx.mono X1.out.2.size))))
          clear hof hbx hr0 hr1 hr2
          go_wp2_with fail
          go_loopw [9, 12] (fun v9 v12 wr => Or3 w4 K R m n1 i t l p8 c8 v9 v12 wr) (fun _ v _ => n1 - (intOf v).toNat)
          case atStart => exact ⟨1, Nat.le_refl _, hn1, rfl, ⟨_, _, _, _, rfl, rfl, X2.out.1, X2.out.2.1⟩, fun j h1 h2 => absurd h1 (by omega), X2.out.2.2⟩
          case round =>
            obtain ⟨y, hy1, hy2, rfl, ⟨pA, cA, pB, cB, hAe, rfl, hvA, hvB⟩, hne3, hb3⟩ := hrel
            obtain ⟨rfl, rfl⟩ : p8 = pA ∧ c8 = cA := by simpa using hAe
            have HY := Lib.hid (And.intro hvA (And.intro hvB (And.intro hne3 hb3)))
            clear hvA hvB hne3 hb3 hAe
            have hce := C.out.2.1 wr p8 c8 pB cB i (i + y) HY.out.1 HY.out.2.1
            by_cases heq3 : stepsW K R t i l = stepsW K R t (i + y) l
            · rw [sameI_eq heq3] at hce
              have HC3 := Lib.hid (And.intro hce (floyd_orb HC2.out.2 HS.out.2.2.1 hy1 heq3 HY.out.2.2.1))
              clear hce heq3
              by_cases hbig : 4096 < i + y
              · go_wp2_with fail
                refine HC3.out.1.mono ?_
                rintro e x4 ⟨rfl, hbx⟩
                have X4 := Lib.hid (HY.out.2.2.2.trans (hbx.mono HY.out.2.2.2.size))
                have X5 := Lib.hid (And.intro (H4.out.1.next X4.out) (And.intro (H4.out.2.1.next X4.out) (H4.out.2.2.trans (X4.out.mono H4.out.2.2.size))))
                clear hbx
                go_wp2_with fail
                refine (raw_fresh ringOp 1 4 x4).mono ?_
                rintro e wn ⟨g, g', rfl, hg, hcg, hcg', hbn⟩
                obtain ⟨⟨hf0, hf1, hf2⟩, hc0, hc1, hc2⟩ := (X5.out.2.1.next hbn).facts
                have HB := Lib.hid (GUnd3.laid (a := 4) X5.out.2.2 (Nat.le_succ _) (heap_ltN X5.out.2.1.heap) hg hcg hcg' hbn)
                clear hbn hcg hcg' hg
                go_wp2_with fail
                refine bodyPost_ret (v := .tuple #[.int .i64 0, .int .i64 0, .agg #[.int .i64 4, .slice (some ⟨g, 0, none⟩) 1 1, .slice (some ⟨g', 0, none⟩) 1 1]]) (by simp [results, Tryd.results23, go_sem, hc0, hc1, hc2]) rfl (Or.inr ⟨fun a b hab hb4 => HC3.out.2.apart a b hab (by omega), ?_⟩)
                exact HB.out _ _ _
              · go_wp2_with fail
                refine HC3.out.1.mono ?_
                rintro e x4 ⟨rfl, hbx⟩
                have X4 := Lib.hid (HY.out.2.2.2.trans (hbx.mono HY.out.2.2.2.size))
                obtain ⟨⟨hf0, hf1, hf2⟩, hc0, hc1, hc2⟩ := (H4.out.2.1.next X4.out).facts
                clear hbx
                go_wp2_with fail
                refine bodyPost_ret (v := .tuple #[.int .i64 (i : Int), .int .i64 (y : Int), noErr]) (by simp [results, Tryd.results23, go_sem, hc0, hc1, hc2, noErr]) rfl (Or.inl ⟨i, y, HC3.out.2, by omega, rfl, put3_below (H4.out.2.2.trans (X4.out.mono H4.out.2.2.size)) (Nat.le_succ _) _ _ _⟩)
            · have hyn : y < n1 := by
                rcases (by omega : y < n1 ∨ y = n1) with h1 | h1
                · exact h1
                · subst h1
                  exact absurd HC2.out.2 heq3
              rw [sameI_ne heq3] at hce
              have HC3 := Lib.hid (And.intro hce heq3)
              clear hce heq3
              go_wp2_with fail
              refine HC3.out.1.mono ?_
              rintro e x4 ⟨rfl, hbx⟩
              have X4 := Lib.hid (And.intro (HY.out.1.next hbx) (And.intro (HY.out.2.1.next hbx) (HY.out.2.2.2.trans (hbx.mono HY.out.2.2.2.size))))
              clear hbx
              obtain ⟨_, hr0, hr1, hr2⟩ := (H4.out.1.next X4.out.2.2).facts
              go_wp2_with fail
              refine (C.out.1 x4 pB cB (i + y) (H4.out.2.2.trans (X4.out.2.2.mono H4.out.2.2.size)) X4.out.2.1).mono ?_
              rintro e x5 ⟨pf, cf, rfl, hof, hbx⟩
              have X5 := Lib.hid (And.intro (X4.out.1.next hbx) (And.intro hof.toV (X4.out.2.2.trans (hbx.mono X4.out.2.2.size))))
              clear hof hbx hr0 hr1 hr2
              go_wp2_with fail
              go_roundw
              case rel => exact ⟨y + 1, by omega, by omega, by go_num, ⟨_, _, _, _, rfl, rfl, X5.out.1, X5.out.2.1⟩, fun j h1 h2 => by
                rcases (by omega : j < y ∨ j = y) with h3 | h3
                · exact HY.out.2.2.1 j h1 h3
                · subst h3; exact HC3.out.2, X5.out.2.2⟩
              case measure => simp [intOf]; omega
        · have hin : i < n1 := by
            rcases (by omega : i < n1 ∨ i = n1) with h1 | h1
            · exact h1
            · subst h1
              exact absurd HCE.out.2 heq2
          rw [sameI_ne heq2] at hce
          have HC2 := Lib.hid (And.intro hce heq2)
          clear hce heq2
          go_wp2_with fail
          refine HC2.out.1.mono ?_
          rintro e x1 ⟨rfl, hbx⟩
          have X1 := Lib.hid (And.intro (HS.out.1.next hbx) (And.intro (HS.out.2.1.next hbx) (HS.out.2.2.2.trans (hbx.mono HS.out.2.2.2.size))))
          clear hbx
          obtain ⟨_, hr0, hr1, hr2⟩ := (H4.out.1.next X1.out.2.2).facts
          go_wp2_with fail
          refine (C.out.1 x1 p8 c8 i (H4.out.2.2.trans (X1.out.2.2.mono H4.out.2.2.size)) X1.out.1).mono ?_
          rintro e x2 ⟨pu, cu, rfl, hou, hbx⟩
          have X2 := Lib.hid (And.intro hou.toV (And.intro (X1.out.2.1.next hbx) (X1.out.2.2.trans (hbx.mono X1.out.2.2.size))))
          clear hou hbx hr0 hr1 hr2
          obtain ⟨_, hr0, hr1, hr2⟩ := (H4.out.1.next X2.out.2.2).facts
          go_wp2_with fail
          refine (C.out.1 x2 p9 c9 (i + n1) (H4.out.2.2.trans (X2.out.2.2.mono H4.out.2.2.size)) X2.out.2.1).mono ?_
          rintro e x3 ⟨pv, cv, rfl, hov, hbx⟩
          have X3 := Lib.hid (And.intro (X2.out.1.next hbx) (And.intro hov.toV (X2.out.2.2.trans (hbx.mono X2.out.2.2.size))))
          clear hov hbx hr0 hr1 hr2
          go_wp2_with fail
          go_roundw
          case rel => exact ⟨i + 1, by omega, by go_num, ⟨_, _, _, _, rfl, rfl, X3.out.1, by rw [Nat.add_right_comm]; exact X3.out.2.1⟩, fun j hj => by
            rcases (by omega : j < i ∨ j = i) with h3 | h3
            · exact HS.out.2.2.1 j h3
            · subst h3; exact HC2.out.2, X3.out.2.2⟩
          case measure => simp [intOf]; omega
    · rw [sameI_ne heq] at hce
      have HCE := Lib.hid (And.intro hce heq)
      clear hce heq
      by_cases hbig : 4096 < n1
      · go_wp2_with fail
        refine HCE.out.1.mono ?_
        rintro e w7 ⟨rfl, hb7⟩
        have X4 := Lib.hid (HR.out.2.2.2.trans (hb7.mono HR.out.2.2.2.size))
        have X5 := Lib.hid (And.intro (H4.out.1.next X4.out) (And.intro (H4.out.2.1.next X4.out) (H4.out.2.2.trans (X4.out.mono H4.out.2.2.size))))
        clear hb7
        go_wp2_with fail
        refine (raw_fresh ringOp 1 4 w7).mono ?_
        rintro e wn ⟨g, g', rfl, hg, hcg, hcg', hbn⟩
        obtain ⟨⟨hf0, hf1, hf2⟩, hc0, hc1, hc2⟩ := (X5.out.2.1.next hbn).facts
        have HB := Lib.hid (GUnd3.laid (a := 4) X5.out.2.2 (Nat.le_succ _) (heap_ltN X5.out.2.1.heap) hg hcg hcg' hbn)
        clear hbn hcg hcg' hg
        go_wp2_with fail
        refine bodyPost_ret (v := .tuple #[.int .i64 0, .int .i64 0, .agg #[.int .i64 4, .slice (some ⟨g, 0, none⟩) 1 1, .slice (some ⟨g', 0, none⟩) 1 1]]) (by simp [results, Tryd.results23, go_sem, hc0, hc1, hc2]) rfl (Or.inr ⟨floyd_none (fun a h1 h2 => HR.out.2.2.1 a h1 (by omega)), ?_⟩)
        exact HB.out _ _ _
      · go_wp2_with fail
        refine HCE.out.1.mono ?_
        rintro e w7 ⟨rfl, hb7⟩
        have X4 := Lib.hid (And.intro (HR.out.1.next hb7) (And.intro (HR.out.2.1.next hb7) (HR.out.2.2.2.trans (hb7.mono HR.out.2.2.2.size))))
        clear hb7
        obtain ⟨_, hr0, hr1, hr2⟩ := (H4.out.1.next X4.out.2.2).facts
        go_wp2_with fail
        refine (C.out.1 w7 p8 c8 n1 (H4.out.2.2.trans (X4.out.2.2.mono H4.out.2.2.size)) X4.out.1).mono ?_
        rintro e w8 ⟨pu, cu, rfl, hou, hbx⟩
        have X5 := Lib.hid (And.intro hou.toV (And.intro (X4.out.2.1.next hbx) (X4.out.2.2.trans (hbx.mono X4.out.2.2.size))))
        clear hou hbx hr0 hr1 hr2
        go_upto_region 13 with fail
        have B8 := Lib.hid (H4.out.2.2.trans (X5.out.2.2.mono H4.out.2.2.size))
        have hR8 := Lib.hid (H4.out.1.next X5.out.2.2)
        have hxA : ∀ wx : World, Below w8.heap.size w8 wx → wx.cell? ⟨w.heap.size, 0, none⟩ = some (.int .i64 (K : Int)) := fun wx hbx => (hR8.out.next hbx).facts.2.1
        have hxB : ∀ wx : World, Below w8.heap.size w8 wx → wx.cell? ⟨w.heap.size, 1, none⟩ = some (.int .i64 (R : Int)) := fun wx hbx => (hR8.out.next hbx).facts.2.2.1
        have hxC : ∀ wx : World, Below w8.heap.size w8 wx → wx.cell? ⟨w.heap.size, 2, none⟩ = some (.slice p n c) := fun wx hbx => (hR8.out.next hbx).facts.2.2.2
        have hd0 : Below w8.heap.size w8 w8.drew := (Below.refl _ _).drew
        have hI1 : ∀ wx, Below w8.heap.size w8 wx → Calls Tryd.prog 35 #[.agg #[.int .i64 (K : Int), .int .i64 (R : Int), .slice p n c], .slice p9 m c9] wx fun e w' => ∃ pa ca, e = .returned (.slice pa m ca) ∧ IntO wx.heap.size w' pa ca (stepsW K R t (n1 + n1 + 1) l) ∧ Below wx.heap.size wx w' := fun wx hbx => C.out.1 wx p9 c9 (n1 + n1) (B8.out.trans (hbx.mono B8.out.size)) (X5.out.2.1.next hbx)
        have hI2 : ∀ wx pb cb, Below w8.heap.size w8 wx → IntV wx.heap.size wx pb cb (stepsW K R t (n1 + n1 + 1) l) → Calls Tryd.prog 35 #[.agg #[.int .i64 (K : Int), .int .i64 (R : Int), .slice p n c], .slice pb m cb] wx fun e w' => ∃ pa ca, e = .returned (.slice pa m ca) ∧ IntO wx.heap.size w' pa ca (stepsW K R t (n1 + n1 + 1 + 1) l) ∧ Below wx.heap.size wx w' := fun wx pb cb hbx hv => C.out.1 wx pb cb (n1 + n1 + 1) (B8.out.trans (hbx.mono B8.out.size)) hv
        go_region_held3 (fun w' => w'.cell? ⟨w.heap.size, 0, none⟩ = some (.int .i64 (K : Int)) ∧ w'.cell? ⟨w.heap.size, 1, none⟩ = some (.int .i64 (R : Int)) ∧ w'.cell? ⟨w.heap.size, 2, none⟩ = some (.slice p n c)) (first | exact ⟨hxA _ hd0, hxB _ hd0, hxC _ hd0⟩ | exact ⟨hxA _ (Below.refl _ _), hxB _ (Below.refl _ _), hxC _ (Below.refl _ _)⟩ | exact ⟨hA2, hB2, hC2⟩ | exact ⟨hA1, hB1, hC1⟩ | go_keep) (first | (go_at_call 35; refine (hI2 _ _ _ hBl hol.toV).mono ?_; rintro e wm ⟨pv, cv, rfl, hom, hbm⟩; have hBm : Below w8.heap.size w8 wm := hBl.trans (hbm.mono hBl.size); have hA2 := hxA wm hBm; have hB2 := hxB wm hBm; have hC2 := hxC wm hBm) | (go_at_call 35; refine (hI1 _ (by first | exact hd0 | exact Below.refl _ _)).mono ?_; rintro e wl ⟨pt, ct, rfl, hol, hbl⟩; have hBl : Below w8.heap.size w8 wl := (by first | exact hd0.trans (hbl.mono hd0.size) | exact hbl); have hA1 := hxA wl hBl; have hB1 := hxB wl hBl; have hC1 := hxC wl hBl))
        all_goals
          have X6 := Lib.hid (And.intro (X5.out.1.next hBm) (And.intro hom.toV (X5.out.2.2.trans (hBm.mono X5.out.2.2.size))))
          clear hxA hxB hxC hI1 hI2 hd0 hol hbl hBl hom hbm hBm hA1 hB1 hC1 hA2 hB2 hC2
          go_wp2_with fail
          go_roundw
          case rel => exact ⟨n1 + 1, by omega, by omega, by go_num, ⟨_, _, _, _, rfl, rfl, X6.out.1, by rw [show n1 + 1 + (n1 + 1) = n1 + n1 + 1 + 1 by omega]; exact X6.out.2.1⟩, fun j h1 h2 => by
            rcases (by omega : j < n1 ∨ j = n1) with h3 | h3
            · exact HR.out.2.2.1 j h1 h3
            · subst h3; exact HCE.out.2, X6.out.2.2⟩
          case measure => simp [intOf]; omega
end Go.Proofs.YtgdjnohhofbcnaaDoor
