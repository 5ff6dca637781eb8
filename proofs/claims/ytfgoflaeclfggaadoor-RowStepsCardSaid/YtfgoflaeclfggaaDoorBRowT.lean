/- The document's own package of rows by its contracts: Cell, Cut, Same. -/
import Derived.Test.YtfgoflaeclfggaaDoorBRowR
import Derived.Test.YtfgoflaeclfggaaDoorBRowS
import Derived.Test.YtfgoflaeclfggaaDoorB6
namespace Go.Proofs.YtfgoflaeclfggaaDoor
open Go.RowKit Go.Extern.Stop Go.Stop Go.Extern WordM RuleM NatM

/-- an error of package row, alone -/
def errR (x : Option (Nat × Nat)) : Option (List (ByteArray × Int) × Nat) := x.map fun y => ([(rowOp, (y.1 : Int))], y.2)
/-- a first answer, and the document's error -/
def RefT (w : World) (x : Option (List (ByteArray × Int) × Nat)) (v : Value) (e : Ending) (w' : World) : Prop :=
  ∃ a po pa n co ca, e = .returned (.tuple #[v, .agg #[.int .i64 a, .slice po n co, .slice pa n ca]]) ∧ WCg w' x a po pa n co ca ∧ Below w.heap.size w w'
/-- a first answer, and the program's error -/
def ProgT (w : World) (A : Nat → Addr) (x : Option (List (ByteArray × Int) × Nat)) (v : Value) (e : Ending) (w' : World) : Prop :=
  ∃ f, e = .returned (.tuple #[v, f]) ∧ PChn w' A x f ∧ Below w.heap.size w w'
theorem chk_call (k a : Int) (i j : Nat) (p q s : Option Addr) (n c m d u e : Nat) (L C R : List Int) (w : World) (h : RowV w p q s n c m d u e L C R) (hn : n ≤ 17592186043904) (hm : m ≤ 17592186043904) (hu : u ≤ 17592186043904) (hc : chkRw k a L C R = some (i, j)) :
    Calls Tryd.prog 17 #[.int .i64 k, .agg #[.int .i64 a, .slice p n c, .slice q m d, .slice s u e]] w fun e' w' => ∃ go ga co ca, e' = .returned (.agg #[.int .i64 (j : Int), .slice (some ⟨go, 0, none⟩) 1 co, .slice (some ⟨ga, 0, none⟩) 1 ca]) ∧ w.heap.size ≤ go ∧ w.heap.size ≤ ga ∧ WantV w' (some ⟨go, 0, none⟩) (some ⟨ga, 0, none⟩) co ca [(rowOp, (i : Int))] ∧ Below w.heap.size w w' :=
  rchk_ref_bad k a p q s n c m d u e L C R w h hn hm hu i j hc
set_option maxRecDepth 100000 in
set_option maxHeartbeats 8000000 in
theorem cell_ref_bad (k a i : Int) (p q s : Option Addr) (n c m d u e : Nat) (L C R : List Int) (w : World) (h : RowV w p q s n c m d u e L C R) (hn : n ≤ 17592186043904) (hm : m ≤ 17592186043904) (hu : u ≤ 17592186043904) (y : Nat × Nat) (hc : chkP k a L C R i = some y) :
    Calls Tryd.prog 12 #[.int .i64 k, .agg #[.int .i64 a, .slice p n c, .slice q m d, .slice s u e], .int .i64 i] w (RefT w (errR (some y)) (.int .i64 0)) := by
  obtain ⟨b, j⟩ := y
  have hj := chkP_num _ hc
  simp only at hj
  unfold chkP at hc
  cases hk : chkRw k a L C R with
  | some z =>
    rw [hk] at hc
    obtain rfl := Option.some.inj hc
    have HC := Lib.hid (fun W h => chk_call k a b j p q s n c m d u e L C R W h hn hm hu hk)
    have H := Lib.hid h
    clear h hn hm hu hc hk
    go_enter Tryd.func12, Tryd.ntmps12
    go_upto_region 1 with fail
    obtain ⟨w0, hw0⟩ : ∃ w0, w0 = (w.alloc (.cells #[.int .i64 a, .slice p n c, .slice q m d, .slice s u e] 24)).alloc (.cells #[.int .i64 0, .slice none 0 0, .slice none 0 0] 33) := ⟨_, rfl⟩
    rw [← hw0]
    obtain ⟨hb0, hE0, hF0⟩ := row_err w _ _ _ _ w0 hw0
    have HE := Lib.hid (And.intro hE0 (And.intro hF0 hb0))
    obtain ⟨hr0, hr1, hr2, hr3⟩ := hE0.facts
    clear hw0 hE0 hF0 hb0
    go_wp2_with fail
    refine (HC.out w0 (H.out.next HE.out.2.2)).mono ?_
    rintro e' w1 ⟨go, ga, co, ca, rfl, hgo, hga, hwv, hb1⟩
    go_upto_region 2 with fail
    obtain ⟨wB, hwB⟩ : ∃ x, x = w1.alloc (.cells #[.int .i64 (j : Int), .slice (some ⟨go, 0, none⟩) 1 co, .slice (some ⟨ga, 0, none⟩) 1 ca] 33) := ⟨_, rfl⟩
    rw [← hwB]
    obtain ⟨hbB, hEB⟩ := box_err w1 _ _ _ wB hwB
    obtain ⟨g8, hg8⟩ : ∃ x, w1.heap.size = x := ⟨_, rfl⟩
    rw [hg8] at hEB ⊢
    have h0B := hb1.trans (hbB.mono hb1.size)
    have hlt0 := HE.out.2.1.lt
    have hs1 := hb1.size
    have H1 := Lib.hid (And.intro (HE.out.2.1.next h0B) (And.intro hEB (And.intro (hwv.below hbB) (And.intro (HE.out.2.2.trans (h0B.mono HE.out.2.2.size)) (show g8 ≠ w.heap.size + 1 ∧ go ≠ w.heap.size + 1 ∧ ga ≠ w.heap.size + 1 from ⟨by omega, by omega, by omega⟩)))))
    obtain ⟨_, hk0, hk1, hk2⟩ := hEB.facts
    clear hwB hbB hEB hg8 h0B hlt0 hs1 hb1 hgo hga hwv hr0 hr1 hr2 hr3
    go_wp2_with fail
    refine (badG_yes (j : Int) (by omega) _ _ wB).mono ?_
    rintro e' wq ⟨rfl, hbq⟩
    obtain ⟨⟨hf0, hf1, hf2⟩, hc0, hc1, hc2⟩ := (H1.out.1.next hbq).facts
    obtain ⟨_, hg0, hg1, hg2⟩ := (H1.out.2.1.next hbq).facts
    have hne := H1.out.2.2.2.2.1
    have HQ := Lib.hid (And.intro (H1.out.2.2.1.below hbq) (H1.out.2.2.2.1.trans (hbq.mono H1.out.2.2.2.1.size)))
    clear hbq hk0 hk1 hk2
    go_wp2_with fail
    go_region
    go_wp2_with fail
    refine bodyPost_ret (v := .tuple #[.int .i64 0, .agg #[.int .i64 (j : Int), .slice (some ⟨go, 0, none⟩) 1 co, .slice (some ⟨ga, 0, none⟩) 1 ca]]) (by simp [results, Tryd.results12, go_sem, hc0, hc1, hc2]) rfl ⟨_, _, _, _, _, _, rfl, ?_, ?_⟩
    · exact ⟨rfl, rfl, (wantV_put3g HQ.out.1 H1.out.2.2.2.2.2.1 H1.out.2.2.2.2.2.2 _ _ _).below (Below.refl _ _).drew⟩
    · exact (put3_below HQ.out.2 (Nat.le_succ _) _ _ _).drew
  | none =>
    rw [hk] at hc
    simp only at hc
    split at hc
    · obtain ⟨rfl, rfl⟩ := Prod.mk.inj (Option.some.inj hc)
      rename_i hi
      obtain ⟨K, rfl, hw⟩ := chkRw_none hk
      have HC := Lib.hid (fun W h => rchk_ref_ok K a p q s n c m d u e L C R W h hw)
      have H := Lib.hid h
      clear h hn hm hu hc hk hw hj
      rcases (by omega : i < -1048576 ∨ (¬ i < -1048576 ∧ 1048576 < i)) with h1 | ⟨h1, h2⟩
      all_goals
        clear hi
        go_enter Tryd.func12, Tryd.ntmps12
        go_upto_region 1 with fail
        obtain ⟨w0, hw0⟩ : ∃ w0, w0 = (w.alloc (.cells #[.int .i64 a, .slice p n c, .slice q m d, .slice s u e] 24)).alloc (.cells #[.int .i64 0, .slice none 0 0, .slice none 0 0] 33) := ⟨_, rfl⟩
        rw [← hw0]
        obtain ⟨hb0, hE0, hF0⟩ := row_err w _ _ _ _ w0 hw0
        have HE := Lib.hid (And.intro hE0 (And.intro hF0 hb0))
        obtain ⟨hr0, hr1, hr2, hr3⟩ := hE0.facts
        clear hw0 hE0 hF0 hb0
        go_wp2_with fail
        refine (HC.out w0 (H.out.next HE.out.2.2)).mono ?_
        rintro e' w1 ⟨rfl, hb1⟩
        go_upto_region 2 with fail
        obtain ⟨wB, hwB⟩ : ∃ x, x = w1.alloc (.cells #[.int .i64 0, .slice none 0 0, .slice none 0 0] 33) := ⟨_, rfl⟩
        rw [← hwB]
        obtain ⟨hbB, hEB⟩ := box_err w1 _ _ _ wB hwB
        obtain ⟨g8, hg8⟩ : ∃ x, w1.heap.size = x := ⟨_, rfl⟩
        rw [hg8] at hEB ⊢
        have h0B := hb1.trans (hbB.mono hb1.size)
        have H1 := Lib.hid (And.intro (HE.out.1.next h0B) (And.intro (HE.out.2.1.next h0B) (HE.out.2.2.trans (h0B.mono HE.out.2.2.size))))
        obtain ⟨_, hk0, hk1, hk2⟩ := hEB.facts
        clear hwB hbB hEB hg8 h0B hb1 hr0 hr1 hr2 hr3
        go_wp2_with fail
        refine (badG_no _ _ wB).mono ?_
        rintro e' wq ⟨rfl, hbq⟩
        have HQ := Lib.hid (And.intro (H1.out.1.next hbq) (And.intro (H1.out.2.1.next hbq) (H1.out.2.2.trans (hbq.mono H1.out.2.2.size))))
        clear hbq hk0 hk1 hk2
        obtain ⟨hr0, hr1, hr2, hr3⟩ := HQ.out.1.facts
        go_wp2_with fail
        refine (raw_fresh rowOp 5 3 wq).mono ?_
        rintro e' w8 ⟨g, g', rfl, hg, hcg, hcg', hb8⟩
        have hlt0 := HQ.out.2.1.lt
        obtain ⟨⟨hf0, hf1, hf2⟩, hc0, hc1, hc2⟩ := (HQ.out.2.1.next hb8).facts
        have HW := Lib.hid (And.intro (show WantV w8 (some ⟨g, 0, none⟩) (some ⟨g', 0, none⟩) 1 1 [(rowOp, (5 : Int))] from WantV.one hg.2.1 hg.2.2.2 hcg hcg') (And.intro (HQ.out.2.2.trans (hb8.mono HQ.out.2.2.size)) (show g ≠ w.heap.size + 1 ∧ g' ≠ w.heap.size + 1 from ⟨by omega, by omega⟩)))
        clear hb8 hcg hcg' hg hr0 hr1 hr2 hr3 hlt0
        go_wp2_with fail
        refine bodyPost_ret (v := .tuple #[.int .i64 0, .agg #[.int .i64 3, .slice (some ⟨g, 0, none⟩) 1 1, .slice (some ⟨g', 0, none⟩) 1 1]]) (by simp [results, Tryd.results12, go_sem, hc0, hc1, hc2]) rfl ⟨_, _, _, _, _, _, rfl, ?_, ?_⟩
        · exact ⟨rfl, rfl, wantV_put3g HW.out.1 HW.out.2.2.1 HW.out.2.2.2 _ _ _⟩
        · exact put3_below HW.out.2.1 (Nat.le_succ _) _ _ _
    · cases hc
set_option maxRecDepth 100000 in
set_option maxHeartbeats 8000000 in
theorem cell_ref_ok (k : Nat) (a i : Int) (p q s : Option Addr) (n c m d u e : Nat) (L C R : List Int) (w : World) (h : RowV w p q s n c m d u e L C R) (hw : OkRw k a L C R) (hi1 : -1048576 ≤ i) (hi2 : i ≤ 1048576) :
    Calls Tryd.prog 12 #[.int .i64 (k : Int), .agg #[.int .i64 a, .slice p n c, .slice q m d, .slice s u e], .int .i64 i] w (RefT w none (.int .i64 (rwAt a L C R i))) := by
  have hzs : Rsz a n m u := rsz_of h hw
  have hat := fun W hW => at_ref07 a i p q s n c m d u e L C R W hW hzs (by omega) (by omega)
  obtain ⟨X, hX⟩ : ∃ X, rwAt a L C R i = X := ⟨_, rfl⟩
  rw [hX] at hat ⊢
  have hi3 : ¬ i < -1048576 := by omega
  have hi4 : ¬ 1048576 < i := by omega
  have HC := Lib.hid (And.intro (fun W h => rchk_ref_ok k a p q s n c m d u e L C R W h hw) hat)
  have H := Lib.hid h
  clear h hw hzs hat hX
  go_enter Tryd.func12, Tryd.ntmps12
  go_upto_region 1 with fail
  obtain ⟨w0, hw0⟩ : ∃ w0, w0 = (w.alloc (.cells #[.int .i64 a, .slice p n c, .slice q m d, .slice s u e] 24)).alloc (.cells #[.int .i64 0, .slice none 0 0, .slice none 0 0] 33) := ⟨_, rfl⟩
  rw [← hw0]
  obtain ⟨hb0, hE0, hF0⟩ := row_err w _ _ _ _ w0 hw0
  have HE := Lib.hid (And.intro hE0 (And.intro hF0 hb0))
  obtain ⟨hr0, hr1, hr2, hr3⟩ := hE0.facts
  clear hw0 hE0 hF0 hb0
  go_wp2_with fail
  refine (HC.out.1 w0 (H.out.next HE.out.2.2)).mono ?_
  rintro e' w1 ⟨rfl, hb1⟩
  go_upto_region 2 with fail
  obtain ⟨wB, hwB⟩ : ∃ x, x = w1.alloc (.cells #[.int .i64 0, .slice none 0 0, .slice none 0 0] 33) := ⟨_, rfl⟩
  rw [← hwB]
  obtain ⟨hbB, hEB⟩ := box_err w1 _ _ _ wB hwB
  obtain ⟨g8, hg8⟩ : ∃ x, w1.heap.size = x := ⟨_, rfl⟩
  rw [hg8] at hEB ⊢
  have h0B := hb1.trans (hbB.mono hb1.size)
  have H1 := Lib.hid (And.intro (HE.out.1.next h0B) (And.intro (HE.out.2.1.next h0B) (HE.out.2.2.trans (h0B.mono HE.out.2.2.size))))
  obtain ⟨_, hk0, hk1, hk2⟩ := hEB.facts
  clear hwB hbB hEB hg8 h0B hb1 hr0 hr1 hr2 hr3
  go_wp2_with fail
  refine (badG_no _ _ wB).mono ?_
  rintro e' wq ⟨rfl, hbq⟩
  have HQ := Lib.hid (And.intro (H1.out.1.next hbq) (And.intro (H1.out.2.1.next hbq) (H1.out.2.2.trans (hbq.mono H1.out.2.2.size))))
  clear hbq hk0 hk1 hk2
  obtain ⟨hr0, hr1, hr2, hr3⟩ := HQ.out.1.facts
  go_wp2_with fail
  refine (HC.out.2 wq (H.out.next HQ.out.2.2)).mono ?_
  rintro e' w8 ⟨rfl, hb8⟩
  obtain ⟨⟨hf0, hf1, hf2⟩, hc0, hc1, hc2⟩ := (HQ.out.2.1.next hb8).facts
  have HW := Lib.hid (HQ.out.2.2.trans (hb8.mono HQ.out.2.2.size))
  clear hb8 hr0 hr1 hr2 hr3
  go_wp2_with fail
  refine bodyPost_ret (v := .tuple #[.int .i64 X, .agg #[.int .i64 0, .slice none 0 0, .slice none 0 0]]) (by simp [results, Tryd.results12, go_sem, hc0, hc1, hc2]) rfl ⟨_, _, _, _, _, _, rfl, ⟨rfl, rfl, rfl, rfl, rfl, rfl⟩, put3_below HW.out (Nat.le_succ _) _ _ _⟩
set_option maxRecDepth 100000 in
set_option maxHeartbeats 8000000 in
theorem cut_ref_bad (k a i x : Int) (p q s : Option Addr) (n c m d u e : Nat) (L C R : List Int) (w : World) (h : RowV w p q s n c m d u e L C R) (hn : n ≤ 17592186043904) (hm : m ≤ 17592186043904) (hu : u ≤ 17592186043904) (y : Nat × Nat) (hc : chkC k a L C R i x = some y) :
    Calls Tryd.prog 14 #[.int .i64 k, .agg #[.int .i64 a, .slice p n c, .slice q m d, .slice s u e], .int .i64 i, .int .i64 x] w (RefL w (errR (some y)) []) := by
  obtain ⟨b, j⟩ := y
  have hj := chkC_num _ hc
  simp only at hj
  unfold chkC chkP at hc
  cases hk : chkRw k a L C R with
  | some z =>
    rw [hk] at hc
    obtain rfl := Option.some.inj hc
    have HC := Lib.hid (fun W h => chk_call k a b j p q s n c m d u e L C R W h hn hm hu hk)
    have H := Lib.hid h
    clear h hn hm hu hc hk
    go_enter Tryd.func14, Tryd.ntmps14
    go_upto_region 1 with fail
    obtain ⟨w0, hw0⟩ : ∃ w0, w0 = (w.alloc (.cells #[.int .i64 a, .slice p n c, .slice q m d, .slice s u e] 24)).alloc (.cells #[.int .i64 0, .slice none 0 0, .slice none 0 0] 33) := ⟨_, rfl⟩
    rw [← hw0]
    obtain ⟨hb0, hE0, hF0⟩ := row_err w _ _ _ _ w0 hw0
    have HE := Lib.hid (And.intro hE0 (And.intro hF0 hb0))
    obtain ⟨hr0, hr1, hr2, hr3⟩ := hE0.facts
    clear hw0 hE0 hF0 hb0
    go_wp2_with fail
    refine (HC.out w0 (H.out.next HE.out.2.2)).mono ?_
    rintro e' w1 ⟨go, ga, co, ca, rfl, hgo, hga, hwv, hb1⟩
    go_upto_region 2 with fail
    obtain ⟨wB, hwB⟩ : ∃ x, x = w1.alloc (.cells #[.int .i64 (j : Int), .slice (some ⟨go, 0, none⟩) 1 co, .slice (some ⟨ga, 0, none⟩) 1 ca] 33) := ⟨_, rfl⟩
    rw [← hwB]
    obtain ⟨hbB, hEB⟩ := box_err w1 _ _ _ wB hwB
    obtain ⟨g8, hg8⟩ : ∃ x, w1.heap.size = x := ⟨_, rfl⟩
    rw [hg8] at hEB ⊢
    have h0B := hb1.trans (hbB.mono hb1.size)
    have hlt0 := HE.out.2.1.lt
    have hs1 := hb1.size
    have H1 := Lib.hid (And.intro (HE.out.2.1.next h0B) (And.intro hEB (And.intro (hwv.below hbB) (And.intro (HE.out.2.2.trans (h0B.mono HE.out.2.2.size)) (show g8 ≠ w.heap.size + 1 ∧ go ≠ w.heap.size + 1 ∧ ga ≠ w.heap.size + 1 from ⟨by omega, by omega, by omega⟩)))))
    obtain ⟨_, hk0, hk1, hk2⟩ := hEB.facts
    clear hwB hbB hEB hg8 h0B hlt0 hs1 hb1 hgo hga hwv hr0 hr1 hr2 hr3
    go_wp2_with fail
    refine (badG_yes (j : Int) (by omega) _ _ wB).mono ?_
    rintro e' wq ⟨rfl, hbq⟩
    obtain ⟨⟨hf0, hf1, hf2⟩, hc0, hc1, hc2⟩ := (H1.out.1.next hbq).facts
    obtain ⟨_, hg0, hg1, hg2⟩ := (H1.out.2.1.next hbq).facts
    have hne := H1.out.2.2.2.2.1
    have HQ := Lib.hid (And.intro (H1.out.2.2.1.below hbq) (H1.out.2.2.2.1.trans (hbq.mono H1.out.2.2.2.1.size)))
    clear hbq hk0 hk1 hk2
    go_wp2_with fail
    go_region
    go_wp2_with fail
    refine bodyPost_ret (v := .tuple #[.slice none 0 0, .agg #[.int .i64 (j : Int), .slice (some ⟨go, 0, none⟩) 1 co, .slice (some ⟨ga, 0, none⟩) 1 ca]]) (by simp [results, Tryd.results14, go_sem, hc0, hc1, hc2]) rfl ⟨none, 0, _, _, _, _, _, _, rfl, IntO.nothing _ _, ?_, ?_⟩
    · exact ⟨rfl, rfl, (wantV_put3g HQ.out.1 H1.out.2.2.2.2.2.1 H1.out.2.2.2.2.2.2 _ _ _).below (Below.refl _ _).drew⟩
    · exact (put3_below HQ.out.2 (Nat.le_succ _) _ _ _).drew
  | none =>
    rw [hk] at hc
    simp only at hc
    obtain ⟨K, rfl, hw⟩ := chkRw_none hk
    have HC := Lib.hid (fun W h => rchk_ref_ok K a p q s n c m d u e L C R W h hw)
    have H := Lib.hid h
    clear h hn hm hu hk hw hj
    by_cases hi : i < -1048576 ∨ 1048576 < i
    · rw [if_pos hi] at hc
      obtain ⟨rfl, rfl⟩ := Prod.mk.inj (Option.some.inj hc)
      clear hc
      rcases (by omega : i < -1048576 ∨ (¬ i < -1048576 ∧ 1048576 < i)) with h1 | ⟨h1, h2⟩
      all_goals
        clear hi
        go_enter Tryd.func14, Tryd.ntmps14
        go_upto_region 1 with fail
        obtain ⟨w0, hw0⟩ : ∃ w0, w0 = (w.alloc (.cells #[.int .i64 a, .slice p n c, .slice q m d, .slice s u e] 24)).alloc (.cells #[.int .i64 0, .slice none 0 0, .slice none 0 0] 33) := ⟨_, rfl⟩
        rw [← hw0]
        obtain ⟨hb0, hE0, hF0⟩ := row_err w _ _ _ _ w0 hw0
        have HE := Lib.hid (And.intro hE0 (And.intro hF0 hb0))
        obtain ⟨hr0, hr1, hr2, hr3⟩ := hE0.facts
        clear hw0 hE0 hF0 hb0
        go_wp2_with fail
        refine (HC.out w0 (H.out.next HE.out.2.2)).mono ?_
        rintro e' w1 ⟨rfl, hb1⟩
        go_upto_region 2 with fail
        obtain ⟨wB, hwB⟩ : ∃ x, x = w1.alloc (.cells #[.int .i64 0, .slice none 0 0, .slice none 0 0] 33) := ⟨_, rfl⟩
        rw [← hwB]
        obtain ⟨hbB, hEB⟩ := box_err w1 _ _ _ wB hwB
        obtain ⟨g8, hg8⟩ : ∃ x, w1.heap.size = x := ⟨_, rfl⟩
        rw [hg8] at hEB ⊢
        have h0B := hb1.trans (hbB.mono hb1.size)
        have H1 := Lib.hid (And.intro (HE.out.1.next h0B) (And.intro (HE.out.2.1.next h0B) (HE.out.2.2.trans (h0B.mono HE.out.2.2.size))))
        obtain ⟨_, hk0, hk1, hk2⟩ := hEB.facts
        clear hwB hbB hEB hg8 h0B hb1 hr0 hr1 hr2 hr3
        go_wp2_with fail
        refine (badG_no _ _ wB).mono ?_
        rintro e' wq ⟨rfl, hbq⟩
        have HQ := Lib.hid (And.intro (H1.out.1.next hbq) (And.intro (H1.out.2.1.next hbq) (H1.out.2.2.trans (hbq.mono H1.out.2.2.size))))
        clear hbq hk0 hk1 hk2
        obtain ⟨hr0, hr1, hr2, hr3⟩ := HQ.out.1.facts
        go_wp2_with fail
        refine (raw_fresh rowOp 5 3 wq).mono ?_
        rintro e' w8 ⟨g, g', rfl, hg, hcg, hcg', hb8⟩
        have hlt0 := HQ.out.2.1.lt
        obtain ⟨⟨hf0, hf1, hf2⟩, hc0, hc1, hc2⟩ := (HQ.out.2.1.next hb8).facts
        have HW := Lib.hid (And.intro (show WantV w8 (some ⟨g, 0, none⟩) (some ⟨g', 0, none⟩) 1 1 [(rowOp, (5 : Int))] from WantV.one hg.2.1 hg.2.2.2 hcg hcg') (And.intro (HQ.out.2.2.trans (hb8.mono HQ.out.2.2.size)) (show g ≠ w.heap.size + 1 ∧ g' ≠ w.heap.size + 1 from ⟨by omega, by omega⟩)))
        clear hb8 hcg hcg' hg hr0 hr1 hr2 hr3 hlt0
        go_wp2_with fail
        refine bodyPost_ret (v := .tuple #[.slice none 0 0, .agg #[.int .i64 3, .slice (some ⟨g, 0, none⟩) 1 1, .slice (some ⟨g', 0, none⟩) 1 1]]) (by simp [results, Tryd.results14, go_sem, hc0, hc1, hc2]) rfl ⟨none, 0, _, _, _, _, _, _, rfl, IntO.nothing _ _, ?_, ?_⟩
        · exact ⟨rfl, rfl, wantV_put3g HW.out.1 HW.out.2.2.1 HW.out.2.2.2 _ _ _⟩
        · exact put3_below HW.out.2.1 (Nat.le_succ _) _ _ _
    · rw [if_neg hi] at hc
      simp only at hc
      have hi1 : ¬ i < -1048576 := by omega
      have hi2 : ¬ 1048576 < i := by omega
      by_cases hx : x < 0
      · rw [if_pos hx] at hc
        obtain ⟨rfl, rfl⟩ := Prod.mk.inj (Option.some.inj hc)
        clear hc hi
        go_enter Tryd.func14, Tryd.ntmps14
        go_upto_region 1 with fail
        obtain ⟨w0, hw0⟩ : ∃ w0, w0 = (w.alloc (.cells #[.int .i64 a, .slice p n c, .slice q m d, .slice s u e] 24)).alloc (.cells #[.int .i64 0, .slice none 0 0, .slice none 0 0] 33) := ⟨_, rfl⟩
        rw [← hw0]
        obtain ⟨hb0, hE0, hF0⟩ := row_err w _ _ _ _ w0 hw0
        have HE := Lib.hid (And.intro hE0 (And.intro hF0 hb0))
        obtain ⟨hr0, hr1, hr2, hr3⟩ := hE0.facts
        clear hw0 hE0 hF0 hb0
        go_wp2_with fail
        refine (HC.out w0 (H.out.next HE.out.2.2)).mono ?_
        rintro e' w1 ⟨rfl, hb1⟩
        go_upto_region 2 with fail
        obtain ⟨wB, hwB⟩ : ∃ x, x = w1.alloc (.cells #[.int .i64 0, .slice none 0 0, .slice none 0 0] 33) := ⟨_, rfl⟩
        rw [← hwB]
        obtain ⟨hbB, hEB⟩ := box_err w1 _ _ _ wB hwB
        obtain ⟨g8, hg8⟩ : ∃ x, w1.heap.size = x := ⟨_, rfl⟩
        rw [hg8] at hEB ⊢
        have h0B := hb1.trans (hbB.mono hb1.size)
        have H1 := Lib.hid (And.intro (HE.out.1.next h0B) (And.intro (HE.out.2.1.next h0B) (HE.out.2.2.trans (h0B.mono HE.out.2.2.size))))
        obtain ⟨_, hk0, hk1, hk2⟩ := hEB.facts
        clear hwB hbB hEB hg8 h0B hb1 hr0 hr1 hr2 hr3
        go_wp2_with fail
        refine (badG_no _ _ wB).mono ?_
        rintro e' wq ⟨rfl, hbq⟩
        have HQ := Lib.hid (And.intro (H1.out.1.next hbq) (And.intro (H1.out.2.1.next hbq) (H1.out.2.2.trans (hbq.mono H1.out.2.2.size))))
        clear hbq hk0 hk1 hk2
        obtain ⟨hr0, hr1, hr2, hr3⟩ := HQ.out.1.facts
        go_wp2_with fail
        refine (raw_fresh rowOp 6 3 wq).mono ?_
        rintro e' w8 ⟨g, g', rfl, hg, hcg, hcg', hb8⟩
        have hlt0 := HQ.out.2.1.lt
        obtain ⟨⟨hf0, hf1, hf2⟩, hc0, hc1, hc2⟩ := (HQ.out.2.1.next hb8).facts
        have HW := Lib.hid (And.intro (show WantV w8 (some ⟨g, 0, none⟩) (some ⟨g', 0, none⟩) 1 1 [(rowOp, (6 : Int))] from WantV.one hg.2.1 hg.2.2.2 hcg hcg') (And.intro (HQ.out.2.2.trans (hb8.mono HQ.out.2.2.size)) (show g ≠ w.heap.size + 1 ∧ g' ≠ w.heap.size + 1 from ⟨by omega, by omega⟩)))
        clear hb8 hcg hcg' hg hr0 hr1 hr2 hr3 hlt0
        go_wp2_with fail
        refine bodyPost_ret (v := .tuple #[.slice none 0 0, .agg #[.int .i64 3, .slice (some ⟨g, 0, none⟩) 1 1, .slice (some ⟨g', 0, none⟩) 1 1]]) (by simp [results, Tryd.results14, go_sem, hc0, hc1, hc2]) rfl ⟨none, 0, _, _, _, _, _, _, rfl, IntO.nothing _ _, ?_, ?_⟩
        · exact ⟨rfl, rfl, wantV_put3g HW.out.1 HW.out.2.2.1 HW.out.2.2.2 _ _ _⟩
        · exact put3_below HW.out.2.1 (Nat.le_succ _) _ _ _
      · rw [if_neg hx] at hc
        by_cases hx4 : 4096 < x
        · rw [if_pos hx4] at hc
          obtain ⟨rfl, rfl⟩ := Prod.mk.inj (Option.some.inj hc)
          clear hc hi
          go_enter Tryd.func14, Tryd.ntmps14
          go_upto_region 1 with fail
          obtain ⟨w0, hw0⟩ : ∃ w0, w0 = (w.alloc (.cells #[.int .i64 a, .slice p n c, .slice q m d, .slice s u e] 24)).alloc (.cells #[.int .i64 0, .slice none 0 0, .slice none 0 0] 33) := ⟨_, rfl⟩
          rw [← hw0]
          obtain ⟨hb0, hE0, hF0⟩ := row_err w _ _ _ _ w0 hw0
          have HE := Lib.hid (And.intro hE0 (And.intro hF0 hb0))
          obtain ⟨hr0, hr1, hr2, hr3⟩ := hE0.facts
          clear hw0 hE0 hF0 hb0
          go_wp2_with fail
          refine (HC.out w0 (H.out.next HE.out.2.2)).mono ?_
          rintro e' w1 ⟨rfl, hb1⟩
          go_upto_region 2 with fail
          obtain ⟨wB, hwB⟩ : ∃ x, x = w1.alloc (.cells #[.int .i64 0, .slice none 0 0, .slice none 0 0] 33) := ⟨_, rfl⟩
          rw [← hwB]
          obtain ⟨hbB, hEB⟩ := box_err w1 _ _ _ wB hwB
          obtain ⟨g8, hg8⟩ : ∃ x, w1.heap.size = x := ⟨_, rfl⟩
          rw [hg8] at hEB ⊢
          have h0B := hb1.trans (hbB.mono hb1.size)
          have H1 := Lib.hid (And.intro (HE.out.1.next h0B) (And.intro (HE.out.2.1.next h0B) (HE.out.2.2.trans (h0B.mono HE.out.2.2.size))))
          obtain ⟨_, hk0, hk1, hk2⟩ := hEB.facts
          clear hwB hbB hEB hg8 h0B hb1 hr0 hr1 hr2 hr3
          go_wp2_with fail
          refine (badG_no _ _ wB).mono ?_
          rintro e' wq ⟨rfl, hbq⟩
          have HQ := Lib.hid (And.intro (H1.out.1.next hbq) (And.intro (H1.out.2.1.next hbq) (H1.out.2.2.trans (hbq.mono H1.out.2.2.size))))
          clear hbq hk0 hk1 hk2
          obtain ⟨hr0, hr1, hr2, hr3⟩ := HQ.out.1.facts
          go_wp2_with fail
          refine (raw_fresh rowOp 6 4 wq).mono ?_
          rintro e' w8 ⟨g, g', rfl, hg, hcg, hcg', hb8⟩
          have hlt0 := HQ.out.2.1.lt
          obtain ⟨⟨hf0, hf1, hf2⟩, hc0, hc1, hc2⟩ := (HQ.out.2.1.next hb8).facts
          have HW := Lib.hid (And.intro (show WantV w8 (some ⟨g, 0, none⟩) (some ⟨g', 0, none⟩) 1 1 [(rowOp, (6 : Int))] from WantV.one hg.2.1 hg.2.2.2 hcg hcg') (And.intro (HQ.out.2.2.trans (hb8.mono HQ.out.2.2.size)) (show g ≠ w.heap.size + 1 ∧ g' ≠ w.heap.size + 1 from ⟨by omega, by omega⟩)))
          clear hb8 hcg hcg' hg hr0 hr1 hr2 hr3 hlt0
          go_wp2_with fail
          refine bodyPost_ret (v := .tuple #[.slice none 0 0, .agg #[.int .i64 4, .slice (some ⟨g, 0, none⟩) 1 1, .slice (some ⟨g', 0, none⟩) 1 1]]) (by simp [results, Tryd.results14, go_sem, hc0, hc1, hc2]) rfl ⟨none, 0, _, _, _, _, _, _, rfl, IntO.nothing _ _, ?_, ?_⟩
          · exact ⟨rfl, rfl, wantV_put3g HW.out.1 HW.out.2.2.1 HW.out.2.2.2 _ _ _⟩
          · exact put3_below HW.out.2.1 (Nat.le_succ _) _ _ _
        · rw [if_neg hx4] at hc
          cases hc
set_option maxRecDepth 100000 in
set_option maxHeartbeats 8000000 in
theorem cut_ref_ok (k : Nat) (a i : Int) (N : Nat) (p q s : Option Addr) (n c m d u e : Nat) (L C R : List Int) (w : World) (h : RowV w p q s n c m d u e L C R) (hw : OkRw k a L C R) (hi1 : -1048576 ≤ i) (hi2 : i ≤ 1048576) (hN : N ≤ 4096) :
    Calls Tryd.prog 14 #[.int .i64 (k : Int), .agg #[.int .i64 a, .slice p n c, .slice q m d, .slice s u e], .int .i64 i, .int .i64 (N : Int)] w (RefL w none (pieceR a L C R i N)) := by
  have hzs : Rsz a n m u := rsz_of h hw
  have hPl := pieceR_length a L C R i N
  have hpc := fun W hW => piece_ref a i N p q s n c m d u e L C R W hW hzs (by omega) (by omega) (by omega)
  obtain ⟨Q, hQ⟩ : ∃ Q, pieceR a L C R i N = Q := ⟨_, rfl⟩
  rw [hQ] at hPl hpc ⊢
  unfold IntPost at hpc
  simp only [hPl] at hpc
  have hi3 : ¬ i < -1048576 := by omega
  have hi4 : ¬ 1048576 < i := by omega
  have hN4 : ¬ 4096 < N := by omega
  have HC := Lib.hid (And.intro (fun W h => rchk_ref_ok k a p q s n c m d u e L C R W h hw) (And.intro hpc hPl))
  have H := Lib.hid h
  clear h hw hzs hpc hQ hPl
  go_enter Tryd.func14, Tryd.ntmps14
  go_upto_region 1 with fail
  obtain ⟨w0, hw0⟩ : ∃ w0, w0 = (w.alloc (.cells #[.int .i64 a, .slice p n c, .slice q m d, .slice s u e] 24)).alloc (.cells #[.int .i64 0, .slice none 0 0, .slice none 0 0] 33) := ⟨_, rfl⟩
  rw [← hw0]
  obtain ⟨hb0, hE0, hF0⟩ := row_err w _ _ _ _ w0 hw0
  have HE := Lib.hid (And.intro hE0 (And.intro hF0 hb0))
  obtain ⟨hr0, hr1, hr2, hr3⟩ := hE0.facts
  clear hw0 hE0 hF0 hb0
  go_wp2_with fail
  refine (HC.out.1 w0 (H.out.next HE.out.2.2)).mono ?_
  rintro e' w1 ⟨rfl, hb1⟩
  go_upto_region 2 with fail
  obtain ⟨wB, hwB⟩ : ∃ x, x = w1.alloc (.cells #[.int .i64 0, .slice none 0 0, .slice none 0 0] 33) := ⟨_, rfl⟩
  rw [← hwB]
  obtain ⟨hbB, hEB⟩ := box_err w1 _ _ _ wB hwB
  obtain ⟨g8, hg8⟩ : ∃ x, w1.heap.size = x := ⟨_, rfl⟩
  rw [hg8] at hEB ⊢
  have h0B := hb1.trans (hbB.mono hb1.size)
  have H1 := Lib.hid (And.intro (HE.out.1.next h0B) (And.intro (HE.out.2.1.next h0B) (HE.out.2.2.trans (h0B.mono HE.out.2.2.size))))
  obtain ⟨_, hk0, hk1, hk2⟩ := hEB.facts
  clear hwB hbB hEB hg8 h0B hb1 hr0 hr1 hr2 hr3
  go_wp2_with fail
  refine (badG_no _ _ wB).mono ?_
  rintro e' wq ⟨rfl, hbq⟩
  have HQ := Lib.hid (And.intro (H1.out.1.next hbq) (And.intro (H1.out.2.1.next hbq) (H1.out.2.2.trans (hbq.mono H1.out.2.2.size))))
  clear hbq hk0 hk1 hk2
  obtain ⟨hr0, hr1, hr2, hr3⟩ := HQ.out.1.facts
  go_wp2_with fail
  refine (HC.out.2.1 wq (H.out.next HQ.out.2.2)).mono ?_
  rintro e' w8 ⟨p8, c8, rfl, o8, hb8⟩
  obtain ⟨⟨hf0, hf1, hf2⟩, hc0, hc1, hc2⟩ := (HQ.out.2.1.next hb8).facts
  have hlt0 := HQ.out.2.1.lt
  have HW := Lib.hid (And.intro (HQ.out.2.2.trans (hb8.mono HQ.out.2.2.size)) (And.intro o8 hlt0))
  clear hb8 hr0 hr1 hr2 hr3 o8 hlt0
  go_wp2_with fail
  refine bodyPost_ret (v := .tuple #[.slice p8 N c8, .agg #[.int .i64 0, .slice none 0 0, .slice none 0 0]]) (by simp [results, Tryd.results14, go_sem, hc0, hc1, hc2]) rfl ⟨p8, c8, _, _, _, _, _, _, by rw [HC.out.2.2], ?_, ⟨rfl, rfl, rfl, rfl, rfl, rfl⟩, put3_below HW.out.1 (Nat.le_succ _) _ _ _⟩
  exact (HW.out.2.1.put3 HW.out.2.2 _ _ _).base HQ.out.2.2.size
end Go.Proofs.YtfgoflaeclfggaaDoor
