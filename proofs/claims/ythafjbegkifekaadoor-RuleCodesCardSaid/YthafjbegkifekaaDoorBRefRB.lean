/- The document's own package of rules by its contracts: Check. -/
import Derived.Test.YthafjbegkifekaaDoorBRefRA
namespace Go.Proofs.YthafjbegkifekaaDoor
open Go.RowKit Go.Extern.Stop Go.Stop Go.Extern WordM RuleM NatM
attribute [local go_sem ↓] Go.wp_at_zero Go.wp_at_succ

set_option maxRecDepth 100000 in
set_option maxHeartbeats 4000000 in
theorem rcheck_ref_ok (K R : Nat) (p : Option Addr) (n c : Nat) (t : List Int) (w : World) (hn : n = t.length) (h : IntV w.heap.size w p c t) (ho : OkR K R t) :
    Calls Tryd.prog 15 #[.agg #[.int .i64 (K : Int), .int .i64 (R : Int), .slice p n c]] w (Tells noErr w) := by
  have h1 := ho.k1
  have h4 := ho.k4
  have h3 := ho.r3
  have hk1 : ¬ (K : Int) < 1 := by omega
  have hk4 : ¬ (4 : Int) < K := by omega
  have hr3 : ¬ (3 : Int) < R := by omega
  obtain ⟨R2, hR2⟩ : ∃ R2 : Nat, 2 * R = R2 := ⟨_, rfl⟩
  obtain ⟨M, hM⟩ : ∃ M : Nat, R2 + 1 = M := ⟨_, rfl⟩
  have hpw := fun W => power_ref K M W h4 (by omega)
  have hKM : K ^ M = n := by rw [← hM, ← hR2, ← ho.len, hn]
  simp only [hKM] at hpw
  have hcap := h.cap
  have hle := h.le
  unfold maxLen at hcap
  have hn63 : n ≤ 9223372036854775807 := by omega
  have w2r : IntKind.i64.wrap (2 * (R : Int)) = (R2 : Int) := by rw [IntWalk.i64_in _ (by omega)]; omega
  have wR : IntKind.i64.wrap ((R2 : Int) + 1) = (M : Int) := by rw [IntWalk.i64_in _ (by omega)]; omega
  have HP := Lib.hid hpw
  have hbn := badN_ok ho.ok
  have H := Lib.hid (And.intro h (And.intro hn hbn))
  clear hpw h hn ho hKM hbn hM hR2 hcap hle

  go_enter Tryd.func15, Tryd.ntmps15
  go_upto_region 1 with fail
  obtain ⟨w0, hw0⟩ : ∃ w0, w0 = (w.alloc (.cells #[.int .i64 (K : Int), .int .i64 (R : Int), .slice p n c] 24)).alloc (.cells #[.int .i64 0, .slice none 0 0, .slice none 0 0] 33) := ⟨_, rfl⟩
  obtain ⟨hb0, hR0, hE0⟩ := start_both w _ _ _ w0 hw0
  rw [← hw0]
  have hszb : (w.alloc (.cells #[.int .i64 (K : Int), .int .i64 (R : Int), .slice p n c] 24)).heap.size = w.heap.size + 1 := by simp
  obtain ⟨_, hr0, hr1, hr2⟩ := hR0.facts
  have HE := Lib.hid (And.intro hR0 (And.intro hE0 hb0))
  clear hw0 hR0 hE0 hb0
  go_wp2_with fail
  have hd0 : Below w0.heap.size w0 w0.drew := (Below.refl _ _).drew
  have hxA : ∀ wx : World, Below w0.heap.size w0 wx → wx.cell? ⟨w.heap.size, 0, none⟩ = some (.int .i64 (K : Int)) := fun wx hbx => (HE.out.1.next hbx).facts.2.1
  have hxB : ∀ wx : World, Below w0.heap.size w0 wx → wx.cell? ⟨w.heap.size, 1, none⟩ = some (.int .i64 (R : Int)) := fun wx hbx => (HE.out.1.next hbx).facts.2.2.1
  have hxC : ∀ wx : World, Below w0.heap.size w0 wx → wx.cell? ⟨w.heap.size, 2, none⟩ = some (.slice p n c) := fun wx hbx => (HE.out.1.next hbx).facts.2.2.2
  go_region_held3 (fun w' => w'.cell? ⟨w.heap.size, 0, none⟩ = some (.int .i64 (K : Int)) ∧ w'.cell? ⟨w.heap.size, 1, none⟩ = some (.int .i64 (R : Int)) ∧ w'.cell? ⟨w.heap.size, 2, none⟩ = some (.slice p n c)) (first | exact ⟨hxA _ hd0, hxB _ hd0, hxC _ hd0⟩ | go_keep) (first
    | (go_at_call 41; refine (HP.out _).mono ?_; rintro e w9 ⟨rfl, rfl⟩))
  all_goals
    obtain ⟨wd, hwd⟩ : ∃ x, x = w0.drew := ⟨_, rfl⟩
    rw [← hwd]
    have hdr : Err3 wd (w.heap.size + 1) (.int .i64 0) (.slice none 0 0) (.slice none 0 0) := by rw [hwd]; exact HE.out.2.1.next hd0
    have hbd : Below w.heap.size w wd := by rw [hwd]; exact HE.out.2.2.trans (hd0.mono HE.out.2.2.size)
    have hxd : Rul3 wd w.heap.size (.int .i64 (K : Int)) (.int .i64 (R : Int)) (.slice p n c) := by rw [hwd]; exact HE.out.1.next hd0
    clear hr0 hr1 hr2
    obtain ⟨_, hr0, hr1, hr2⟩ := hxd.facts
    have HD := Lib.hid (And.intro hdr (And.intro hbd hxd))
    clear hdr hbd hxd hxA hxB hxC hd0 hwd
    go_wp2_with fail
    refine (bad_ref (K : Int) p n c t wd H.out.2.1 (H.out.1.next HD.out.2.1)).mono ?_
    rintro e w1 ⟨rfl, rfl⟩
    rw [H.out.2.2]
    obtain ⟨⟨hf0, hf1, hf2⟩, hc0, hc1, hc2⟩ := HD.out.1.facts
    go_wp2_with fail
    refine bodyPost_ret (v := noErr) (by simp [results, Tryd.results15, go_sem, hc0, hc1, hc2, noErr]) rfl ⟨rfl, ?_⟩
    exact put3_below HD.out.2.1 (Nat.le_succ _) _ _ _

set_option maxRecDepth 100000 in
set_option maxHeartbeats 8000000 in
theorem rcheck_ref_bad (k r : Int) (p : Option Addr) (n c : Nat) (t : List Int) (w : World) (hn : n = t.length) (h : IntV w.heap.size w p c t) (i : Nat) (hc : chkR k r t = some i) :
    Calls Tryd.prog 15 #[.agg #[.int .i64 k, .int .i64 r, .slice p n c]] w (RefErrR1 w i 1) := by
  have hcap := h.cap
  have hle := h.le
  unfold maxLen at hcap
  have hn63 : n ≤ 9223372036854775807 := by omega
  clear hcap hle
  unfold chkR at hc
  split at hc
  · obtain rfl := Option.some.inj hc
    rename_i hk
    clear h hn hc
    rcases (by omega : k < 1 ∨ (¬ k < 1 ∧ 4 < k)) with h1 | ⟨h1, h2⟩
    all_goals
      clear hk
      go_enter Tryd.func15, Tryd.ntmps15
      go_upto_region 1 with fail
      obtain ⟨w0, hw0⟩ : ∃ w0, w0 = (w.alloc (.cells #[.int .i64 k, .int .i64 r, .slice p n c] 24)).alloc (.cells #[.int .i64 0, .slice none 0 0, .slice none 0 0] 33) := ⟨_, rfl⟩
      obtain ⟨hb0, hR0, hE0⟩ := start_both w _ _ _ w0 hw0
      rw [← hw0]
      have hszb : (w.alloc (.cells #[.int .i64 k, .int .i64 r, .slice p n c] 24)).heap.size = w.heap.size + 1 := by simp
      obtain ⟨_, hr0, hr1, hr2⟩ := hR0.facts
      have HE := Lib.hid (And.intro hR0 (And.intro hE0 hb0))
      clear hw0 hR0 hE0 hb0
      go_wp2_with fail
      refine (raw_fresh ruleOp 0 1 w0).mono ?_
      rintro e w2 ⟨g, g', rfl, hg, hcg, hcg', hb2⟩
      obtain ⟨⟨hf0, hf1, hf2⟩, hc0, hc1, hc2⟩ := (HE.out.2.1.next hb2).facts
      have HB := Lib.hid (RefErrR.laid (k := 1) HE.out.2.2 (Nat.le_succ _) HE.out.2.1.lt hg hcg hcg' hb2)
      clear hb2 hcg hcg' hg
      go_wp2_with fail
      refine bodyPost_ret (v := .agg #[.int .i64 1, .slice (some ⟨g, 0, none⟩) 1 1, .slice (some ⟨g', 0, none⟩) 1 1]) (by simp [results, Tryd.results15, go_sem, hc0, hc1, hc2]) rfl ⟨_, rfl, ?_⟩
      exact HB.out _ _ _
  · rename_i hk
    have h1 : ¬ k < 1 := by omega
    have h4 : ¬ 4 < k := by omega
    split at hc
    · obtain rfl := Option.some.inj hc
      rename_i hrr
      clear h hn hc hk
      rcases (by omega : r < 0 ∨ (¬ r < 0 ∧ 3 < r)) with h2 | ⟨h2, h3⟩
      all_goals
        clear hrr
        go_enter Tryd.func15, Tryd.ntmps15
        go_upto_region 1 with fail
        obtain ⟨w0, hw0⟩ : ∃ w0, w0 = (w.alloc (.cells #[.int .i64 k, .int .i64 r, .slice p n c] 24)).alloc (.cells #[.int .i64 0, .slice none 0 0, .slice none 0 0] 33) := ⟨_, rfl⟩
        obtain ⟨hb0, hR0, hE0⟩ := start_both w _ _ _ w0 hw0
        rw [← hw0]
        have hszb : (w.alloc (.cells #[.int .i64 k, .int .i64 r, .slice p n c] 24)).heap.size = w.heap.size + 1 := by simp
        obtain ⟨_, hr0, hr1, hr2⟩ := hR0.facts
        have HE := Lib.hid (And.intro hR0 (And.intro hE0 hb0))
        clear hw0 hR0 hE0 hb0
        go_wp2_with fail
        refine (raw_fresh ruleOp 1 1 w0).mono ?_
        rintro e w2 ⟨g, g', rfl, hg, hcg, hcg', hb2⟩
        obtain ⟨⟨hf0, hf1, hf2⟩, hc0, hc1, hc2⟩ := (HE.out.2.1.next hb2).facts
        have HB := Lib.hid (RefErrR.laid (k := 1) HE.out.2.2 (Nat.le_succ _) HE.out.2.1.lt hg hcg hcg' hb2)
        clear hb2 hcg hcg' hg
        go_wp2_with fail
        refine bodyPost_ret (v := .agg #[.int .i64 1, .slice (some ⟨g, 0, none⟩) 1 1, .slice (some ⟨g', 0, none⟩) 1 1]) (by simp [results, Tryd.results15, go_sem, hc0, hc1, hc2]) rfl ⟨_, rfl, ?_⟩
        exact HB.out _ _ _
    · rename_i hrr
      obtain ⟨K, rfl⟩ : ∃ K : Nat, k = K := ⟨k.toNat, by omega⟩
      obtain ⟨R, rfl⟩ : ∃ R : Nat, r = R := ⟨r.toNat, by omega⟩
      have hk4 : K ≤ 4 := by omega
      have hr0' : ¬ (R : Int) < 0 := by omega
      have hr3 : ¬ (3 : Int) < R := by omega
      obtain ⟨R2, hR2⟩ : ∃ R2 : Nat, 2 * R = R2 := ⟨_, rfl⟩
      obtain ⟨M, hM⟩ : ∃ M : Nat, R2 + 1 = M := ⟨_, rfl⟩
      have hpw := fun W => power_ref K M W hk4 (by omega)
      obtain ⟨S, hS⟩ : ∃ S, K ^ M = S := ⟨_, rfl⟩
      have hSle : S ≤ 16384 := by rw [← hS]; exact small_pow7 hk4 (by omega)
      simp only [hS] at hpw
      rw [Int.toNat_natCast, Int.toNat_natCast, hR2, hM, hS] at hc
      have w2r : IntKind.i64.wrap (2 * (R : Int)) = (R2 : Int) := by rw [IntWalk.i64_in _ (by omega)]; omega
      have wR : IntKind.i64.wrap ((R2 : Int) + 1) = (M : Int) := by rw [IntWalk.i64_in _ (by omega)]; omega
      clear hR2 hM hS hk hrr
      split at hc
      · obtain rfl := Option.some.inj hc
        rename_i hlen
        have HP := Lib.hid hpw
        have hnS : ((n : Int) == (S : Int)) = false := by rw [beq_eq_false_iff_ne]; omega
        have hnS' : ((n : Int) != (S : Int)) = true := by rw [bne, hnS]; rfl
        clear hpw h hn hc hlen
        go_enter Tryd.func15, Tryd.ntmps15
        go_upto_region 1 with fail
        obtain ⟨w0, hw0⟩ : ∃ w0, w0 = (w.alloc (.cells #[.int .i64 (K : Int), .int .i64 (R : Int), .slice p n c] 24)).alloc (.cells #[.int .i64 0, .slice none 0 0, .slice none 0 0] 33) := ⟨_, rfl⟩
        obtain ⟨hb0, hR0, hE0⟩ := start_both w _ _ _ w0 hw0
        rw [← hw0]
        have hszb : (w.alloc (.cells #[.int .i64 (K : Int), .int .i64 (R : Int), .slice p n c] 24)).heap.size = w.heap.size + 1 := by simp
        obtain ⟨_, hr0, hr1, hr2⟩ := hR0.facts
        have HE := Lib.hid (And.intro hR0 (And.intro hE0 hb0))
        clear hw0 hR0 hE0 hb0
        go_wp2_with fail
        have hd0 : Below w0.heap.size w0 w0.drew := (Below.refl _ _).drew
        have hxA : ∀ wx : World, Below w0.heap.size w0 wx → wx.cell? ⟨w.heap.size, 0, none⟩ = some (.int .i64 (K : Int)) := fun wx hbx => (HE.out.1.next hbx).facts.2.1
        have hxB : ∀ wx : World, Below w0.heap.size w0 wx → wx.cell? ⟨w.heap.size, 1, none⟩ = some (.int .i64 (R : Int)) := fun wx hbx => (HE.out.1.next hbx).facts.2.2.1
        have hxC : ∀ wx : World, Below w0.heap.size w0 wx → wx.cell? ⟨w.heap.size, 2, none⟩ = some (.slice p n c) := fun wx hbx => (HE.out.1.next hbx).facts.2.2.2
        go_region_held3 (fun w' => w'.cell? ⟨w.heap.size, 0, none⟩ = some (.int .i64 (K : Int)) ∧ w'.cell? ⟨w.heap.size, 1, none⟩ = some (.int .i64 (R : Int)) ∧ w'.cell? ⟨w.heap.size, 2, none⟩ = some (.slice p n c)) (first | exact ⟨hxA _ hd0, hxB _ hd0, hxC _ hd0⟩ | go_keep) (first
          | (go_at_call 41; refine (HP.out _).mono ?_; rintro e w9 ⟨rfl, rfl⟩))
        all_goals
          obtain ⟨wd, hwd⟩ : ∃ x, x = w0.drew := ⟨_, rfl⟩
          rw [← hwd]
          have hdr : Err3 wd (w.heap.size + 1) (.int .i64 0) (.slice none 0 0) (.slice none 0 0) := by rw [hwd]; exact HE.out.2.1.next hd0
          have hbd : Below w.heap.size w wd := by rw [hwd]; exact HE.out.2.2.trans (hd0.mono HE.out.2.2.size)
          have hxd : Rul3 wd w.heap.size (.int .i64 (K : Int)) (.int .i64 (R : Int)) (.slice p n c) := by rw [hwd]; exact HE.out.1.next hd0
          clear hr0 hr1 hr2
          obtain ⟨_, hr0, hr1, hr2⟩ := hxd.facts
          have HD := Lib.hid (And.intro hdr (And.intro hbd hxd))
          clear hdr hbd hxd hxA hxB hxC hd0 hwd
          go_wp2_with fail
          refine (raw_fresh ruleOp 2 1 wd).mono ?_
          rintro e w2 ⟨g, g', rfl, hg, hcg, hcg', hb2⟩
          obtain ⟨⟨hf0, hf1, hf2⟩, hc0, hc1, hc2⟩ := (HD.out.1.next hb2).facts
          have HB := Lib.hid (RefErrR.laid (k := 1) HD.out.2.1 (Nat.le_succ _) HD.out.1.lt hg hcg hcg' hb2)
          clear hb2 hcg hcg' hg
          go_wp2_with fail
          refine bodyPost_ret (v := .agg #[.int .i64 1, .slice (some ⟨g, 0, none⟩) 1 1, .slice (some ⟨g', 0, none⟩) 1 1]) (by simp [results, Tryd.results15, go_sem, hc0, hc1, hc2]) rfl ⟨_, rfl, ?_⟩
          exact HB.out _ _ _
      · rename_i hlen
        obtain ⟨j, hj, rfl⟩ := Option.map_eq_some_iff.1 hc
        have hbn := badN_bad hj
        have hjl := strayN_lt hj
        have hnS : S = n := by omega
        have hjn : j < n := by omega
        simp only [hnS] at hpw
        have HP := Lib.hid hpw
        have H := Lib.hid (And.intro h (And.intro hn hbn))
        have w3j : IntKind.i64.wrap (3 + (j : Int)) = 3 + (j : Int) := by rw [IntWalk.i64_in _ (by omega)]
        have hp3 : ((3 + j : Nat) : Int) = 3 + (j : Int) := by push_cast; rfl
        rw [hp3]
        clear hpw h hn hc hlen hj hjl hbn hnS hp3
        go_enter Tryd.func15, Tryd.ntmps15
        go_upto_region 1 with fail
        obtain ⟨w0, hw0⟩ : ∃ w0, w0 = (w.alloc (.cells #[.int .i64 (K : Int), .int .i64 (R : Int), .slice p n c] 24)).alloc (.cells #[.int .i64 0, .slice none 0 0, .slice none 0 0] 33) := ⟨_, rfl⟩
        obtain ⟨hb0, hR0, hE0⟩ := start_both w _ _ _ w0 hw0
        rw [← hw0]
        have hszb : (w.alloc (.cells #[.int .i64 (K : Int), .int .i64 (R : Int), .slice p n c] 24)).heap.size = w.heap.size + 1 := by simp
        obtain ⟨_, hr0, hr1, hr2⟩ := hR0.facts
        have HE := Lib.hid (And.intro hR0 (And.intro hE0 hb0))
        clear hw0 hR0 hE0 hb0
        go_wp2_with fail
        have hd0 : Below w0.heap.size w0 w0.drew := (Below.refl _ _).drew
        have hxA : ∀ wx : World, Below w0.heap.size w0 wx → wx.cell? ⟨w.heap.size, 0, none⟩ = some (.int .i64 (K : Int)) := fun wx hbx => (HE.out.1.next hbx).facts.2.1
        have hxB : ∀ wx : World, Below w0.heap.size w0 wx → wx.cell? ⟨w.heap.size, 1, none⟩ = some (.int .i64 (R : Int)) := fun wx hbx => (HE.out.1.next hbx).facts.2.2.1
        have hxC : ∀ wx : World, Below w0.heap.size w0 wx → wx.cell? ⟨w.heap.size, 2, none⟩ = some (.slice p n c) := fun wx hbx => (HE.out.1.next hbx).facts.2.2.2
        go_region_held3 (fun w' => w'.cell? ⟨w.heap.size, 0, none⟩ = some (.int .i64 (K : Int)) ∧ w'.cell? ⟨w.heap.size, 1, none⟩ = some (.int .i64 (R : Int)) ∧ w'.cell? ⟨w.heap.size, 2, none⟩ = some (.slice p n c)) (first | exact ⟨hxA _ hd0, hxB _ hd0, hxC _ hd0⟩ | go_keep) (first
          | (go_at_call 41; refine (HP.out _).mono ?_; rintro e w9 ⟨rfl, rfl⟩))
        all_goals
          obtain ⟨wd, hwd⟩ : ∃ x, x = w0.drew := ⟨_, rfl⟩
          rw [← hwd]
          have hdr : Err3 wd (w.heap.size + 1) (.int .i64 0) (.slice none 0 0) (.slice none 0 0) := by rw [hwd]; exact HE.out.2.1.next hd0
          have hbd : Below w.heap.size w wd := by rw [hwd]; exact HE.out.2.2.trans (hd0.mono HE.out.2.2.size)
          have hxd : Rul3 wd w.heap.size (.int .i64 (K : Int)) (.int .i64 (R : Int)) (.slice p n c) := by rw [hwd]; exact HE.out.1.next hd0
          clear hr0 hr1 hr2
          obtain ⟨_, hr0, hr1, hr2⟩ := hxd.facts
          have HD := Lib.hid (And.intro hdr (And.intro hbd hxd))
          clear hdr hbd hxd hxA hxB hxC hd0 hwd
          go_wp2_with fail
          refine (bad_ref (K : Int) p n c t wd H.out.2.1 (H.out.1.next HD.out.2.1)).mono ?_
          rintro e w1 ⟨rfl, rfl⟩
          rw [H.out.2.2]
          go_wp2_with fail
          refine (raw_fresh ruleOp (3 + (j : Int)) 1 wd).mono ?_
          rintro e w2 ⟨g, g', rfl, hg, hcg, hcg', hb2⟩
          obtain ⟨⟨hf0, hf1, hf2⟩, hc0, hc1, hc2⟩ := (HD.out.1.next hb2).facts
          have HB := Lib.hid (RefErrR.laid (k := 1) HD.out.2.1 (Nat.le_succ _) HD.out.1.lt hg hcg hcg' hb2)
          clear hb2 hcg hcg' hg
          go_wp2_with fail
          refine bodyPost_ret (v := .agg #[.int .i64 1, .slice (some ⟨g, 0, none⟩) 1 1, .slice (some ⟨g', 0, none⟩) 1 1]) (by simp [results, Tryd.results15, go_sem, hc0, hc1, hc2]) rfl ⟨_, rfl, ?_⟩
          exact HB.out _ _ _
end Go.Proofs.YthafjbegkifekaaDoor
