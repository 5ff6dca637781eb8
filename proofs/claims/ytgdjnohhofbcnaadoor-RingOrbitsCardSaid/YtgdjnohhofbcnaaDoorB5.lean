/- The document's own package of rules by its contracts: Check.
edenraw.Under by its contract: an Err, told further.
The document's own package of words by its contracts, first part: Back.
The document's own package of words by its contracts, second part: Cmp, Turn, Least, Period.
The document's own package of words by its contracts, third part: Period. -/
import Derived.Test.YtgdjnohhofbcnaaDoorB4
import Derived.Test.YtgdjnohhofbcnaaDoorB1
import Derived.Test.YtgdjnohhofbcnaaDoorB2
import Derived.Test.YtgdjnohhofbcnaaDoorB3
import Derived.Deep.AppendLies
import Derived.Deep.RegionWith
import Derived.Deep.RegionHeld3
import Derived.Deep.DrawnRows
section
namespace Go.Proofs.YtgdjnohhofbcnaaDoor
open Go.RowKit Go.Extern.Stop Go.Stop Go.Extern WordM RuleM NatM
attribute [local go_sem ↓] Go.wp_at_zero Go.wp_at_succ

set_option maxRecDepth 100000 in
set_option maxHeartbeats 4000000 in
theorem rcheck_ref_ok (K R : Nat) (p : Option Addr) (n c : Nat) (t : List Int) (w : World) (hn : n = t.length) (h : IntV w.heap.size w p c t) (ho : OkR K R t) :
    Calls Tryd.prog 57 #[.agg #[.int .i64 (K : Int), .int .i64 (R : Int), .slice p n c]] w (Tells noErr w) := by
  have h1 := ho.k1
  have h4 := ho.k4
  have h3 := ho.r3
  have hk1 : ¬ (K : Int) < 1 := by omega
  have hk4 : ¬ (4 : Int) < K := by omega
  have hr3 : ¬ (3 : Int) < R := by omega
  obtain ⟨R2, hR2⟩ : ∃ R2 : Nat, 2 * R = R2 := ⟨_, rfl⟩
  obtain ⟨M, hM⟩ : ∃ M : Nat, R2 + 1 = M := ⟨_, rfl⟩
  have hpw := fun W => power_ref K M W h4 (by omega)
  have hKM : K ^ M = n := by rw [← hM, ← hR2, ← ho.len, hn]
  simp only [hKM] at hpw
  have hcap := h.cap
  have hle := h.le
  unfold maxLen at hcap
  have hn63 : n ≤ 9223372036854775807 := by omega
  have w2r : IntKind.i64.wrap (2 * (R : Int)) = (R2 : Int) := by rw [IntWalk.i64_in _ (by omega)]; omega
  have wR : IntKind.i64.wrap ((R2 : Int) + 1) = (M : Int) := by rw [IntWalk.i64_in _ (by omega)]; omega
  have HP := Lib.hid hpw
  have hbn := badN_ok ho.ok
  have H := Lib.hid (And.intro h (And.intro hn hbn))
  clear hpw h hn ho hKM hbn hM hR2 hcap hle

  go_enter Tryd.func57, Tryd.ntmps57
  go_upto_region 1 with fail
  obtain ⟨w0, hw0⟩ : ∃ w0, w0 = (w.alloc (.cells #[.int .i64 (K : Int), .int .i64 (R : Int), .slice p n c] 24)).alloc (.cells #[.int .i64 0, .slice none 0 0, .slice none 0 0] 34) := ⟨_, rfl⟩
  obtain ⟨hb0, hR0, hE0⟩ := start_both w _ _ _ w0 hw0
  rw [← hw0]
  have hszb : (w.alloc (.cells #[.int .i64 (K : Int), .int .i64 (R : Int), .slice p n c] 24)).heap.size = w.heap.size + 1 := by simp
  obtain ⟨_, hr0, hr1, hr2⟩ := hR0.facts
  have HE := Lib.hid (And.intro hR0 (And.intro hE0 hb0))
  clear hw0 hR0 hE0 hb0
  go_wp2_with fail
  have hd0 : Below w0.heap.size w0 w0.drew := (Below.refl _ _).drew
  have hxA : ∀ wx : World, Below w0.heap.size w0 wx → wx.cell? ⟨w.heap.size, 0, none⟩ = some (.int .i64 (K : Int)) := fun wx hbx => (HE.out.1.next hbx).facts.2.1
  have hxB : ∀ wx : World, Below w0.heap.size w0 wx → wx.cell? ⟨w.heap.size, 1, none⟩ = some (.int .i64 (R : Int)) := fun wx hbx => (HE.out.1.next hbx).facts.2.2.1
  have hxC : ∀ wx : World, Below w0.heap.size w0 wx → wx.cell? ⟨w.heap.size, 2, none⟩ = some (.slice p n c) := fun wx hbx => (HE.out.1.next hbx).facts.2.2.2
  go_region_held3 (fun w' => w'.cell? ⟨w.heap.size, 0, none⟩ = some (.int .i64 (K : Int)) ∧ w'.cell? ⟨w.heap.size, 1, none⟩ = some (.int .i64 (R : Int)) ∧ w'.cell? ⟨w.heap.size, 2, none⟩ = some (.slice p n c)) (first | exact ⟨hxA _ hd0, hxB _ hd0, hxC _ hd0⟩ | go_keep) (first
    | (go_at_call 75; refine (HP.out _).mono ?_; rintro e w9 ⟨rfl, rfl⟩))
  all_goals
    obtain ⟨wd, hwd⟩ : ∃ x, x = w0.drew := ⟨_, rfl⟩
    rw [← hwd]
    have hdr : Err3 wd (w.heap.size + 1) (.int .i64 0) (.slice none 0 0) (.slice none 0 0) := by rw [hwd]; exact HE.out.2.1.next hd0
    have hbd : Below w.heap.size w wd := by rw [hwd]; exact HE.out.2.2.trans (hd0.mono HE.out.2.2.size)
    have hxd : Rul3 wd w.heap.size (.int .i64 (K : Int)) (.int .i64 (R : Int)) (.slice p n c) := by rw [hwd]; exact HE.out.1.next hd0
    clear hr0 hr1 hr2
    obtain ⟨_, hr0, hr1, hr2⟩ := hxd.facts
    have HD := Lib.hid (And.intro hdr (And.intro hbd hxd))
    clear hdr hbd hxd hxA hxB hxC hd0 hwd
    go_wp2_with fail
    refine (bad_ref (K : Int) p n c t wd H.out.2.1 (H.out.1.next HD.out.2.1)).mono ?_
    rintro e w1 ⟨rfl, rfl⟩
    rw [H.out.2.2]
    obtain ⟨⟨hf0, hf1, hf2⟩, hc0, hc1, hc2⟩ := HD.out.1.facts
    go_wp2_with fail
    refine bodyPost_ret (v := noErr) (by simp [results, Tryd.results57, go_sem, hc0, hc1, hc2, noErr]) rfl ⟨rfl, ?_⟩
    exact put3_below HD.out.2.1 (Nat.le_succ _) _ _ _

set_option maxRecDepth 100000 in
set_option maxHeartbeats 8000000 in
theorem rcheck_ref_bad (k r : Int) (p : Option Addr) (n c : Nat) (t : List Int) (w : World) (hn : n = t.length) (h : IntV w.heap.size w p c t) (i : Nat) (hc : chkR k r t = some i) :
    Calls Tryd.prog 57 #[.agg #[.int .i64 k, .int .i64 r, .slice p n c]] w (RefErrR1 w i 1) := by
  have hcap := h.cap
  have hle := h.le
  unfold maxLen at hcap
  have hn63 : n ≤ 9223372036854775807 := by omega
  clear hcap hle
  unfold chkR at hc
  split at hc
  · obtain rfl := Option.some.inj hc
    rename_i hk
    clear h hn hc
    rcases (by omega : k < 1 ∨ (¬ k < 1 ∧ 4 < k)) with h1 | ⟨h1, h2⟩
    all_goals
      clear hk
      go_enter Tryd.func57, Tryd.ntmps57
      go_upto_region 1 with fail
      obtain ⟨w0, hw0⟩ : ∃ w0, w0 = (w.alloc (.cells #[.int .i64 k, .int .i64 r, .slice p n c] 24)).alloc (.cells #[.int .i64 0, .slice none 0 0, .slice none 0 0] 34) := ⟨_, rfl⟩
      obtain ⟨hb0, hR0, hE0⟩ := start_both w _ _ _ w0 hw0
      rw [← hw0]
      have hszb : (w.alloc (.cells #[.int .i64 k, .int .i64 r, .slice p n c] 24)).heap.size = w.heap.size + 1 := by simp
      obtain ⟨_, hr0, hr1, hr2⟩ := hR0.facts
      have HE := Lib.hid (And.intro hR0 (And.intro hE0 hb0))
      clear hw0 hR0 hE0 hb0
      go_wp2_with fail
      refine (raw_fresh ruleOp 0 1 w0).mono ?_
      rintro e w2 ⟨g, g', rfl, hg, hcg, hcg', hb2⟩
      obtain ⟨⟨hf0, hf1, hf2⟩, hc0, hc1, hc2⟩ := (HE.out.2.1.next hb2).facts
      have HB := Lib.hid (RefErrR.laid (k := 1) HE.out.2.2 (Nat.le_succ _) HE.out.2.1.lt hg hcg hcg' hb2)
      clear hb2 hcg hcg' hg
      go_wp2_with fail
      refine bodyPost_ret (v := .agg #[.int .i64 1, .slice (some ⟨g, 0, none⟩) 1 1, .slice (some ⟨g', 0, none⟩) 1 1]) (by simp [results, Tryd.results57, go_sem, hc0, hc1, hc2]) rfl ⟨_, rfl, ?_⟩
      exact HB.out _ _ _
  · rename_i hk
    have h1 : ¬ k < 1 := by omega
    have h4 : ¬ 4 < k := by omega
    split at hc
    · obtain rfl := Option.some.inj hc
      rename_i hrr
      clear h hn hc hk
      rcases (by omega : r < 0 ∨ (¬ r < 0 ∧ 3 < r)) with h2 | ⟨h2, h3⟩
      all_goals
        clear hrr
        go_enter Tryd.func57, Tryd.ntmps57
        go_upto_region 1 with fail
        obtain ⟨w0, hw0⟩ : ∃ w0, w0 = (w.alloc (.cells #[.int .i64 k, .int .i64 r, .slice p n c] 24)).alloc (.cells #[.int .i64 0, .slice none 0 0, .slice none 0 0] 34) := ⟨_, rfl⟩
        obtain ⟨hb0, hR0, hE0⟩ := start_both w _ _ _ w0 hw0
        rw [← hw0]
        have hszb : (w.alloc (.cells #[.int .i64 k, .int .i64 r, .slice p n c] 24)).heap.size = w.heap.size + 1 := by simp
        obtain ⟨_, hr0, hr1, hr2⟩ := hR0.facts
        have HE := Lib.hid (And.intro hR0 (And.intro hE0 hb0))
        clear hw0 hR0 hE0 hb0
        go_wp2_with fail
        refine (raw_fresh ruleOp 1 1 w0).mono ?_
        rintro e w2 ⟨g, g', rfl, hg, hcg, hcg', hb2⟩
        obtain ⟨⟨hf0, hf1, hf2⟩, hc0, hc1, hc2⟩ := (HE.out.2.1.next hb2).facts
        have HB := Lib.hid (RefErrR.laid (k := 1) HE.out.2.2 (Nat.le_succ _) HE.out.2.1.lt hg hcg hcg' hb2)
        clear hb2 hcg hcg' hg
        go_wp2_with fail
        refine bodyPost_ret (v := .agg #[.int .i64 1, .slice (some ⟨g, 0, none⟩) 1 1, .slice (some ⟨g', 0, none⟩) 1 1]) (by simp [results, Tryd.results57, go_sem, hc0, hc1, hc2]) rfl ⟨_, rfl, ?_⟩
        exact HB.out _ _ _
    · rename_i hrr
      obtain ⟨K, rfl⟩ : ∃ K : Nat, k = K := ⟨k.toNat, by omega⟩
      obtain ⟨R, rfl⟩ : ∃ R : Nat, r = R := ⟨r.toNat, by omega⟩
      have hk4 : K ≤ 4 := by omega
      have hr0' : ¬ (R : Int) < 0 := by omega
      have hr3 : ¬ (3 : Int) < R := by omega
      obtain ⟨R2, hR2⟩ : ∃ R2 : Nat, 2 * R = R2 := ⟨_, rfl⟩
      obtain ⟨M, hM⟩ : ∃ M : Nat, R2 + 1 = M := ⟨_, rfl⟩
      have hpw := fun W => power_ref K M W hk4 (by omega)
      obtain ⟨S, hS⟩ : ∃ S, K ^ M = S := ⟨_, rfl⟩
      have hSle : S ≤ 16384 := by rw [← hS]; exact small_pow7 hk4 (by omega)
      simp only [hS] at hpw
      rw [Int.toNat_natCast, Int.toNat_natCast, hR2, hM, hS] at hc
      have w2r : IntKind.i64.wrap (2 * (R : Int)) = (R2 : Int) := by rw [IntWalk.i64_in _ (by omega)]; omega
      have wR : IntKind.i64.wrap ((R2 : Int) + 1) = (M : Int) := by rw [IntWalk.i64_in _ (by omega)]; omega
      clear hR2 hM hS hk hrr
      split at hc
      · obtain rfl := Option.some.inj hc
        rename_i hlen
        have HP := Lib.hid hpw
        have hnS : ((n : Int) == (S : Int)) = false := by rw [beq_eq_false_iff_ne]; omega
        have hnS' : ((n : Int) != (S : Int)) = true := by rw [bne, hnS]; rfl
        clear hpw h hn hc hlen
        go_enter Tryd.func57, Tryd.ntmps57
        go_upto_region 1 with fail
        obtain ⟨w0, hw0⟩ : ∃ w0, w0 = (w.alloc (.cells #[.int .i64 (K : Int), .int .i64 (R : Int), .slice p n c] 24)).alloc (.cells #[.int .i64 0, .slice none 0 0, .slice none 0 0] 34) := ⟨_, rfl⟩
        obtain ⟨hb0, hR0, hE0⟩ := start_both w _ _ _ w0 hw0
        rw [← hw0]
        have hszb : (w.alloc (.cells #[.int .i64 (K : Int), .int .i64 (R : Int), .slice p n c] 24)).heap.size = w.heap.size + 1 := by simp
        obtain ⟨_, hr0, hr1, hr2⟩ := hR0.facts
        have HE := Lib.hid (And.intro hR0 (And.intro hE0 hb0))
        clear hw0 hR0 hE0 hb0
        go_wp2_with fail
        have hd0 : Below w0.heap.size w0 w0.drew := (Below.refl _ _).drew
        have hxA : ∀ wx : World, Below w0.heap.size w0 wx → wx.cell? ⟨w.heap.size, 0, none⟩ = some (.int .i64 (K : Int)) := fun wx hbx => (HE.out.1.next hbx).facts.2.1
        have hxB : ∀ wx : World, Below w0.heap.size w0 wx → wx.cell? ⟨w.heap.size, 1, none⟩ = some (.int .i64 (R : Int)) := fun wx hbx => (HE.out.1.next hbx).facts.2.2.1
        have hxC : ∀ wx : World, Below w0.heap.size w0 wx → wx.cell? ⟨w.heap.size, 2, none⟩ = some (.slice p n c) := fun wx hbx => (HE.out.1.next hbx).facts.2.2.2
        go_region_held3 (fun w' => w'.cell? ⟨w.heap.size, 0, none⟩ = some (.int .i64 (K : Int)) ∧ w'.cell? ⟨w.heap.size, 1, none⟩ = some (.int .i64 (R : Int)) ∧ w'.cell? ⟨w.heap.size, 2, none⟩ = some (.slice p n c)) (first | exact ⟨hxA _ hd0, hxB _ hd0, hxC _ hd0⟩ | go_keep) (first
          | (go_at_call 75; refine (HP.out _).mono ?_; rintro e w9 ⟨rfl, rfl⟩))
        all_goals
          obtain ⟨wd, hwd⟩ : ∃ x, x = w0.drew := ⟨_, rfl⟩
          rw [← hwd]
          have hdr : Err3 wd (w.heap.size + 1) (.int .i64 0) (.slice none 0 0) (.slice none 0 0) := by rw [hwd]; exact HE.out.2.1.next hd0
          have hbd : Below w.heap.size w wd := by rw [hwd]; exact HE.out.2.2.trans (hd0.mono HE.out.2.2.size)
          have hxd : Rul3 wd w.heap.size (.int .i64 (K : Int)) (.int .i64 (R : Int)) (.slice p n c) := by rw [hwd]; exact HE.out.1.next hd0
          clear hr0 hr1 hr2
          obtain ⟨_, hr0, hr1, hr2⟩ := hxd.facts
          have HD := Lib.hid (And.intro hdr (And.intro hbd hxd))
          clear hdr hbd hxd hxA hxB hxC hd0 hwd
          go_wp2_with fail
          refine (raw_fresh ruleOp 2 1 wd).mono ?_
          rintro e w2 ⟨g, g', rfl, hg, hcg, hcg', hb2⟩
          obtain ⟨⟨hf0, hf1, hf2⟩, hc0, hc1, hc2⟩ := (HD.out.1.next hb2).facts
          have HB := Lib.hid (RefErrR.laid (k := 1) HD.out.2.1 (Nat.le_succ _) HD.out.1.lt hg hcg hcg' hb2)
          clear hb2 hcg hcg' hg
          go_wp2_with fail
          refine bodyPost_ret (v := .agg #[.int .i64 1, .slice (some ⟨g, 0, none⟩) 1 1, .slice (some ⟨g', 0, none⟩) 1 1]) (by simp [results, Tryd.results57, go_sem, hc0, hc1, hc2]) rfl ⟨_, rfl, ?_⟩
          exact HB.out _ _ _
      · rename_i hlen
        obtain ⟨j, hj, rfl⟩ := Option.map_eq_some_iff.1 hc
        have hbn := badN_bad hj
        have hjl := strayN_lt hj
        have hnS : S = n := by omega
        have hjn : j < n := by omega
        simp only [hnS] at hpw
        have HP := Lib.hid hpw
        have H := Lib.hid (And.intro h (And.intro hn hbn))
        have w3j : IntKind.i64.wrap (3 + (j : Int)) = 3 + (j : Int) := by rw [IntWalk.i64_in _ (by omega)]
        have hp3 : ((3 + j : Nat) : Int) = 3 + (j : Int) := by push_cast; rfl
        rw [hp3]
        clear hpw h hn hc hlen hj hjl hbn hnS hp3
        go_enter Tryd.func57, Tryd.ntmps57
        go_upto_region 1 with fail
        obtain ⟨w0, hw0⟩ : ∃ w0, w0 = (w.alloc (.cells #[.int .i64 (K : Int), .int .i64 (R : Int), .slice p n c] 24)).alloc (.cells #[.int .i64 0, .slice none 0 0, .slice none 0 0] 34) := ⟨_, rfl⟩
        obtain ⟨hb0, hR0, hE0⟩ := start_both w _ _ _ w0 hw0
        rw [← hw0]
        have hszb : (w.alloc (.cells #[.int .i64 (K : Int), .int .i64 (R : Int), .slice p n c] 24)).heap.size = w.heap.size + 1 := by simp
        obtain ⟨_, hr0, hr1, hr2⟩ := hR0.facts
        have HE := Lib.hid (And.intro hR0 (And.intro hE0 hb0))
        clear hw0 hR0 hE0 hb0
        go_wp2_with fail
        have hd0 : Below w0.heap.size w0 w0.drew := (Below.refl _ _).drew
        have hxA : ∀ wx : World, Below w0.heap.size w0 wx → wx.cell? ⟨w.heap.size, 0, none⟩ = some (.int .i64 (K : Int)) := fun wx hbx => (HE.out.1.next hbx).facts.2.1
        have hxB : ∀ wx : World, Below w0.heap.size w0 wx → wx.cell? ⟨w.heap.size, 1, none⟩ = some (.int .i64 (R : Int)) := fun wx hbx => (HE.out.1.next hbx).facts.2.2.1
        have hxC : ∀ wx : World, Below w0.heap.size w0 wx → wx.cell? ⟨w.heap.size, 2, none⟩ = some (.slice p n c) := fun wx hbx => (HE.out.1.next hbx).facts.2.2.2
        go_region_held3 (fun w' => w'.cell? ⟨w.heap.size, 0, none⟩ = some (.int .i64 (K : Int)) ∧ w'.cell? ⟨w.heap.size, 1, none⟩ = some (.int .i64 (R : Int)) ∧ w'.cell? ⟨w.heap.size, 2, none⟩ = some (.slice p n c)) (first | exact ⟨hxA _ hd0, hxB _ hd0, hxC _ hd0⟩ | go_keep) (first
          | (go_at_call 75; refine (HP.out _).mono ?_; rintro e w9 ⟨rfl, rfl⟩))
        all_goals
          obtain ⟨wd, hwd⟩ : ∃ x, x = w0.drew := ⟨_, rfl⟩
          rw [← hwd]
          have hdr : Err3 wd (w.heap.size + 1) (.int .i64 0) (.slice none 0 0) (.slice none 0 0) := by rw [hwd]; exact HE.out.2.1.next hd0
          have hbd : Below w.heap.size w wd := by rw [hwd]; exact HE.out.2.2.trans (hd0.mono HE.out.2.2.size)
          have hxd : Rul3 wd w.heap.size (.int .i64 (K : Int)) (.int .i64 (R : Int)) (.slice p n c) := by rw [hwd]; exact HE.out.1.next hd0
          clear hr0 hr1 hr2
          obtain ⟨_, hr0, hr1, hr2⟩ := hxd.facts
          have HD := Lib.hid (And.intro hdr (And.intro hbd hxd))
          clear hdr hbd hxd hxA hxB hxC hd0 hwd
          go_wp2_with fail
          refine (bad_ref (K : Int) p n c t wd H.out.2.1 (H.out.1.next HD.out.2.1)).mono ?_
          rintro e w1 ⟨rfl, rfl⟩
          rw [H.out.2.2]
          go_wp2_with fail
          refine (raw_fresh ruleOp (3 + (j : Int)) 1 wd).mono ?_
          rintro e w2 ⟨g, g', rfl, hg, hcg, hcg', hb2⟩
          obtain ⟨⟨hf0, hf1, hf2⟩, hc0, hc1, hc2⟩ := (HD.out.1.next hb2).facts
          have HB := Lib.hid (RefErrR.laid (k := 1) HD.out.2.1 (Nat.le_succ _) HD.out.1.lt hg hcg hcg' hb2)
          clear hb2 hcg hcg' hg
          go_wp2_with fail
          refine bodyPost_ret (v := .agg #[.int .i64 1, .slice (some ⟨g, 0, none⟩) 1 1, .slice (some ⟨g', 0, none⟩) 1 1]) (by simp [results, Tryd.results57, go_sem, hc0, hc1, hc2]) rfl ⟨_, rfl, ?_⟩
          exact HB.out _ _ _
end Go.Proofs.YtgdjnohhofbcnaaDoor
end
section
namespace Go.Proofs.YtgdjnohhofbcnaaDoor
open Go.RowKit Go.Extern.Stop Go.Stop Go.Extern
attribute [local go_sem ↓] Go.wp_at_zero Go.wp_at_succ

theorem infoSt : (Tryd.prog.info? 9).map (fun i => (i.zero, i.size, i.bytes)) = some (some (.string ⟨#[]⟩), 1, 16) := by kernel_rfl
def cS (L : List (ByteArray × Int)) : List Value := L.map fun x => Value.string x.1
def cA (L : List (ByteArray × Int)) : List Value := L.map fun x => Value.int .i64 x.2
theorem own_lit {e : TypeId} {w : World} {v : Value} {base g : Nat} (hb : base ≤ g) (h : w.heap[g]? = some (.cells #[v] e (0, 0))) : w.ownsRow base e 1 (.slice (some ⟨g, 0, none⟩) 1 1) 1 [v] :=
  ⟨rfl, Or.inr ⟨g, 1, #[v], rfl, hb, h, Nat.le_refl _, by decide, rfl, rfl⟩⟩
theorem other_row {w : World} {b b' : Nat} {e e' : TypeId} {v v' : Value} {n n' : Nat} {xs xs' : List Value} (h : w.ownsRow b e 1 v n xs) (h' : w.ownsRow b' e' 1 v' n' xs') (hne : e ≠ e') : v.ownBlock = none ∨ v.ownBlock ≠ v'.ownBlock := by
  rcases h.2 with ⟨rfl, _⟩ | ⟨g, cap, cur, rfl, _, hh, _⟩
  · exact Or.inl rfl
  · right
    rcases h'.2 with ⟨rfl, _⟩ | ⟨g', cap', cur', rfl, _, hh', _⟩
    · simp [Value.ownBlock]
    · intro hq
      have : g = g' := by simpa [Value.ownBlock] using hq
      subst this
      rw [hh] at hh'
      injection hh' with hh'
      injection hh' with _ ht
      exact hne ht
theorem WantV.news {w wx : World} {po pa : Option Addr} {co ca : Nat} {L : List (ByteArray × Int)} (h : WantV w po pa co ca L) (hb : Below w.heap.size w wx) (hL : L ≠ []) :
    ∃ bo oo ba oa, po = some ⟨bo, oo, none⟩ ∧ pa = some ⟨ba, oa, none⟩ ∧ (∀ j u, (cS L)[j]? = some u → wx.cell? ((⟨bo, oo, none⟩ : Addr).add j) = some u) ∧ (∀ j u, (cA L)[j]? = some u → wx.cell? ((⟨ba, oa, none⟩ : Addr).add j) = some u) := by
  have h' := h.below hb
  obtain ⟨bo, oo, rfl, _, hco⟩ := h'.ops hL
  obtain ⟨ba, oa, rfl, _, hca⟩ := h'.ats hL
  refine ⟨bo, oo, ba, oa, rfl, rfl, fun j u hu => ?_, fun j u hu => ?_⟩
  · unfold cS at hu
    rw [List.getElem?_map] at hu
    obtain ⟨x, hx, rfl⟩ := Option.map_eq_some_iff.1 hu
    rw [add_off]
    exact hco j x hx
  · unfold cA at hu
    rw [List.getElem?_map] at hu
    obtain ⟨x, hx, rfl⟩ := Option.map_eq_some_iff.1 hu
    rw [add_off]
    exact hca j x hx
/-- two own rows make an Err's two slices -/
theorem WantV.of_own {w : World} {base g g' m c c' : Nat} {L : List (ByteArray × Int)} (hm : m = L.length) (hc : c ≤ maxLen) (hc' : c' ≤ maxLen) (h : w.ownsRow base 9 1 (.slice (some ⟨g, 0, none⟩) m c) m (cS L)) (h' : w.ownsRow base 3 1 (.slice (some ⟨g', 0, none⟩) m c') m (cA L)) (hle : m ≤ c) (hle' : m ≤ c') (hg : g < w.heap.size) (hg' : g' < w.heap.size) :
    WantV w (some ⟨g, 0, none⟩) (some ⟨g', 0, none⟩) c c' L := by
  subst hm
  refine ⟨fun _ => ⟨g, 0, rfl, hg, fun j x hx => ?_⟩, fun _ => ⟨g', 0, rfl, hg', fun j x hx => ?_⟩, hle, hle', hc, hc'⟩
  · have hl := (List.getElem?_eq_some_iff.1 hx).1
    rw [Nat.zero_add]
    refine (h.cellAt j (by omega)).trans ?_
    unfold cS
    rw [List.getElem?_map, hx]; rfl
  · have hl := (List.getElem?_eq_some_iff.1 hx).1
    rw [Nat.zero_add]
    refine (h'.cellAt j (by omega)).trans ?_
    unfold cA
    rw [List.getElem?_map, hx]; rfl
/-- a literal of one value, and a row behind it: in a region that draws its order -/
theorem step_lit {ops : Array Oper} {o : Oper} {a : Act} {K : Act → World → Prop} {Q : Exit → Act → World → Prop} {E : Prop} {w : World} (t e : TypeId) (i0 : TypeInfo) (z : Value) (bytes : Nat) (hgd : o.guard = none) (s x : Operand)
    (ho : o.op = .call { callee := .builtin .append, args := #[s, x], argTypes := #[t, t] })
    (ht : Tryd.prog.underlying t = some (.slice e)) (hi : Tryd.prog.info? e = some i0) (hz0 : i0.zero = some z) (hz1 : i0.size = 1) (hz2 : i0.bytes = bytes) (hz : z.cells.size = 1) (hb16 : bytes ≤ 16)
    (base g : Nat) (v : Value) (hs : a.eval s = .slice (some ⟨g, 0, none⟩) 1 1) (hg : base ≤ g) (hh : w.heap[g]? = some (.cells #[v] e (0, 0)))
    (ad : Addr) (n c : Nat) (vs : List Value) (hx : a.eval x = .slice (some ad) n c) (hl : vs.length = n * 1) (hv : ∀ j u, vs[j]? = some u → w.cell? (ad.add j) = some u) (h1 : ∀ u ∈ vs, u.oneCell' = true) (hn : 0 < n) (hn2 : n ≤ 1000) (hB : base ≤ w.heap.size)
    (hK : ∀ g' c' w', w'.ownsRow base e 1 (.slice (some ⟨g', 0, none⟩) (1 + n) c') (1 + n) (v :: vs) → w.grownBy w' (some g) → Below base w w' → K (a.put o.dst (.slice (some ⟨g', 0, none⟩) (1 + n) c')) w') :
    if Region.wanted o (yielded ops a.tmps) = true then Oper.wp Tryd.prog o a w K Q else E := by
  have hw : Region.wanted o (yielded ops a.tmps) = true := by simp [Region.wanted, hgd]
  rw [if_pos hw]
  have hown := own_lit hg hh
  refine wp_append_lies w s x t ho base e i0 z 1 bytes ht hi hz0 hz1 hz2 hz (by decide) _ 1 [v] hs hown ad n c vs hx hl hv h1 hn (by unfold maxLen; omega) ?_ hB w.heap.size rfl ?_
  · have : (1 + n) * bytes ≤ 1001 * 16 := Nat.mul_le_mul (by omega) hb16
    omega
  · intro g' c' w' hown' hgrow _ _
    exact hK g' c' w' hown' hgrow ((Below.refl _ _).grown hgrow hB (fun j hj => (World.ownsRow.lt hown j hj).1))
theorem own_put3 {w : World} {base h : Nat} {e : TypeId} {v : Value} {n : Nat} {xs : List Value} (ho : w.ownsRow base e 1 v n xs) (hh : h < base) (a b d : Value) : (put3 w h a b d).ownsRow base e 1 v n xs :=
  ownsRow_setCell_below (ownsRow_setCell_below (ownsRow_setCell_below ho (a := ⟨h, 0, none⟩) hh a) (a := ⟨h, 1, none⟩) hh b) (a := ⟨h, 2, none⟩) hh d
theorem WantV.of_rows {w : World} {base g g' m c c' : Nat} {L : List (ByteArray × Int)} (hm : m = L.length) (h0 : 0 < m) (h : w.ownsRow base 9 1 (.slice (some ⟨g, 0, none⟩) m c) m (cS L)) (h' : w.ownsRow base 3 1 (.slice (some ⟨g', 0, none⟩) m c') m (cA L)) :
    WantV w (some ⟨g, 0, none⟩) (some ⟨g', 0, none⟩) c c' L := by
  rcases own_shape h with ⟨hv, h1, _⟩ | ⟨x, cap, hv, _, hlt, hc, hmx, _⟩
  · omega
  · rcases own_shape h' with ⟨hv', h1', _⟩ | ⟨x', cap', hv', _, hlt', hc', hmx', _⟩
    · omega
    · obtain ⟨rfl, rfl⟩ : g = x ∧ c = cap := by simpa using hv
      obtain ⟨rfl, rfl⟩ : g' = x' ∧ c' = cap' := by simpa using hv'
      exact WantV.of_own hm hmx hmx' h h' hc hc' hlt hlt'
/-- what an Err says, told further -/
def UnderPost (w : World) (a : Int) (L : List (ByteArray × Int)) (e : Ending) (w' : World) : Prop :=
  ∃ go ga co ca, e = .returned (.agg #[.int .i64 a, .slice (some ⟨go, 0, none⟩) L.length co, .slice (some ⟨ga, 0, none⟩) L.length ca]) ∧ w.heap.size ≤ go ∧ w.heap.size ≤ ga ∧ WantV w' (some ⟨go, 0, none⟩) (some ⟨ga, 0, none⟩) co ca L ∧ Below w.heap.size w w'
theorem two_errs (w : World) (a b c x y z : Value) (w0 : World) (hw0 : w0 = (w.alloc (.cells #[a, b, c] 34)).alloc (.cells #[x, y, z] 34)) :
    Below w.heap.size w w0 ∧ Err3 w0 w.heap.size a b c ∧ Err3 w0 (w.heap.size + 1) x y z := by
  have h1 : Below w.heap.size w (w.alloc (.cells #[a, b, c] 34)) := (Below.refl _ _).alloc (Nat.le_refl _) _
  have h2 : Below (w.alloc (.cells #[a, b, c] 34)).heap.size (w.alloc (.cells #[a, b, c] 34)) w0 := by rw [hw0]; exact (Below.refl _ _).alloc (Nat.le_refl _) _
  have hs : (w.alloc (.cells #[a, b, c] 34)).heap.size = w.heap.size + 1 := by simp
  have h3 : Err3 w0 (w.alloc (.cells #[a, b, c] 34)).heap.size x y z := by rw [hw0]; exact ⟨heap_alloc_new _ _⟩
  rw [hs] at h3
  have h4 : Err3 (w.alloc (.cells #[a, b, c] 34)) w.heap.size a b c := ⟨heap_alloc_new _ _⟩
  exact ⟨h1.trans (h2.mono h1.size), h4.next h2, h3⟩
set_option maxRecDepth 100000 in
set_option maxHeartbeats 4000000 in
theorem under_ref (op : ByteArray) (pl a : Int) (po pa : Option Addr) (n co ca : Nat) (L : List (ByteArray × Int)) (w : World) (ha : a ≠ 0) (hn : n = L.length) (h1 : 1 ≤ n) (hn2 : n ≤ 1000) (h : WantV w po pa co ca L) :
    Calls Tryd.prog 56 #[.string op, .int .i64 pl, .agg #[.int .i64 a, .slice po n co, .slice pa n ca]] w (UnderPost w a ((op, pl) :: L)) := by
  have ST := Lib.hid (two_errs w (.int .i64 a) (.slice po n co) (.slice pa n ca) (.int .i64 0) (.slice none 0 0) (.slice none 0 0))
  have H := Lib.hid (And.intro hn (And.intro h1 h))
  clear hn h
  go_enter Tryd.func56, Tryd.ntmps56
  go_upto_region 1 with fail
  obtain ⟨w0, hw0⟩ : ∃ w0, w0 = (w.alloc (.cells #[.int .i64 a, .slice po n co, .slice pa n ca] 34)).alloc (.cells #[.int .i64 0, .slice none 0 0, .slice none 0 0] 34) := ⟨_, rfl⟩
  rw [← hw0]
  obtain ⟨hb0, hE0, hF0⟩ := ST.out w0 hw0
  obtain ⟨_, hc0, hc1, hc2⟩ := hE0.facts
  have hfa : ∀ wx : World, Below w0.heap.size w0 wx → wx.cell? ⟨w.heap.size, 0, none⟩ = some (.int .i64 a) ∧ wx.cell? ⟨w.heap.size, 1, none⟩ = some (.slice po n co) ∧ wx.cell? ⟨w.heap.size, 2, none⟩ = some (.slice pa n ca) := fun wx hbx => (hE0.next hbx).facts.2
  have hff : ∀ wx : World, Below w0.heap.size w0 wx → wx.frozen? ⟨w.heap.size + 1, 0, none⟩ = false ∧ wx.frozen? ⟨w.heap.size + 1, 1, none⟩ = false ∧ wx.frozen? ⟨w.heap.size + 1, 2, none⟩ = false := fun wx hbx => (hF0.next hbx).facts.1
  have hfc : ∀ wx : World, Below w0.heap.size w0 wx → wx.cell? ⟨w.heap.size + 1, 0, none⟩ = some (.int .i64 0) ∧ wx.cell? ⟨w.heap.size + 1, 1, none⟩ = some (.slice none 0 0) ∧ wx.cell? ⟨w.heap.size + 1, 2, none⟩ = some (.slice none 0 0) := fun wx hbx => (hF0.next hbx).facts.2
  have HE := Lib.hid (And.intro hb0 (And.intro hE0 hF0))
  clear hw0 hE0 hb0 hF0
  go_wp2_with fail
  have hL0 : L ≠ [] := by have := H.out.1; rintro rfl; simp at this; omega
  obtain ⟨bo, oo, ba, oa, hpo, hpa, _, _⟩ := H.out.2.2.news (Below.refl _ _) hL0
  subst hpo hpa
  have hnS : ∀ wx : World, Below w0.heap.size w0 wx → ∀ j u, (cS L)[j]? = some u → wx.cell? ((⟨bo, oo, none⟩ : Addr).add j) = some u := fun wx hbx => by
    obtain ⟨_, _, _, _, e1, e2, h1, _⟩ := H.out.2.2.news (HE.out.1.trans (hbx.mono HE.out.1.size)) hL0
    cases e1; exact h1
  have hnA : ∀ wx : World, Below w0.heap.size w0 wx → ∀ j u, (cA L)[j]? = some u → wx.cell? ((⟨ba, oa, none⟩ : Addr).add j) = some u := fun wx hbx => by
    obtain ⟨_, _, _, _, e1, e2, _, h2⟩ := H.out.2.2.news (HE.out.1.trans (hbx.mono HE.out.1.size)) hL0
    cases e2; exact h2
  have hlS : (cS L).length = n * 1 := by unfold cS; rw [List.length_map, Nat.mul_one]; exact H.out.1.symm
  have hlA : (cA L).length = n * 1 := by unfold cA; rw [List.length_map, Nat.mul_one]; exact H.out.1.symm
  have hoS : ∀ u ∈ cS L, u.oneCell' = true := fun u hu => by unfold cS at hu; obtain ⟨x, _, rfl⟩ := List.mem_map.1 hu; rfl
  have hoA : ∀ u ∈ cA L, u.oneCell' = true := fun u hu => by unfold cA at hu; obtain ⟨x, _, rfl⟩ := List.mem_map.1 hu; rfl
  have h1n : 0 < n := h1
  obtain ⟨iS, hiS, hzS0, hzS1, hzS2⟩ := info_parts infoSt
  obtain ⟨iA, hiA, hzA0, hzA1, hzA2⟩ := info_parts infoI
  have hd0 : Below w0.heap.size w0 w0.drew := (Below.refl _ _).drew
  have hB : w.heap.size + 1 < w0.heap.size := heap_ltN HE.out.2.2.heap
  have hs0 : w.heap.size < w0.heap.size := by omega
  have HH := Lib.hid (And.intro hnS (And.intro hnA (And.intro hlS (And.intro hlA (And.intro hoS (And.intro hoA (And.intro hfa (And.intro hff hfc))))))))
  clear hnS hnA hlS hlA hoS hoA hfa hff hfc
  have h16 : (16 : Nat) ≤ 16 := Nat.le_refl _
  have h8 : (8 : Nat) ≤ 16 := by omega
  obtain ⟨WS, hWS⟩ : ∃ x, x = w0.alloc (.cells #[.string op] 9) := ⟨_, rfl⟩
  obtain ⟨WA, hWA⟩ : ∃ x, x = w0.alloc (.cells #[.int .i64 pl] 3) := ⟨_, rfl⟩
  have sS : WS.heap.size = w0.heap.size + 1 := by rw [hWS]; simp
  have sA : WA.heap.size = w0.heap.size + 1 := by rw [hWA]; simp
  have lS : WS.heap[w0.heap.size]? = some (.cells #[.string op] 9 (0, 0)) := by rw [hWS]; exact heap_newN w0 _
  have lA : WA.heap[w0.heap.size]? = some (.cells #[.int .i64 pl] 3 (0, 0)) := by rw [hWA]; exact heap_newN w0 _
  have bS : Below w0.heap.size w0 WS := by rw [hWS]; exact (Below.refl w0.heap.size w0).alloc (Nat.le_refl _) _
  have bA : Below w0.heap.size w0 WA := by rw [hWA]; exact (Below.refl w0.heap.size w0).alloc (Nat.le_refl _) _
  have hal : ∀ w1 : World, (w1.alloc (.cells #[.int .i64 pl] 3)).heap[w1.heap.size]? = some (.cells #[.int .i64 pl] 3 (0, 0)) := fun w1 => heap_newN w1 _
  have hbl : ∀ w1 : World, Below w1.heap.size w1 (w1.alloc (.cells #[.int .i64 pl] 3)) := fun w1 => (Below.refl w1.heap.size w1).alloc (Nat.le_refl _) _
  -- two literals, the words first
  have b2 : Below w0.heap.size w0 (WS.alloc (.cells #[.int .i64 pl] 3)) := bS.trans ((hbl WS).mono bS.size)
  have l2S : (WS.alloc (.cells #[.int .i64 pl] 3)).heap[w0.heap.size]? = some (.cells #[.string op] 9 (0, 0)) := ((hbl WS).block _ (by omega)).trans lS
  have l2A : (WS.alloc (.cells #[.int .i64 pl] 3)).heap[w0.heap.size + 1]? = some (.cells #[.int .i64 pl] 3 (0, 0)) := by have := hal WS; rwa [sS] at this
  -- two literals, the places first
  have bb : Below WA.heap.size WA (WA.alloc (.cells #[.string op] 9)) := (Below.refl _ WA).alloc (Nat.le_refl _) _
  have b3 : Below w0.heap.size w0 (WA.alloc (.cells #[.string op] 9)) := bA.trans (bb.mono bA.size)
  have l3A : (WA.alloc (.cells #[.string op] 9)).heap[w0.heap.size]? = some (.cells #[.int .i64 pl] 3 (0, 0)) := (bb.block _ (by omega)).trans lA
  have l3S : (WA.alloc (.cells #[.string op] 9)).heap[w0.heap.size + 1]? = some (.cells #[.string op] 9 (0, 0)) := by have := heap_newN WA (.cells #[.string op] 9); rwa [sA] at this
  have z2 : (WS.alloc (.cells #[.int .i64 pl] 3)).heap.size = w0.heap.size + 2 := by simp [sS]
  have z3 : (WA.alloc (.cells #[.string op] 9)).heap.size = w0.heap.size + 2 := by simp [sA]
  rw [hWS] at b2 l2S l2A z2 lS bS
  rw [hWA] at b3 l3A l3S z3
  have b1 := bS.drew
  have b2 := b2.drew
  have b3 := b3.drew
  have lS : ((w0.alloc (.cells #[.string op] 9)).drew).heap[w0.heap.size]? = some (.cells #[.string op] 9 (0, 0)) := lS
  have l2S : (((w0.alloc (.cells #[.string op] 9)).alloc (.cells #[.int .i64 pl] 3)).drew).heap[w0.heap.size]? = some (.cells #[.string op] 9 (0, 0)) := l2S
  have l2A : (((w0.alloc (.cells #[.string op] 9)).alloc (.cells #[.int .i64 pl] 3)).drew).heap[w0.heap.size + 1]? = some (.cells #[.int .i64 pl] 3 (0, 0)) := l2A
  have l3S : (((w0.alloc (.cells #[.int .i64 pl] 3)).alloc (.cells #[.string op] 9)).drew).heap[w0.heap.size + 1]? = some (.cells #[.string op] 9 (0, 0)) := l3S
  have l3A : (((w0.alloc (.cells #[.int .i64 pl] 3)).alloc (.cells #[.string op] 9)).drew).heap[w0.heap.size]? = some (.cells #[.int .i64 pl] 3 (0, 0)) := l3A
  have z2 : (((w0.alloc (.cells #[.string op] 9)).alloc (.cells #[.int .i64 pl] 3)).drew).heap.size = w0.heap.size + 2 := z2
  have z3 : (((w0.alloc (.cells #[.int .i64 pl] 3)).alloc (.cells #[.string op] 9)).drew).heap.size = w0.heap.size + 2 := z3
  have hle1 : w0.heap.size ≤ w0.heap.size + 1 := Nat.le_succ _
  have hzlt : w0.heap.size + 1 < w0.heap.size + 2 := by omega
  have hzlt0 : w0.heap.size < w0.heap.size + 2 := by omega
  have hne1 : some (w0.heap.size + 1) ≠ some w0.heap.size := by simp
  have hne0 : some w0.heap.size ≠ some (w0.heap.size + 1) := by simp
  have hne : 9 ≠ 3 := by decide
  have P1 := Lib.hid (And.intro lS (And.intro b1 (And.intro hal hbl)))
  have P2 := Lib.hid (And.intro b2 (And.intro l2S (And.intro l2A z2)))
  have P3 := Lib.hid (And.intro b3 (And.intro l3A (And.intro l3S z3)))
  have Q := Lib.hid (And.intro hle1 (And.intro hzlt (And.intro hzlt0 (And.intro hne1 (And.intro hne0 hne)))))
  clear hWS hWA sS sA lS lA bS bA b1 hal hbl b2 l2S l2A bb b3 l3A l3S z2 z3 hle1 hzlt hzlt0 hne1 hne0 hne
  go_region_held3 (fun w' => w'.cell? ⟨w.heap.size, 0, none⟩ = some (.int .i64 a) ∧ w'.cell? ⟨w.heap.size, 1, none⟩ = some (.slice (some ⟨bo, oo, none⟩) n co) ∧ w'.cell? ⟨w.heap.size, 2, none⟩ = some (.slice (some ⟨ba, oa, none⟩) n ca)) (first | exact HH.out.2.2.2.2.2.2.1 _ (by assumption) | exact HH.out.2.2.2.2.2.2.1 _ hd0 | go_keep) (first
    | (refine step_lit 32 9 iS _ 16 (by rfl) _ _ (by rfl) Tryd.underlying32 hiS hzS0 hzS1 hzS2 (by rfl) h16 w0.heap.size w0.heap.size (.string op) (by rfl) (Nat.le_refl _) P1.out.1 ⟨bo, oo, none⟩ n co (cS L) (by rfl) HH.out.2.2.1 (HH.out.1 _ P1.out.2.1) HH.out.2.2.2.2.1 h1n hn2 P1.out.2.1.size ?_; intro gs cs w1 hS1 _ hgS; have hB1 : Below w0.heap.size w0 w1 := P1.out.2.1.trans hgS)
    | (refine step_lit 32 9 iS _ 16 (by rfl) _ _ (by rfl) Tryd.underlying32 hiS hzS0 hzS1 hzS2 (by rfl) h16 w0.heap.size w0.heap.size (.string op) (by rfl) (Nat.le_refl _) P2.out.2.1 ⟨bo, oo, none⟩ n co (cS L) (by rfl) HH.out.2.2.1 (HH.out.1 _ P2.out.1) HH.out.2.2.2.2.1 h1n hn2 P2.out.1.size ?_; intro gs cs u1 hS1 hrS hgS; have hB1 : Below w0.heap.size w0 u1 := P2.out.1.trans hgS; have hAl := (hrS.block (w0.heap.size + 1) (by rw [P2.out.2.2.2]; exact Q.out.2.1) Q.out.2.2.2.1).trans P2.out.2.2.1)
    | (refine step_lit 32 9 iS _ 16 (by rfl) _ _ (by rfl) Tryd.underlying32 hiS hzS0 hzS1 hzS2 (by rfl) h16 w0.heap.size (w0.heap.size + 1) (.string op) (by rfl) Q.out.1 P3.out.2.2.1 ⟨bo, oo, none⟩ n co (cS L) (by rfl) HH.out.2.2.1 (HH.out.1 _ P3.out.1) HH.out.2.2.2.2.1 h1n hn2 P3.out.1.size ?_; intro gs cs v1 hS1 hrS hgS; have hB1 : Below w0.heap.size w0 v1 := P3.out.1.trans hgS; have hAl := (hrS.block w0.heap.size (by rw [P3.out.2.2.2]; exact Q.out.2.2.1) Q.out.2.2.2.2.1).trans P3.out.2.1)
    | (refine step_lit 22 3 iA _ 8 (by rfl) _ _ (by rfl) Tryd.underlying22 hiA hzA0 hzA1 hzA2 (by rfl) h8 w0.heap.size w1.heap.size (.int .i64 pl) (by rfl) hB1.size (P1.out.2.2.1 w1) ⟨ba, oa, none⟩ n ca (cA L) (by rfl) HH.out.2.2.2.1 (HH.out.2.1 _ (hB1.trans ((P1.out.2.2.2 w1).mono hB1.size))) HH.out.2.2.2.2.2.1 h1n hn2 (Nat.le_trans hB1.size (P1.out.2.2.2 w1).size) ?_; intro ga ca' w2 hA2 hrA hgA; have hB2 : Below w0.heap.size w0 w2 := (hB1.trans ((P1.out.2.2.2 w1).mono hB1.size)).trans hgA; have hSf := (ownsRow_below (P1.out.2.2.2 w1) hS1).kept hrA (other_row (ownsRow_below (P1.out.2.2.2 w1) hS1) (own_lit hB1.size (P1.out.2.2.1 w1)) Q.out.2.2.2.2.2); obtain ⟨hf0, hf1, hf2⟩ := HH.out.2.2.2.2.2.2.2.1 w2 hB2; obtain ⟨hx0, hx1, hx2⟩ := HH.out.2.2.2.2.2.2.2.2 w2 hB2)
    | (refine step_lit 22 3 iA _ 8 (by rfl) _ _ (by rfl) Tryd.underlying22 hiA hzA0 hzA1 hzA2 (by rfl) h8 w0.heap.size (w0.heap.size + 1) (.int .i64 pl) (by rfl) Q.out.1 hAl ⟨ba, oa, none⟩ n ca (cA L) (by rfl) HH.out.2.2.2.1 (HH.out.2.1 _ hB1) HH.out.2.2.2.2.2.1 h1n hn2 hB1.size ?_; intro ga ca' w2 hA2 hrA hgA; have hB2 : Below w0.heap.size w0 w2 := hB1.trans hgA; have hSf := hS1.kept hrA (other_row hS1 (own_lit Q.out.1 hAl) Q.out.2.2.2.2.2); obtain ⟨hf0, hf1, hf2⟩ := HH.out.2.2.2.2.2.2.2.1 w2 hB2; obtain ⟨hx0, hx1, hx2⟩ := HH.out.2.2.2.2.2.2.2.2 w2 hB2)
    | (refine step_lit 22 3 iA _ 8 (by rfl) _ _ (by rfl) Tryd.underlying22 hiA hzA0 hzA1 hzA2 (by rfl) h8 w0.heap.size w0.heap.size (.int .i64 pl) (by rfl) (Nat.le_refl _) hAl ⟨ba, oa, none⟩ n ca (cA L) (by rfl) HH.out.2.2.2.1 (HH.out.2.1 _ hB1) HH.out.2.2.2.2.2.1 h1n hn2 hB1.size ?_; intro ga ca' w2 hA2 hrA hgA; have hB2 : Below w0.heap.size w0 w2 := hB1.trans hgA; have hSf := hS1.kept hrA (other_row hS1 (own_lit (Nat.le_refl _) hAl) Q.out.2.2.2.2.2); obtain ⟨hf0, hf1, hf2⟩ := HH.out.2.2.2.2.2.2.2.1 w2 hB2; obtain ⟨hx0, hx1, hx2⟩ := HH.out.2.2.2.2.2.2.2.2 w2 hB2))
  all_goals
    have hm : 1 + n = ((op, pl) :: L).length := by show 1 + n = L.length + 1; rw [H.out.1]; omega
    have hbw : Below w.heap.size w w2 := HE.out.1.trans (hB2.mono HE.out.1.size)
    have HF := Lib.hid (And.intro hm (And.intro hbw (And.intro hSf (And.intro hA2 hB))))
    clear hm hbw hSf hA2 hB2
    go_wp2_with fail
    refine bodyPost_ret (v := .agg #[.int .i64 a, .slice (some ⟨gs, 0, none⟩) (1 + n) cs, .slice (some ⟨ga, 0, none⟩) (1 + n) ca']) (by simp [results, Tryd.results56, go_sem, hx0, hx1, hx2]) rfl ⟨gs, ga, _, _, by rw [HF.out.1], Nat.le_trans HE.out.1.size (HF.out.2.2.1.lt gs rfl).1, Nat.le_trans HE.out.1.size (HF.out.2.2.2.1.lt ga rfl).1, WantV.of_rows HF.out.1 (by omega) (own_put3 HF.out.2.2.1 HF.out.2.2.2.2 _ _ _) (own_put3 HF.out.2.2.2.1 HF.out.2.2.2.2 _ _ _), put3_below HF.out.2.1 (Nat.le_succ _) _ _ _⟩
theorem under_ref_none (op : ByteArray) (pl : Int) (w : World) :
    Calls Tryd.prog 56 #[.string op, .int .i64 pl, .agg #[.int .i64 0, .slice none 0 0, .slice none 0 0]] w (Tells (.agg #[.int .i64 0, .slice none 0 0, .slice none 0 0]) w) := by
  have ST := Lib.hid (two_errs w (.int .i64 0) (.slice none 0 0) (.slice none 0 0) (.int .i64 0) (.slice none 0 0) (.slice none 0 0))
  go_enter Tryd.func56, Tryd.ntmps56
  go_upto_region 1 with fail
  obtain ⟨w0, hw0⟩ : ∃ w0, w0 = (w.alloc (.cells #[.int .i64 0, .slice none 0 0, .slice none 0 0] 34)).alloc (.cells #[.int .i64 0, .slice none 0 0, .slice none 0 0] 34) := ⟨_, rfl⟩
  rw [← hw0]
  obtain ⟨hb0, hE0, hF0⟩ := ST.out w0 hw0
  obtain ⟨_, hc0, hc1, hc2⟩ := hE0.facts
  obtain ⟨⟨hf0, hf1, hf2⟩, hd0, hd1, hd2⟩ := hF0.facts
  have HE := Lib.hid hb0
  clear hw0 hE0 hb0 hF0
  go_wp2_with fail
  refine bodyPost_ret (v := .agg #[.int .i64 0, .slice none 0 0, .slice none 0 0]) (by simp [results, Tryd.results56, go_sem, hd0, hd1, hd2]) rfl ⟨rfl, put3_below HE.out (Nat.le_succ _) _ _ _⟩
end Go.Proofs.YtgdjnohhofbcnaaDoor
end
section
namespace Go.Proofs.YtgdjnohhofbcnaaDoor
open Go.RowKit WordM

theorem set_frontI {x : List Int} {j : Nat} {v : Int} : (List.replicate (j + 1) (0 : Int) ++ x).set j v = List.replicate j 0 ++ v :: x := by
  rw [List.replicate_succ', List.append_assoc, List.set_append_right _ _ (by simp), List.length_replicate, Nat.sub_self]
  rfl
def BackRel (w : World) (l : List Int) (n g : Nat) (v : Value) (wr : World) : Prop :=
  ∃ i : Nat, i ≤ n ∧ v = .int .i64 (i : Int) ∧ IntO w.heap.size wr (some ⟨g, 0, none⟩) n (List.replicate (n - i) 0 ++ (l.take i).reverse) ∧ Below w.heap.size w wr
end Go.Proofs.YtgdjnohhofbcnaaDoor
end
section
namespace Go.Proofs.YtgdjnohhofbcnaaDoor
open Go.RowKit WordM

set_option maxRecDepth 100000 in
set_option maxHeartbeats 4000000 in
theorem cmp_refW (p q : Option Addr) (n m c d : Nat) (l k : List Int) (w : World) (hn : n = l.length) (hm : m = k.length) (h : IntV w.heap.size w p c l) (h' : IntV w.heap.size w q d k) :
    Calls Tryd.prog 70 #[.slice p n c, .slice q m d] w (Quiet (.int .i64 (cmpW l k)) w) := by
  have hle := h.le
  have hcap := h.cap
  have hdle := h'.le
  have hdcap := h'.cap
  unfold maxLen at hcap hdcap
  have hnc : n ≤ c := by omega
  have hmd : m ≤ d := by omega
  rcases Nat.lt_trichotomy n m with hnm | hnm | hnm
  · have hc : cmpW l k = -1 := by unfold cmpW; rw [if_pos (by omega)]
    have HC := Lib.hid hc
    clear hc h h' hn hm hle hdle
    go_enter Tryd.func70, Tryd.ntmps70
    go_wp2_with fail
    go_ret
    exact ⟨by rw [HC.out]; rfl, 0, rfl⟩
  · subst hnm
    have hlen : l.length = k.length := by omega
    have hw : cmpW l k = lexC l k := cmpW_len hlen
    have H := Lib.hid (And.intro h (And.intro h' (And.intro hn (And.intro hlen hw))))
    clear h h' hn hm hlen hw hle hdle
    go_enter Tryd.func70, Tryd.ntmps70
    go_wp2_with fail
    go_loopw [5] (fun v wx => ∃ j : Nat, j ≤ n ∧ v = .int .i64 (j : Int) ∧ Hid (∃ a, wx = w.drewN a) ∧ Hid (l.take j = k.take j)) (fun v _ => n - (intOf v).toNat)
    case atStart => exact ⟨0, Nat.zero_le _, rfl, ⟨0, rfl⟩, by show _ = _; simp⟩
    case round =>
      obtain ⟨j, hj, rfl, hbx, ht⟩ := hrel
      by_cases hlt : j < n
      · have hnl := H.out.2.2.1
        have hkl := H.out.2.2.2.1
        have hne : l ≠ [] := by rintro rfl; simp at hnl; omega
        have hne' : k ≠ [] := by rintro rfl; simp at hkl; simp [hkl] at hnl; omega
        have hbw : Below w.heap.size w wr := hbx.out.elim fun a e => e ▸ below_drewN (Below.refl _ _) a
        obtain ⟨b, off, rfl, hb, hc⟩ := (H.out.1.below hbw).cell hne
        obtain ⟨b', off', rfl, hb', hc'⟩ := (H.out.2.1.below hbw).cell hne'
        obtain ⟨x, hx⟩ := getI (l := l) (k := j) (by omega)
        obtain ⟨y, hy⟩ := getI (l := k) (k := j) (by omega)
        have h1 := hc j x hx
        have h2 := hc' j y hy
        have HX := Lib.hid (And.intro hx hy)
        clear hc hc' hx hy hne hne' hnl hkl hbw
        rcases (by omega : x < y ∨ y < x ∨ x = y) with hxy | hxy | hxy
        · have hlx : lexC l k = -1 := lexC_lt j H.out.2.2.2.1 (get_take_alike ht.out) ⟨x, y, HX.out.1, HX.out.2, hxy⟩
          have HC := Lib.hid hlx
          have hd : decide (x < y) = true := by rw [decide_eq_true_iff]; exact hxy
          clear hlx
          go_wp2_with fail
          go_quiet (fail)
          go_wp2_with fail
          go_ret
          exact ⟨by rw [H.out.2.2.2.2, HC.out]; rfl, quiet_more hbx.out _⟩
        · have hlx : lexC l k = 1 := lexC_gt j H.out.2.2.2.1 (get_take_alike ht.out) ⟨x, y, HX.out.1, HX.out.2, hxy⟩
          have HC := Lib.hid hlx
          have hd : decide (x < y) = false := by rw [decide_eq_false_iff_not]; omega
          have hd2 : decide (y < x) = true := by rw [decide_eq_true_iff]; exact hxy
          clear hlx
          go_wp2_with fail
          go_quiet (fail)
          go_wp2_with fail
          go_quiet (fail)
          go_wp2_with fail
          go_ret
          exact ⟨by rw [H.out.2.2.2.2, HC.out]; rfl, by first | exact quiet_more hbx.out _ | exact quiet_more (quiet_more hbx.out _) _⟩
        · subst hxy
          have hd : decide (x < x) = false := by rw [decide_eq_false_iff_not]; omega
          go_wp2_with fail
          go_quiet (fail)
          go_wp2_with fail
          go_quiet (fail)
          go_wp2_with fail
          go_roundw
          case rel => exact ⟨j + 1, by omega, by go_num, by first | exact quiet_more hbx.out _ | exact quiet_more (quiet_more hbx.out _) _, take_alike HX.out.1 HX.out.2 ht.out⟩
          case measure => simp [intOf]; omega
      · obtain rfl : j = n := by omega
        have hlx : lexC l k = 0 := by
          have e := ht.out
          rw [H.out.2.2.1, List.take_length, H.out.2.2.2.1, List.take_length] at e
          rw [e, lexC_self]
        have HC := Lib.hid hlx
        clear hlx
        go_wp2_with fail
        go_ret
        exact ⟨by rw [H.out.2.2.2.2, HC.out]; rfl, hbx.out⟩
  · have hc : cmpW l k = 1 := by unfold cmpW; rw [if_neg (by omega), if_pos (by omega)]
    have HC := Lib.hid hc
    clear hc h h' hn hm hle hdle
    go_enter Tryd.func70, Tryd.ntmps70
    go_wp2_with fail
    go_ret
    exact ⟨by rw [HC.out]; rfl, 0, rfl⟩

def TurnRel (w : World) (X : List Int) (n g : Nat) (v : Value) (wr : World) : Prop :=
  ∃ i : Nat, i ≤ n ∧ v = .int .i64 (i : Int) ∧ IntO w.heap.size wr (some ⟨g, 0, none⟩) n (X.take i ++ List.replicate (n - i) 0) ∧ Below w.heap.size w wr
theorem put_nextI {l : List Int} {j n : Nat} {x : Int} (h : l[j]? = some x) (hj : j < n) : (l.take j ++ List.replicate (n - j) 0).set j x = l.take (j + 1) ++ List.replicate (n - (j + 1)) 0 := by
  have hl := ltI h
  rw [List.set_append_right _ _ (by rw [List.length_take]; omega), List.length_take, Nat.min_eq_left (by omega), Nat.sub_self, List.take_add_one, h]
  obtain ⟨m, hm⟩ : ∃ m, n - j = m + 1 := ⟨n - j - 1, by omega⟩
  rw [hm, show n - (j + 1) = m by omega, List.replicate_succ]
  simp
set_option maxRecDepth 100000 in
set_option maxHeartbeats 4000000 in
theorem turn_ref (p : Option Addr) (n c : Nat) (l : List Int) (z : Int) (w : World) (hn : n = l.length) (h : IntV w.heap.size w p c l) (hl : l.length ≤ 17592186044000) :
    Calls Tryd.prog 50 #[.slice p n c, .int .i64 z] w (IntPost w (turnW l z)) := by
  have hle := h.le
  have hcap := h.cap
  unfold maxLen at hcap
  have hnc : n ≤ c := by omega
  have hnl : n ≤ 17592186044000 := by omega
  have hmk := makeI n hnl w
  have ho0 := IntO.made w n hnl
  have hb0 : Below w.heap.size w (w.alloc (.cells (madeCells #[.int .i64 0] n) 3)) := (Below.refl _ _).alloc (Nat.le_refl _) _
  have HO := Lib.hid (And.intro ho0 hb0)
  clear ho0 hb0
  rcases Nat.eq_zero_or_pos n with h0 | h0
  · have hl0 : l = [] := List.eq_nil_of_length_eq_zero (by omega)
    subst hl0 h0
    have HO' := Lib.hid (And.intro (show IntO w.heap.size (w.alloc (.cells (madeCells #[.int .i64 0] 0) 3)) (some ⟨w.heap.size, 0, none⟩) 0 [] from HO.out.1) HO.out.2)
    have hmk0 : (Instr.makeSlice 22 (.int .i64 0) (.int .i64 0)).run Tryd.prog w = .ok (.slice (some ⟨w.heap.size, 0, none⟩) 0 0) (w.alloc (.cells (madeCells #[.int .i64 0] 0) 3)) := makeI 0 (by omega) w
    clear h hle hn hl HO hmk
    go_enter Tryd.func50, Tryd.ntmps50
    go_wp2_with fail
    go_ret
    exact ⟨_, _, rfl, HO'.out.1, HO'.out.2⟩
  · obtain ⟨t, ht⟩ : ∃ t, turnN l z = t := ⟨_, rfl⟩
    have htn : t < n := by
      rw [← ht, hn]
      unfold turnN
      have h1 := Int.emod_lt_of_pos z (show (0 : Int) < (l.length : Int) by omega)
      have h2 := Int.emod_nonneg z (show (l.length : Int) ≠ 0 by omega)
      omega
    have htz : z % (n : Int) = (t : Int) := by
      rw [← ht, hn]
      unfold turnN
      have h2 := Int.emod_nonneg z (show (l.length : Int) ≠ 0 by omega)
      omega
    have hnz : ((n : Int) == 0) = false := by rw [beq_eq_false_iff_ne]; omega
    obtain ⟨r, hr⟩ : ∃ r, z.tmod (n : Int) = r := ⟨_, rfl⟩
    have hrt : (r < 0 ∧ r + (n : Int) = (t : Int)) ∨ (¬ r < 0 ∧ r = (t : Int)) := by
      have e := @Int.tmod_eq_emod z (n : Int)
      have hlo : -(n : Int) < r := by rw [← hr]; exact Int.lt_tmod_of_pos z (by omega)
      rw [hr, htz] at e
      split at e <;> omega
    have hX : turnW l z = rot l t := by unfold turnW; rw [ht]
    have hXl : (rot l t).length = n := by rw [rot_length, hn]
    have H := Lib.hid (And.intro h (And.intro hn (And.intro hX hXl)))
    clear ht htz h hn hX hXl hle hl
    rcases hrt with ⟨hr0, hrt⟩ | ⟨hr0, rfl⟩
    all_goals
      go_enter Tryd.func50, Tryd.ntmps50
      go_wp2_with fail
      clear hmk
      go_loopw [7] (fun v wr => TurnRel w (rot l t) n w.heap.size v wr) (fun v _ => n - (intOf v).toNat)
      case atStart => exact ⟨0, Nat.zero_le _, rfl, by rw [List.take_zero, List.nil_append, Nat.sub_zero]; exact HO.out.1, HO.out.2⟩
      case round =>
        obtain ⟨i, hi, rfl, ho, hb⟩ := hrel
        by_cases hlt : i < n
        · have hnl' := H.out.2.1
          obtain ⟨b, off, rfl, hbb, hcc⟩ := (H.out.1.next hb).cell (by rintro rfl; simp at hnl'; omega)
          obtain ⟨i1, hi1⟩ : ∃ i1, (i + t) % n = i1 := ⟨_, rfl⟩
          have h1n : i1 < n := by rw [← hi1]; exact Nat.mod_lt _ h0
          obtain ⟨x, hx⟩ := getI (l := l) (k := i1) (by omega)
          have hcx := hcc i1 x hx
          have hxr : (rot l t)[i]? = some x := by
            rw [rot_get (by omega), ← hx, ← F_mod, ← H.out.2.1, hi1, F_get (by omega)]
          have e1 : ((i : Int) + (t : Int)) % (n : Int) = (i1 : Int) := by rw [← hi1]; rfl
          have t1 : ((i : Int) + (t : Int)).tmod (n : Int) = (i1 : Int) := by rw [Int.tmod_eq_emod_of_nonneg (by omega), e1]
          have hput := put_nextI (n := n) hxr hlt
          have hlen : ((rot l t).take i ++ List.replicate (n - i) (0 : Int)).length = n := by have := H.out.2.2.2; simp; omega
          have hlen2 : ((rot l t).take (i + 1) ++ List.replicate (n - (i + 1)) (0 : Int)).length = n := by have := H.out.2.2.2; simp; omega
          have hown : wr.ownsRow w.heap.size 3 1 (.slice (some ⟨w.heap.size, 0, none⟩) n n) n (cI ((rot l t).take i ++ List.replicate (n - i) 0)) := by
            unfold IntO at ho
            rwa [hlen] at ho
          obtain ⟨y, hy⟩ := getI (l := (rot l t).take i ++ List.replicate (n - i) (0 : Int)) (k := i) (by omega)
          have hcy : wr.cell? ⟨w.heap.size, i, none⟩ = some (.int .i64 y) := (hown.cellAt i (by omega)).trans (cI_get hy)
          have hfy : wr.frozen? ⟨w.heap.size, i, none⟩ = false := hown.frozenAt i
          obtain ⟨s1, u1⟩ := hown.stored i (.int .i64 x)
          rw [← cI_set, hput] at s1
          have hb1 : Below w.heap.size w (wr.setCell ⟨w.heap.size, i, none⟩ (.int .i64 x)) := hb.setCell (p := ⟨w.heap.size, i, none⟩) (Nat.le_refl _) _
          have HS := Lib.hid (And.intro s1 (And.intro hb1 hlen2))
          clear hcc hx hi1 hxr hput hlen hlen2 hown hy s1 u1 hb1 ho hb hnl'
          go_wp2_with fail
          go_roundw
          case rel => exact ⟨i + 1, by omega, by go_num, by unfold IntO; rw [HS.out.2.2]; exact HS.out.1, HS.out.2.1⟩
          case measure => simp [intOf]; omega
        · obtain rfl : i = n := by omega
          have he : (rot l t).take i ++ List.replicate (i - i) (0 : Int) = rot l t := by rw [Nat.sub_self, List.replicate_zero, List.append_nil, ← H.out.2.2.2, List.take_length]
          rw [he] at ho
          have HF := Lib.hid (And.intro ho hb)
          clear ho hb he
          go_wp2_with fail
          go_ret
          exact ⟨_, _, by rw [H.out.2.2.1, H.out.2.2.2]; rfl, by rw [H.out.2.2.1]; exact HF.out.1, HF.out.2⟩
theorem turnW_nat' (l : List Int) (t : Nat) : turnW l (t : Int) = rot l t := by
  unfold turnW turnN
  have : (t : Int) % (l.length : Int) = ((t % l.length : Nat) : Int) := rfl
  rw [this, Int.toNat_natCast, rot_mod]
set_option maxRecDepth 100000 in
set_option maxHeartbeats 4000000 in
theorem least_ref (p : Option Addr) (n c : Nat) (l : List Int) (w : World) (hn : n = l.length) (h : IntV w.heap.size w p c l) (hl : l.length ≤ 1000000) :
    Calls Tryd.prog 51 #[.slice p n c] w (Tells (.int .i64 (leastW l : Int)) w) := by
  have hle := h.le
  have hcap := h.cap
  unfold maxLen at hcap
  have hnc : n ≤ c := by omega
  have hnl : n ≤ 1000000 := by omega
  have H := Lib.hid (And.intro h (And.intro hn hl))
  clear h hn hl hle
  go_enter Tryd.func51, Tryd.ntmps51
  go_wp2_with fail
  go_loopw [3, 4] (fun v3 v4 wr => ∃ b m : Nat, m ≤ n + 1 ∧ v3 = .int .i64 (b : Int) ∧ v4 = .int .i64 (m : Int) ∧ b < m ∧ (0 < n → m ≤ n) ∧ Hid (BestTo l m b) ∧ Below w.heap.size w wr) (fun _ v4 _ => n + 1 - (intOf v4).toNat)
  case atStart => exact ⟨0, 1, by omega, rfl, rfl, by omega, fun h => h, best_one l, Below.refl _ _⟩
  case round =>
    obtain ⟨b, m, hmn, rfl, rfl, hbm, hmn2, hB, hb⟩ := hrel
    by_cases hlt : m < n
    · have ht1 := turn_ref p n c l (m : Int) wr H.out.2.1 (H.out.1.next hb) (by have := H.out.2.2; omega)
      rw [turnW_nat'] at ht1
      have HT := Lib.hid (And.intro ht1 hb)
      have hmnl : m ≤ n := by omega
      clear ht1 hb hmn2
      go_wp2_with fail
      refine HT.out.1.mono ?_
      rintro e w1 ⟨p1, c1, rfl, ho1, hb1⟩
      have hb01 := HT.out.2.trans (hb1.mono HT.out.2.size)
      have ht2 := turn_ref p n c l (b : Int) w1 H.out.2.1 (H.out.1.next hb01) (by have := H.out.2.2; omega)
      rw [turnW_nat'] at ht2
      have H1 := Lib.hid (And.intro ht2 (And.intro ho1.toV hb01))
      clear ht2 ho1 hb1 hb01
      go_wp2_with fail
      refine H1.out.1.mono ?_
      rintro e w2 ⟨p2, c2, rfl, ho2, hb2⟩
      have hcm := Quiet.tells (cmp_refW p1 p2 _ _ c1 c2 (rot l m) (rot l b) w2 rfl rfl (H1.out.2.1.next hb2) ho2.toV)
      have hcl : cmpW (rot l m) (rot l b) = lexC (rot l m) (rot l b) := cmpW_len (rot_same l m b)
      rw [hcl] at hcm
      obtain ⟨v, hv⟩ : ∃ v, lexC (rot l m) (rot l b) = v := ⟨_, rfl⟩
      rw [hv] at hcm
      have H2 := Lib.hid (And.intro hcm (And.intro (H1.out.2.2.trans (hb2.mono H1.out.2.2.size)) hv))
      clear hcm ho2 hb2 hcl hv
      go_wp2_with fail
      refine H2.out.1.mono ?_
      rintro e w3 ⟨rfl, hb3⟩
      have H3 := Lib.hid (H2.out.2.1.trans (hb3.mono H2.out.2.1.size))
      clear hb3
      by_cases hv0 : v < 0
      · have hst := best_turn hB.out (by rw [H2.out.2.2]; exact hv0)
        have HS := Lib.hid hst
        clear hst
        go_wp2_with fail
        go_roundw
        case rel => exact ⟨m, m + 1, by omega, rfl, by go_num, by omega, fun _ => by omega, HS.out, H3.out⟩
        case measure => simp [intOf]; omega
      · have hst := best_keep hB.out (by rw [H2.out.2.2]; omega)
        have HS := Lib.hid hst
        clear hst
        go_wp2_with fail
        go_roundw
        case rel => exact ⟨b, m + 1, by omega, rfl, by go_num, by omega, fun _ => by omega, HS.out, H3.out⟩
        case measure => simp [intOf]; omega
    · have hlw : leastW l = b := by
        rcases Nat.eq_zero_or_pos n with h0 | h0
        · have hl0 : l = [] := List.eq_nil_of_length_eq_zero (by have := H.out.2.1; omega)
          rw [hl0, leastW_nil]
          omega
        · have hmn3 := hmn2 h0
          obtain rfl : m = n := by omega
          exact leastW_eq (by have e := hB.out; rw [H.out.2.1] at e; exact best_all e)
      have HL := Lib.hid (And.intro hlw hb)
      clear hlw hb hmn2
      go_wp2_with fail
      go_ret
      exact ⟨by rw [HL.out.1]; rfl, HL.out.2⟩
end Go.Proofs.YtgdjnohhofbcnaaDoor
end
section
namespace Go.Proofs.YtgdjnohhofbcnaaDoor
open Go.RowKit WordM

end Go.Proofs.YtgdjnohhofbcnaaDoor
end
