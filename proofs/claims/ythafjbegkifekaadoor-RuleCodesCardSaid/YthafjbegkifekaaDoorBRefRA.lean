/- The document's own package of rules by its contracts: errors, Power, Bad, Size, Check. -/
import Derived.Test.YthafjbegkifekaaDoorB3
import Derived.Test.YthafjbegkifekaaDoorBRefWD
namespace Go.Proofs.YthafjbegkifekaaDoor
open Go.RowKit Go.Extern.Stop Go.Stop Go.Extern WordM RuleM NatM
attribute [local go_sem ↓] Go.wp_at_zero Go.wp_at_succ

/-- an Err of package rule: its number k at place pl; its two slices are new -/
def RefErrR (w : World) (pl k : Int) (v : Value) (w' : World) : Prop :=
  ∃ g g', v = .agg #[.int .i64 k, .slice (some ⟨g, 0, none⟩) 1 1, .slice (some ⟨g', 0, none⟩) 1 1] ∧ (w.heap.size ≤ g ∧ w.heap.size ≤ g') ∧ WantV w' (some ⟨g, 0, none⟩) (some ⟨g', 0, none⟩) 1 1 [(ruleOp, pl)] ∧ Below w.heap.size w w'
def RefErrR1 (w : World) (pl k : Int) (e : Ending) (w' : World) : Prop := ∃ v, e = .returned v ∧ RefErrR w pl k v w'
/-- refused: the zero value v0, and the error -/
def RefErrR2 (w : World) (v0 : Value) (pl k : Int) (e : Ending) (w' : World) : Prop := ∃ v, e = .returned (.tuple #[v0, v]) ∧ RefErrR w pl k v w'
theorem RefErrR.laid {w wx w2 : World} {h g g' : Nat} {pl k : Int} (hb : Below w.heap.size w wx) (hh : w.heap.size ≤ h) (hlt : h < wx.heap.size) (hg : wx.heap.size ≤ g ∧ g < w2.heap.size ∧ wx.heap.size ≤ g' ∧ g' < w2.heap.size)
    (hc : w2.cell? ⟨g, 0, none⟩ = some (.string ruleOp)) (hc' : w2.cell? ⟨g', 0, none⟩ = some (.int .i64 pl)) (hb2 : Below wx.heap.size wx w2) (a b c : Value) :
    RefErrR w pl k (.agg #[.int .i64 k, .slice (some ⟨g, 0, none⟩) 1 1, .slice (some ⟨g', 0, none⟩) 1 1]) (put3 w2 h a b c) := by
  have hs := hb.size
  refine ⟨g, g', rfl, ⟨by omega, by omega⟩, ?_, put3_below (hb.trans (hb2.mono hs)) hh _ _ _⟩
  exact WantV.put3 (WantV.one hg.2.1 hg.2.2.2 hc hc') (by omega) (by omega) _ _ _
theorem Err3.lt {w : World} {h : Nat} {a b c : Value} (k : Err3 w h a b c) : h < w.heap.size := heap_ltN k.heap
theorem start_err (w w0 : World) (hw0 : w0 = w.alloc (.cells #[.int .i64 0, .slice none 0 0, .slice none 0 0] 33)) : Below w.heap.size w w0 ∧ Err3 w0 w.heap.size (.int .i64 0) (.slice none 0 0) (.slice none 0 0) :=
  ⟨by rw [hw0]; exact (Below.refl _ _).alloc (Nat.le_refl _) _, by rw [hw0]; exact Err3.new w⟩
theorem start_both (w : World) (a b c : Value) (w0 : World) (hw0 : w0 = (w.alloc (.cells #[a, b, c] 24)).alloc (.cells #[.int .i64 0, .slice none 0 0, .slice none 0 0] 33)) :
    Below w.heap.size w w0 ∧ Rul3 w0 w.heap.size a b c ∧ Err3 w0 (w.heap.size + 1) (.int .i64 0) (.slice none 0 0) (.slice none 0 0) := by
  have h1 : Below w.heap.size w (w.alloc (.cells #[a, b, c] 24)) := (Below.refl _ _).alloc (Nat.le_refl _) _
  obtain ⟨h2, h3⟩ := start_err (w.alloc (.cells #[a, b, c] 24)) w0 hw0
  have hs : (w.alloc (.cells #[a, b, c] 24)).heap.size = w.heap.size + 1 := by simp
  rw [hs] at h3
  exact ⟨h1.trans (h2.mono h1.size), (Rul3.new w a b c).next h2, h3⟩

theorem small_pow7 {k j : Nat} (h4 : k ≤ 4) (h : j ≤ 7) : k ^ j ≤ 16384 := Nat.le_trans (Nat.pow_le_pow_left h4 _) (Nat.le_trans (Nat.pow_le_pow_right (by omega) h) (by decide))
set_option maxHeartbeats 1000000 in
theorem power_ref (k n : Nat) (w : World) (h4 : k ≤ 4) (h7 : n ≤ 7) :
    Calls Tryd.prog 41 #[.int .i64 (k : Int), .int .i64 (n : Int)] w fun e w' => e = .returned (.int .i64 ((k ^ n : Nat) : Int)) ∧ w = w' := by
  go_enter Tryd.func41, Tryd.ntmps41
  go_wp2_with fail
  go_loop [5, 6] (fun v5 v6 => ∃ j : Nat, j ≤ n ∧ v6 = .int .i64 (j : Int) ∧ v5 = .int .i64 ((k ^ j : Nat) : Int)) (fun _ v => n - (intOf v).toNat)
  case atStart => exact ⟨0, Nat.zero_le _, rfl, by simp⟩
  case round =>
    obtain ⟨j, hj, rfl, rfl⟩ := hrel
    by_cases hlt : j < n
    · have hs := small_pow7 (j := j) h4 (by omega)
      have hn := Nat.pow_succ k j
      obtain ⟨s, hs'⟩ : ∃ s, k ^ j = s := ⟨_, rfl⟩
      rw [hs'] at hn hs ⊢
      have hsq : s * k ≤ 16384 * 4 := Nat.mul_le_mul hs h4
      have hsm : ((s : Int) * (k : Int)) = ((s * k : Nat) : Int) := by push_cast; rfl
      obtain ⟨u, hu⟩ : ∃ u, s * k = u := ⟨_, rfl⟩
      rw [hu] at hsq hsm hn
      have w2 : IntKind.i64.wrap ((s : Int) * (k : Int)) = (u : Int) := by rw [hsm, IntWalk.i64_in _ (by omega)]
      have HU := Lib.hid hn
      clear hn hs' hsm hu
      go_wp2_with fail
      go_round
      case rel => exact ⟨j + 1, by omega, by go_num, by rw [HU.out]⟩
      case measure => simp [intOf]; omega
    · obtain rfl : j = n := by omega
      go_wp2_with fail
      go_ret
      exact ⟨rfl, rfl⟩

/-- the place of the first number that is none of k symbols; -1, where there is none -/
def badN (k : Int) (l : List Int) : Int := match l.findIdx? (badAt k) with
  | some i => (i : Int)
  | none => -1
theorem badN_ok {k : Nat} {l : List Int} (h : okW k l) : badN k l = -1 := by unfold badN; rw [bad_none.2 h]
theorem badN_bad {k : Int} {l : List Int} {i : Nat} (h : l.findIdx? (badAt k) = some i) : badN k l = (i : Int) := by unfold badN; rw [h]
theorem bad_ref (k : Int) (p : Option Addr) (n c : Nat) (l : List Int) (w : World) (hn : n = l.length) (h : IntV w.heap.size w p c l) :
    Calls Tryd.prog 46 #[.int .i64 k, .slice p n c] w fun e w' => e = .returned (.int .i64 (badN k l)) ∧ w = w' := by
  have hle := h.le
  have hcap := h.cap
  unfold maxLen at hcap
  have hnc : n ≤ c := by omega
  obtain ⟨z, hz⟩ : ∃ z, badN k l = z := ⟨_, rfl⟩
  rw [hz]
  unfold badN at hz
  have hcases : (z = -1 ∧ ∀ (j : Nat) (x : Int), l[j]? = some x → badAt k x = false) ∨ (∃ i : Nat, z = i ∧ i < n ∧ (∃ x : Int, l[i]? = some x ∧ badAt k x = true) ∧ ∀ (j : Nat) (x : Int), j < i → l[j]? = some x → badAt k x = false) := by
    cases hf : l.findIdx? (badAt k) with
    | none =>
      rw [hf] at hz
      left
      refine ⟨hz.symm, fun j x hx => ?_⟩
      rw [List.findIdx?_eq_none_iff] at hf
      exact hf x (List.mem_of_getElem? hx)
    | some i =>
      rw [hf] at hz
      obtain ⟨hil, hbad, hall⟩ := List.findIdx?_eq_some_iff_getElem.1 hf
      right
      refine ⟨i, hz.symm, by omega, ⟨_, List.getElem?_eq_getElem hil, hbad⟩, fun j x hj hx => ?_⟩
      have := hall j hj
      rw [List.getElem?_eq_getElem (by omega)] at hx
      obtain rfl := Option.some.inj hx
      simpa using this
  have H := Lib.hid (And.intro h hn)
  clear h hz hn hle
  rcases hcases with ⟨rfl, hall⟩ | ⟨i, rfl, hin, ⟨xb, hxb, hxb'⟩, hall⟩
  · have HA := Lib.hid hall
    clear hall
    go_enter Tryd.func46, Tryd.ntmps46
    go_wp2_with fail
    go_loop [5] (fun v => ∃ j : Nat, j ≤ n ∧ v = .int .i64 (j : Int)) (fun v => n - (intOf v).toNat)
    case atStart => exact ⟨0, Nat.zero_le _, rfl⟩
    case round =>
      obtain ⟨j, hj, rfl⟩ := hrel
      by_cases hlt : j < n
      · have hnl := H.out.2
        obtain ⟨b, off, rfl, hb, hc⟩ := H.out.1.cell (by rintro rfl; simp at hnl; omega)
        obtain ⟨x, hx⟩ := getI (l := l) (k := j) (by omega)
        have hcx := hc j x hx
        have hg := HA.out j x hx
        unfold badAt at hg
        simp at hg
        have hx1 : ¬ x < 0 := by omega
        have hx2 : ¬ k ≤ x := by omega
        clear hc hx hg hnl
        go_wp2_with fail
        go_round
        case rel => exact ⟨j + 1, by omega, by go_num⟩
        case measure => simp [intOf]; omega
      · obtain rfl : j = n := by omega
        go_wp2_with fail
        go_ret
        exact ⟨rfl, rfl⟩
  · have HA := Lib.hid (And.intro hall (And.intro hxb hxb'))
    clear hall hxb hxb'
    go_enter Tryd.func46, Tryd.ntmps46
    go_wp2_with fail
    go_loop [5] (fun v => ∃ j : Nat, j ≤ i ∧ v = .int .i64 (j : Int)) (fun v => n - (intOf v).toNat)
    case atStart => exact ⟨0, Nat.zero_le _, rfl⟩
    case round =>
      obtain ⟨j, hj, rfl⟩ := hrel
      have hnl := H.out.2
      obtain ⟨b, off, rfl, hb, hc⟩ := H.out.1.cell (by rintro rfl; simp at hnl; omega)
      by_cases hlt : j < i
      · obtain ⟨x, hx⟩ := getI (l := l) (k := j) (by omega)
        have hcx := hc j x hx
        have hg := HA.out.1 j x hlt hx
        unfold badAt at hg
        simp at hg
        have hx1 : ¬ x < 0 := by omega
        have hx2 : ¬ k ≤ x := by omega
        clear hc hx hg hnl
        go_wp2_with fail
        go_round
        case rel => exact ⟨j + 1, by omega, by go_num⟩
        case measure => simp [intOf]; omega
      · obtain rfl : j = i := by omega
        have hcx := hc j xb HA.out.2.1
        have hg := HA.out.2.2
        unfold badAt at hg
        simp at hg
        clear hc hnl
        rcases Int.lt_or_le xb 0 with hx1 | hx1
        · clear hg
          go_wp2_with fail
          go_ret
          exact ⟨rfl, rfl⟩
        · have hx2 : k ≤ xb := by omega
          have hx3 : ¬ xb < 0 := by omega
          clear hg
          go_wp2_with fail
          go_ret
          exact ⟨rfl, rfl⟩

/-- how many windows, and no error -/
def SizeRef (w : World) (n : Nat) (e : Ending) (w' : World) : Prop := e = .returned (.tuple #[.int .i64 (n : Int), noErr]) ∧ Below w.heap.size w w'
set_option maxRecDepth 100000 in
set_option maxHeartbeats 2000000 in
theorem size_ref_ok (k r : Nat) (w : World) (h1 : 1 ≤ k) (h4 : k ≤ 4) (h3 : r ≤ 3) :
    Calls Tryd.prog 12 #[.int .i64 (k : Int), .int .i64 (r : Int)] w (SizeRef w (k ^ (2 * r + 1))) := by
  obtain ⟨R2, hR2⟩ : ∃ R2 : Nat, 2 * r = R2 := ⟨_, rfl⟩
  obtain ⟨M, hM⟩ : ∃ M : Nat, R2 + 1 = M := ⟨_, rfl⟩
  have hpw := fun W => power_ref k M W h4 (by omega)
  obtain ⟨S, hS⟩ : ∃ S, k ^ (2 * r + 1) = S := ⟨_, rfl⟩
  rw [hS]
  rw [hR2, hM] at hS
  simp only [hS] at hpw
  have w2r : IntKind.i64.wrap (2 * (r : Int)) = (R2 : Int) := by rw [IntWalk.i64_in _ (by omega)]; omega
  have wR : IntKind.i64.wrap ((R2 : Int) + 1) = (M : Int) := by rw [IntWalk.i64_in _ (by omega)]; omega
  have H := Lib.hid hpw
  clear hpw hS hR2 hM
  go_enter Tryd.func12, Tryd.ntmps12
  go_wp2_with fail
  obtain ⟨w0, hw0⟩ : ∃ w0, w0 = w.alloc (.cells #[.int .i64 0, .slice none 0 0, .slice none 0 0] 33) := ⟨_, rfl⟩
  rw [← hw0]
  obtain ⟨hb0, hE0⟩ := start_err w w0 hw0
  obtain ⟨⟨hf0, hf1, hf2⟩, hc0, hc1, hc2⟩ := hE0.facts
  have HE := Lib.hid hb0
  clear hw0 hE0 hb0
  refine (H.out w0).mono ?_
  rintro e w1 ⟨rfl, rfl⟩
  go_wp2_with fail
  refine bodyPost_ret (v := .tuple #[.int .i64 (S : Int), noErr]) (by simp [results, Tryd.results12, go_sem, hc0, hc1, hc2, noErr]) rfl ⟨rfl, ?_⟩
  exact put3_below HE.out (Nat.le_refl _) _ _ _
set_option maxRecDepth 100000 in
set_option maxHeartbeats 2000000 in
theorem size_ref_bad (k r : Int) (w : World) (h : (k < 1 ∨ 4 < k) ∨ r < 0 ∨ 3 < r) :
    Calls Tryd.prog 12 #[.int .i64 k, .int .i64 r] w (RefErrR2 w (.int .i64 0) 0 3) := by
  rcases (by omega : k < 1 ∨ (¬ k < 1 ∧ 4 < k) ∨ (¬ k < 1 ∧ ¬ 4 < k ∧ r < 0) ∨ (¬ k < 1 ∧ ¬ 4 < k ∧ ¬ r < 0 ∧ 3 < r)) with h1 | ⟨h1, h2⟩ | ⟨h1, h2, h3⟩ | ⟨h1, h2, h3, h4⟩
  all_goals
    clear h
    go_enter Tryd.func12, Tryd.ntmps12
    go_wp2_with fail
    obtain ⟨w0, hw0⟩ : ∃ w0, w0 = w.alloc (.cells #[.int .i64 0, .slice none 0 0, .slice none 0 0] 33) := ⟨_, rfl⟩
    rw [← hw0]
    obtain ⟨hb0, hE0⟩ := start_err w w0 hw0
    have HE := Lib.hid (And.intro hE0 hb0)
    clear hw0 hE0 hb0
    refine (raw_fresh ruleOp 0 3 w0).mono ?_
    rintro e w2 ⟨g, g', rfl, hg, hcg, hcg', hb2⟩
    obtain ⟨⟨hf0, hf1, hf2⟩, hc0, hc1, hc2⟩ := (HE.out.1.next hb2).facts
    have HB := Lib.hid (RefErrR.laid (k := 3) HE.out.2 (Nat.le_refl _) HE.out.1.lt hg hcg hcg' hb2)
    clear hb2 hcg hcg' hg
    go_wp2_with fail
    refine bodyPost_ret (v := .tuple #[.int .i64 0, .agg #[.int .i64 3, .slice (some ⟨g, 0, none⟩) 1 1, .slice (some ⟨g', 0, none⟩) 1 1]]) (by simp [results, Tryd.results12, go_sem, hc0, hc1, hc2]) rfl ⟨_, rfl, ?_⟩
    exact HB.out _ _ _
end Go.Proofs.YthafjbegkifekaaDoor
