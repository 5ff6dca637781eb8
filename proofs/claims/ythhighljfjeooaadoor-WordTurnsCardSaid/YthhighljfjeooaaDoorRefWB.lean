/- The document's own package of words by its contracts, second part: Cmp, Turn, Least, Period. -/
import Derived.Test.YthhighljfjeooaaDoorWordC
import Derived.Test.YthhighljfjeooaaDoorRefWA
namespace Go.Proofs.YthhighljfjeooaaDoor
open Go.RowKit WordM

set_option maxRecDepth 100000 in
set_option maxHeartbeats 4000000 in
theorem cmp_refW (p q : Option Addr) (n m c d : Nat) (l k : List Int) (w : World) (hn : n = l.length) (hm : m = k.length) (h : IntV w.heap.size w p c l) (h' : IntV w.heap.size w q d k) :
    Calls Tryd.prog 70 #[.slice p n c, .slice q m d] w (Quiet (.int .i64 (cmpW l k)) w) := by
  have hle := h.le
  have hcap := h.cap
  have hdle := h'.le
  have hdcap := h'.cap
  unfold maxLen at hcap hdcap
  have hnc : n ≤ c := by omega
  have hmd : m ≤ d := by omega
  rcases Nat.lt_trichotomy n m with hnm | hnm | hnm
  · have hc : cmpW l k = -1 := by unfold cmpW; rw [if_pos (by omega)]
    have HC := Lib.hid hc
    clear hc h h' hn hm hle hdle
    go_enter Tryd.func70, Tryd.ntmps70
    go_wp2_with fail
    go_ret
    exact ⟨by rw [HC.out]; rfl, 0, rfl⟩
  · subst hnm
    have hlen : l.length = k.length := by omega
    have hw : cmpW l k = lexC l k := cmpW_len hlen
    have H := Lib.hid (And.intro h (And.intro h' (And.intro hn (And.intro hlen hw))))
    clear h h' hn hm hlen hw hle hdle
    go_enter Tryd.func70, Tryd.ntmps70
    go_wp2_with fail
    go_loopw [5] (fun v wx => ∃ j : Nat, j ≤ n ∧ v = .int .i64 (j : Int) ∧ Hid (∃ a, wx = w.drewN a) ∧ Hid (l.take j = k.take j)) (fun v _ => n - (intOf v).toNat)
    case atStart => exact ⟨0, Nat.zero_le _, rfl, ⟨0, rfl⟩, by show _ = _; simp⟩
    case round =>
      obtain ⟨j, hj, rfl, hbx, ht⟩ := hrel
      by_cases hlt : j < n
      · have hnl := H.out.2.2.1
        have hkl := H.out.2.2.2.1
        have hne : l ≠ [] := by rintro rfl; simp at hnl; omega
        have hne' : k ≠ [] := by rintro rfl; simp at hkl; simp [hkl] at hnl; omega
        have hbw : Below w.heap.size w wr := hbx.out.elim fun a e => e ▸ below_drewN (Below.refl _ _) a
        obtain ⟨b, off, rfl, hb, hc⟩ := (H.out.1.below hbw).cell hne
        obtain ⟨b', off', rfl, hb', hc'⟩ := (H.out.2.1.below hbw).cell hne'
        obtain ⟨x, hx⟩ := getI (l := l) (k := j) (by omega)
        obtain ⟨y, hy⟩ := getI (l := k) (k := j) (by omega)
        have h1 := hc j x hx
        have h2 := hc' j y hy
        have HX := Lib.hid (And.intro hx hy)
        clear hc hc' hx hy hne hne' hnl hkl hbw
        rcases (by omega : x < y ∨ y < x ∨ x = y) with hxy | hxy | hxy
        · have hlx : lexC l k = -1 := lexC_lt j H.out.2.2.2.1 (get_take_alike ht.out) ⟨x, y, HX.out.1, HX.out.2, hxy⟩
          have HC := Lib.hid hlx
          have hd : decide (x < y) = true := by rw [decide_eq_true_iff]; exact hxy
          clear hlx
          go_wp2_with fail
          go_quiet (fail)
          go_wp2_with fail
          go_ret
          exact ⟨by rw [H.out.2.2.2.2, HC.out]; rfl, quiet_more hbx.out _⟩
        · have hlx : lexC l k = 1 := lexC_gt j H.out.2.2.2.1 (get_take_alike ht.out) ⟨x, y, HX.out.1, HX.out.2, hxy⟩
          have HC := Lib.hid hlx
          have hd : decide (x < y) = false := by rw [decide_eq_false_iff_not]; omega
          have hd2 : decide (y < x) = true := by rw [decide_eq_true_iff]; exact hxy
          clear hlx
          go_wp2_with fail
          go_quiet (fail)
          go_wp2_with fail
          go_quiet (fail)
          go_wp2_with fail
          go_ret
          exact ⟨by rw [H.out.2.2.2.2, HC.out]; rfl, by first | exact quiet_more hbx.out _ | exact quiet_more (quiet_more hbx.out _) _⟩
        · subst hxy
          have hd : decide (x < x) = false := by rw [decide_eq_false_iff_not]; omega
          go_wp2_with fail
          go_quiet (fail)
          go_wp2_with fail
          go_quiet (fail)
          go_wp2_with fail
          go_roundw
          case rel => exact ⟨j + 1, by omega, by go_num, by first | exact quiet_more hbx.out _ | exact quiet_more (quiet_more hbx.out _) _, take_alike HX.out.1 HX.out.2 ht.out⟩
          case measure => simp [intOf]; omega
      · obtain rfl : j = n := by omega
        have hlx : lexC l k = 0 := by
          have e := ht.out
          rw [H.out.2.2.1, List.take_length, H.out.2.2.2.1, List.take_length] at e
          rw [e, lexC_self]
        have HC := Lib.hid hlx
        clear hlx
        go_wp2_with fail
        go_ret
        exact ⟨by rw [H.out.2.2.2.2, HC.out]; rfl, hbx.out⟩
  · have hc : cmpW l k = 1 := by unfold cmpW; rw [if_neg (by omega), if_pos (by omega)]
    have HC := Lib.hid hc
    clear hc h h' hn hm hle hdle
    go_enter Tryd.func70, Tryd.ntmps70
    go_wp2_with fail
    go_ret
    exact ⟨by rw [HC.out]; rfl, 0, rfl⟩

def TurnRel (w : World) (X : List Int) (n g : Nat) (v : Value) (wr : World) : Prop :=
  ∃ i : Nat, i ≤ n ∧ v = .int .i64 (i : Int) ∧ IntO w.heap.size wr (some ⟨g, 0, none⟩) n (X.take i ++ List.replicate (n - i) 0) ∧ Below w.heap.size w wr
theorem put_nextI {l : List Int} {j n : Nat} {x : Int} (h : l[j]? = some x) (hj : j < n) : (l.take j ++ List.replicate (n - j) 0).set j x = l.take (j + 1) ++ List.replicate (n - (j + 1)) 0 := by
  have hl := ltI h
  rw [List.set_append_right _ _ (by rw [List.length_take]; omega), List.length_take, Nat.min_eq_left (by omega), Nat.sub_self, List.take_add_one, h]
  obtain ⟨m, hm⟩ : ∃ m, n - j = m + 1 := ⟨n - j - 1, by omega⟩
  rw [hm, show n - (j + 1) = m by omega, List.replicate_succ]
  simp
set_option maxRecDepth 100000 in
set_option maxHeartbeats 4000000 in
theorem turn_ref (p : Option Addr) (n c : Nat) (l : List Int) (z : Int) (w : World) (hn : n = l.length) (h : IntV w.heap.size w p c l) (hl : l.length ≤ 17592186044000) :
    Calls Tryd.prog 71 #[.slice p n c, .int .i64 z] w (IntPost w (turnW l z)) := by
  have hle := h.le
  have hcap := h.cap
  unfold maxLen at hcap
  have hnc : n ≤ c := by omega
  have hnl : n ≤ 17592186044000 := by omega
  have hmk := makeI n hnl w
  have ho0 := IntO.made w n hnl
  have hb0 : Below w.heap.size w (w.alloc (.cells (madeCells #[.int .i64 0] n) 3)) := (Below.refl _ _).alloc (Nat.le_refl _) _
  have HO := Lib.hid (And.intro ho0 hb0)
  clear ho0 hb0
  rcases Nat.eq_zero_or_pos n with h0 | h0
  · have hl0 : l = [] := List.eq_nil_of_length_eq_zero (by omega)
    subst hl0 h0
    have HO' := Lib.hid (And.intro (show IntO w.heap.size (w.alloc (.cells (madeCells #[.int .i64 0] 0) 3)) (some ⟨w.heap.size, 0, none⟩) 0 [] from HO.out.1) HO.out.2)
    have hmk0 : (Instr.makeSlice 40 (.int .i64 0) (.int .i64 0)).run Tryd.prog w = .ok (.slice (some ⟨w.heap.size, 0, none⟩) 0 0) (w.alloc (.cells (madeCells #[.int .i64 0] 0) 3)) := makeI 0 (by omega) w
    clear h hle hn hl HO hmk
    go_enter Tryd.func71, Tryd.ntmps71
    go_wp2_with fail
    go_ret
    exact ⟨_, _, rfl, HO'.out.1, HO'.out.2⟩
  · obtain ⟨t, ht⟩ : ∃ t, turnN l z = t := ⟨_, rfl⟩
    have htn : t < n := by
      rw [← ht, hn]
      unfold turnN
      have h1 := Int.emod_lt_of_pos z (show (0 : Int) < (l.length : Int) by omega)
      have h2 := Int.emod_nonneg z (show (l.length : Int) ≠ 0 by omega)
      omega
    have htz : z % (n : Int) = (t : Int) := by
      rw [← ht, hn]
      unfold turnN
      have h2 := Int.emod_nonneg z (show (l.length : Int) ≠ 0 by omega)
      omega
    have hnz : ((n : Int) == 0) = false := by rw [beq_eq_false_iff_ne]; omega
    obtain ⟨r, hr⟩ : ∃ r, z.tmod (n : Int) = r := ⟨_, rfl⟩
    have hrt : (r < 0 ∧ r + (n : Int) = (t : Int)) ∨ (¬ r < 0 ∧ r = (t : Int)) := by
      have e := @Int.tmod_eq_emod z (n : Int)
      have hlo : -(n : Int) < r := by rw [← hr]; exact Int.lt_tmod_of_pos z (by omega)
      rw [hr, htz] at e
      split at e <;> omega
    have hX : turnW l z = rot l t := by unfold turnW; rw [ht]
    have hXl : (rot l t).length = n := by rw [rot_length, hn]
    have H := Lib.hid (And.intro h (And.intro hn (And.intro hX hXl)))
    clear ht htz h hn hX hXl hle hl
    rcases hrt with ⟨hr0, hrt⟩ | ⟨hr0, rfl⟩
    all_goals
      go_enter Tryd.func71, Tryd.ntmps71
      go_wp2_with fail
      clear hmk
      go_loopw [7] (fun v wr => TurnRel w (rot l t) n w.heap.size v wr) (fun v _ => n - (intOf v).toNat)
      case atStart => exact ⟨0, Nat.zero_le _, rfl, by rw [List.take_zero, List.nil_append, Nat.sub_zero]; exact HO.out.1, HO.out.2⟩
      case round =>
        obtain ⟨i, hi, rfl, ho, hb⟩ := hrel
        by_cases hlt : i < n
        · have hnl' := H.out.2.1
          obtain ⟨b, off, rfl, hbb, hcc⟩ := (H.out.1.next hb).cell (by rintro rfl; simp at hnl'; omega)
          obtain ⟨i1, hi1⟩ : ∃ i1, (i + t) % n = i1 := ⟨_, rfl⟩
          have h1n : i1 < n := by rw [← hi1]; exact Nat.mod_lt _ h0
          obtain ⟨x, hx⟩ := getI (l := l) (k := i1) (by omega)
          have hcx := hcc i1 x hx
          have hxr : (rot l t)[i]? = some x := by
            rw [rot_get (by omega), ← hx, ← F_mod, ← H.out.2.1, hi1, F_get (by omega)]
          have e1 : ((i : Int) + (t : Int)) % (n : Int) = (i1 : Int) := by rw [← hi1]; rfl
          have t1 : ((i : Int) + (t : Int)).tmod (n : Int) = (i1 : Int) := by rw [Int.tmod_eq_emod_of_nonneg (by omega), e1]
          have hput := put_nextI (n := n) hxr hlt
          have hlen : ((rot l t).take i ++ List.replicate (n - i) (0 : Int)).length = n := by have := H.out.2.2.2; simp; omega
          have hlen2 : ((rot l t).take (i + 1) ++ List.replicate (n - (i + 1)) (0 : Int)).length = n := by have := H.out.2.2.2; simp; omega
          have hown : wr.ownsRow w.heap.size 3 1 (.slice (some ⟨w.heap.size, 0, none⟩) n n) n (cI ((rot l t).take i ++ List.replicate (n - i) 0)) := by
            unfold IntO at ho
            rwa [hlen] at ho
          obtain ⟨y, hy⟩ := getI (l := (rot l t).take i ++ List.replicate (n - i) (0 : Int)) (k := i) (by omega)
          have hcy : wr.cell? ⟨w.heap.size, i, none⟩ = some (.int .i64 y) := (hown.cellAt i (by omega)).trans (cI_get hy)
          have hfy : wr.frozen? ⟨w.heap.size, i, none⟩ = false := hown.frozenAt i
          obtain ⟨s1, u1⟩ := hown.stored i (.int .i64 x)
          rw [← cI_set, hput] at s1
          have hb1 : Below w.heap.size w (wr.setCell ⟨w.heap.size, i, none⟩ (.int .i64 x)) := hb.setCell (p := ⟨w.heap.size, i, none⟩) (Nat.le_refl _) _
          have HS := Lib.hid (And.intro s1 (And.intro hb1 hlen2))
          clear hcc hx hi1 hxr hput hlen hlen2 hown hy s1 u1 hb1 ho hb hnl'
          go_wp2_with fail
          go_roundw
          case rel => exact ⟨i + 1, by omega, by go_num, by unfold IntO; rw [HS.out.2.2]; exact HS.out.1, HS.out.2.1⟩
          case measure => simp [intOf]; omega
        · obtain rfl : i = n := by omega
          have he : (rot l t).take i ++ List.replicate (i - i) (0 : Int) = rot l t := by rw [Nat.sub_self, List.replicate_zero, List.append_nil, ← H.out.2.2.2, List.take_length]
          rw [he] at ho
          have HF := Lib.hid (And.intro ho hb)
          clear ho hb he
          go_wp2_with fail
          go_ret
          exact ⟨_, _, by rw [H.out.2.2.1, H.out.2.2.2]; rfl, by rw [H.out.2.2.1]; exact HF.out.1, HF.out.2⟩
theorem turnW_nat' (l : List Int) (t : Nat) : turnW l (t : Int) = rot l t := by
  unfold turnW turnN
  have : (t : Int) % (l.length : Int) = ((t % l.length : Nat) : Int) := rfl
  rw [this, Int.toNat_natCast, rot_mod]
set_option maxRecDepth 100000 in
set_option maxHeartbeats 4000000 in
theorem least_ref (p : Option Addr) (n c : Nat) (l : List Int) (w : World) (hn : n = l.length) (h : IntV w.heap.size w p c l) (hl : l.length ≤ 1000000) :
    Calls Tryd.prog 26 #[.slice p n c] w (Tells (.int .i64 (leastW l : Int)) w) := by
  have hle := h.le
  have hcap := h.cap
  unfold maxLen at hcap
  have hnc : n ≤ c := by omega
  have hnl : n ≤ 1000000 := by omega
  have H := Lib.hid (And.intro h (And.intro hn hl))
  clear h hn hl hle
  go_enter Tryd.func26, Tryd.ntmps26
  go_wp2_with fail
  go_loopw [3, 4] (fun v3 v4 wr => ∃ b m : Nat, m ≤ n + 1 ∧ v3 = .int .i64 (b : Int) ∧ v4 = .int .i64 (m : Int) ∧ b < m ∧ (0 < n → m ≤ n) ∧ Hid (BestTo l m b) ∧ Below w.heap.size w wr) (fun _ v4 _ => n + 1 - (intOf v4).toNat)
  case atStart => exact ⟨0, 1, by omega, rfl, rfl, by omega, fun h => h, best_one l, Below.refl _ _⟩
  case round =>
    obtain ⟨b, m, hmn, rfl, rfl, hbm, hmn2, hB, hb⟩ := hrel
    by_cases hlt : m < n
    · have ht1 := turn_ref p n c l (m : Int) wr H.out.2.1 (H.out.1.next hb) (by have := H.out.2.2; omega)
      rw [turnW_nat'] at ht1
      have HT := Lib.hid (And.intro ht1 hb)
      have hmnl : m ≤ n := by omega
      clear ht1 hb hmn2
      go_wp2_with fail
      refine HT.out.1.mono ?_
      rintro e w1 ⟨p1, c1, rfl, ho1, hb1⟩
      have hb01 := HT.out.2.trans (hb1.mono HT.out.2.size)
      have ht2 := turn_ref p n c l (b : Int) w1 H.out.2.1 (H.out.1.next hb01) (by have := H.out.2.2; omega)
      rw [turnW_nat'] at ht2
      have H1 := Lib.hid (And.intro ht2 (And.intro ho1.toV hb01))
      clear ht2 ho1 hb1 hb01
      go_wp2_with fail
      refine H1.out.1.mono ?_
      rintro e w2 ⟨p2, c2, rfl, ho2, hb2⟩
      have hcm := Quiet.tells (cmp_refW p1 p2 _ _ c1 c2 (rot l m) (rot l b) w2 rfl rfl (H1.out.2.1.next hb2) ho2.toV)
      have hcl : cmpW (rot l m) (rot l b) = lexC (rot l m) (rot l b) := cmpW_len (rot_same l m b)
      rw [hcl] at hcm
      obtain ⟨v, hv⟩ : ∃ v, lexC (rot l m) (rot l b) = v := ⟨_, rfl⟩
      rw [hv] at hcm
      have H2 := Lib.hid (And.intro hcm (And.intro (H1.out.2.2.trans (hb2.mono H1.out.2.2.size)) hv))
      clear hcm ho2 hb2 hcl hv
      go_wp2_with fail
      refine H2.out.1.mono ?_
      rintro e w3 ⟨rfl, hb3⟩
      have H3 := Lib.hid (H2.out.2.1.trans (hb3.mono H2.out.2.1.size))
      clear hb3
      by_cases hv0 : v < 0
      · have hst := best_turn hB.out (by rw [H2.out.2.2]; exact hv0)
        have HS := Lib.hid hst
        clear hst
        go_wp2_with fail
        go_roundw
        case rel => exact ⟨m, m + 1, by omega, rfl, by go_num, by omega, fun _ => by omega, HS.out, H3.out⟩
        case measure => simp [intOf]; omega
      · have hst := best_keep hB.out (by rw [H2.out.2.2]; omega)
        have HS := Lib.hid hst
        clear hst
        go_wp2_with fail
        go_roundw
        case rel => exact ⟨b, m + 1, by omega, rfl, by go_num, by omega, fun _ => by omega, HS.out, H3.out⟩
        case measure => simp [intOf]; omega
    · have hlw : leastW l = b := by
        rcases Nat.eq_zero_or_pos n with h0 | h0
        · have hl0 : l = [] := List.eq_nil_of_length_eq_zero (by have := H.out.2.1; omega)
          rw [hl0, leastW_nil]
          omega
        · have hmn3 := hmn2 h0
          obtain rfl : m = n := by omega
          exact leastW_eq (by have e := hB.out; rw [H.out.2.1] at e; exact best_all e)
      have HL := Lib.hid (And.intro hlw hb)
      clear hlw hb hmn2
      go_wp2_with fail
      go_ret
      exact ⟨by rw [HL.out.1]; rfl, HL.out.2⟩
end Go.Proofs.YthhighljfjeooaaDoor
