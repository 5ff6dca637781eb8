/- FaultWraps, second part: the walk where the number is not 0. -/
import Derived.Test.YtmbgfcanchmmpaaDoorWrapsWalk
import Derived.Deep.QuietTactic
import Derived.BigQuiet
namespace Go.Proofs.YtmbgfcanchmmpaaDoor
open Go.RowKit Go.Extern.Stop Go.Stop Go.Extern

theorem trail_texts (t : Tree) : t.faults.map opOf = (opTexts t).map Value.string := by
  unfold opTexts
  rw [List.map_map]
  rfl

theorem rev_get {ss : List ByteArray} {k j : Nat} {r : ByteArray} (hj : j < k) (hk : k ≤ ss.length) :
    (List.map Value.string ((ss.take k).reverse ++ [r]))[k - 1 - j]? = some (.string (ss.getD j .empty)) := by
  have hl : (ss.take k).length = k := List.length_take_of_le hk
  have hj2 : j < ss.length := Nat.lt_of_lt_of_le hj hk
  rw [List.getElem?_map, List.getElem?_append_left (by rw [List.length_reverse, hl]; omega), List.getElem?_reverse (by rw [hl]; omega), hl]
  have e : k - 1 - (k - 1 - j) = j := by omega
  rw [e, List.getElem?_take_of_lt hj, List.getD_eq_getElem?_getD, List.getElem?_eq_getElem hj2]
  rfl
theorem last_get {ss : List ByteArray} {k : Nat} {r : ByteArray} (hk : k ≤ ss.length) :
    (List.map Value.string ((ss.take k).reverse ++ [r]))[k]? = some (.string r) := by
  have hl : (ss.take k).reverse.length = k := by rw [List.length_reverse]; exact List.length_take_of_le hk
  rw [List.getElem?_map, List.getElem?_append_right (by omega), hl]
  simp

set_option maxRecDepth 100000 in
set_option maxHeartbeats 8000000 in
theorem wraps_some (p : Option Addr) (n0 cap : Nat) (ss : List ByteArray) (pl n : Int) (w : World) (A : Nat → Addr) (hr : Roots w A) (hT : TypeVar w) (hs : Strs w p n0 cap ss) (hmax : cap ≤ 9223372036854775807) (hn : n ≠ 0) :
    Calls Tryd.prog 5 #[.slice p n0 cap, .int .i64 pl, .int .i64 n] w (AwakePost w) := by
  have hn0 : n0 ≤ cap := hs.2.1
  have HR := Lib.hid hr
  have HT := Lib.hid hT
  have HS := Lib.hid hs
  clear hr hT hs
  go_enter Tryd.func5, Tryd.ntmps5
  go_wp2_with fail
  refine (awake_any _ A HR.out HT.out).mono ?_
  rintro e w1 ⟨rfl, hb1⟩
  go_upto_if 20 with fail
  go_cut [0] (fun v wx => CutRel w1 p n0 cap v wx)
  case first =>
    by_cases h : n0 ≤ 64
    · go_wp2_with fail
      go_meet
      exact ⟨n0, h, Nat.le_refl _, rfl, rfl⟩
    · obtain ⟨b, off, hp, _, _⟩ := HS.out.2.2 0 (by omega)
      subst hp
      go_wp2_with fail
      go_meet
      exact ⟨64, by omega, by omega, rfl, rfl⟩
  case rest =>
    obtain ⟨m, hm, hmn, rfl, rfl⟩ := hcut
    have HS1 := Lib.hid ((HS.out.less hmn).below hb1)
    go_wp2_with fail
    refine (new_any _ _ _ _ A (HR.out.below hb1) hn).mono ?_
    rintro e w2 ⟨rfl, hb2, hz2, hl2⟩
    have hB2 : Below w.heap.size w w2 := hb1.trans (hb2.mono hb1.size)
    have he2 : Ends A (known n) (Tree.fault wc.heap.size rootText pl (.leaf (A (known n)))) := (Ends.leaf HR.out (known_le n)).fault
    have hv : (Tree.fault wc.heap.size ⟨#[114, 111, 111, 116]⟩ pl (.leaf (A (known n)))).val = .iface 44 (.pointer (some ⟨wc.heap.size, 0, none⟩)) := rfl
    rw [hv]
    have hR0 : WrapRel w A (known n) ss wc.heap.size pl m (.iface 44 (.pointer (some ⟨wc.heap.size, 0, none⟩))) (.int .i64 0) w2 :=
      ⟨0, wc.heap.size, rootText, pl, .leaf (A (known n)), Nat.zero_le _, rfl, rfl, hl2, he2, rfl, rfl, by simp [Tree.hits], hl2, hB2⟩
    have HR0 := Lib.hid hR0
    have HL2 := Lib.hid hl2
    have HE2 := Lib.hid he2
    have HB2 := Lib.hid hB2
    have hss : m ≤ ss.length := HS1.out.1
    obtain ⟨b0, hb0⟩ : ∃ b0, wc.heap.size = b0 := ⟨_, rfl⟩
    rw [hb0] at HR0 HL2 HE2 ⊢
    clear hR0 hl2 he2 hv hz2 hB2 hb0
    go_wp2_with fail
    go_loopw [8, 9] (fun v8 v9 wr => WrapRel w A (known n) ss b0 pl m v8 v9 wr) (fun _ i _ => m - (intOf i).toNat)
    case atStart => exact HR0.out
    case round =>
      obtain ⟨k, b, op, q, t, hk, rfl, rfl, hl, he, ho, hg, hh, hrt, hb⟩ := hrel
      have hv : (Tree.fault b op q t).val = .iface 44 (.pointer (some ⟨b, 0, none⟩)) := rfl
      have HH := Lib.hid (And.intro hl (And.intro he (And.intro ho (And.intro hg hh))))
      have HRT := Lib.hid hrt
      clear hl he ho hg hh hrt
      by_cases hlt : k < m
      · obtain ⟨bs, off, rfl, hbs, hc'⟩ := ((HS.out.less hmn).below hb).2.2 k hlt
        obtain ⟨s, hs⟩ : ∃ s, s = ss.getD k .empty := ⟨_, rfl⟩
        rw [← hs] at hc'
        have HSS := Lib.hid hs
        clear hs
        go_wp2_with fail
        refine (under_any s _ (.fault b op q t) _ HH.out.1 rfl).mono ?_
        rintro e w4 ⟨rfl, hb4, hz4, hl4⟩
        have hv4 : (Tree.fault wr.heap.size s k (.fault b op q t)).val = .iface 44 (.pointer (some ⟨wr.heap.size, 0, none⟩)) := rfl
        rw [hv4]
        have hns := neq_same
        go_wp2_with fail
        refine (errorsUnwrap _ _ _ _ _ hl4).mono ?_
        rintro e w5 ⟨rfl, rfl⟩
        have HL4 := Lib.hid hl4
        clear hl4 hz4 hv4
        rw [hv]
        go_wp2_with fail
        go_roundw
        case rel =>
          have hq := WrapRel.next (b := wr.heap.size) (q := (k : Int)) hlt (by omega) hb hb4 (by rw [← HSS.out]; exact HL4.out) HH.out.2.1 HH.out.2.2.1 HH.out.2.2.2.1 HH.out.2.2.2.2 HRT.out
          rw [← HSS.out] at hq
          exact hq
        case measure => simp [intOf]; omega
      · obtain rfl : k = m := by omega
        have hlen : (Tree.fault b op q t).faults.length = k + 1 := by
          have h1 := congrArg List.length HH.out.2.2.1
          rw [List.length_append, List.length_reverse, List.length_take_of_le hss] at h1
          simpa [opTexts] using h1
        have HLEN := Lib.hid hlen
        have HSr := Lib.hid ((HS.out.less hmn).below hb)
        have HL0 := Lib.hid (And.intro HL2.out HB2.out)
        clear hlen
        go_wp2_with fail
        refine (trail_any (.fault b op q t) _ HH.out.1 (HT.out.below hb) (by rw [HLEN.out]; omega)).mono ?_
        rintro e w3 ⟨v, rfl, hown, hb3⟩
        rw [HLEN.out, trail_texts, HH.out.2.2.1] at hown
        rcases own_shape hown with ⟨_, h0, _⟩ | ⟨g, capt, rfl, hg1, hg2, hcap, hm2, hcell, _⟩
        · exact absurd h0 (by omega)
        have HC := Lib.hid hcell
        clear hown hcell hm2
        have hB3 : Below w.heap.size w w3 := hb.trans (hb3.mono hb.size)
        have hl3 := Tree.lies_below hb3 (t := .fault b op q t) HH.out.1
        go_wp2_with fail
        refine (deep_any (.fault b op q t) _ hl3 (HT.out.below hB3) (by rw [HLEN.out]; omega)).mono ?_
        rintro e w4 ⟨rfl, hb4⟩
        rw [HLEN.out]
        have hB4 : Below w.heap.size w w4 := hB3.trans (hb4.mono hB3.size)
        have hl4 := Tree.lies_below hb4 (t := .fault b op q t) hl3
        have hd1 : (((k + 1 : Nat) : Int)) = (k : Int) + 1 := by omega
        rw [hd1]
        clear hd1
        go_wp2_with fail
        refine (code_any (.fault b op q t) _ A hl4 (HR.out.below hB4)).mono ?_
        rintro e w5 ⟨c, rfl, hc, hb5⟩
        obtain rfl := HH.out.2.1.code (known_le n) hc
        have hB5 : Below w.heap.size w w5 := hB4.trans (hb5.mono hB4.size)
        have hl5 := Tree.lies_below hb5 (t := .fault b op q t) hl4
        clear hc
        go_wp2_with fail
        have hB35 : Below wr.heap.size wr w5 := hb3.trans ((hb4.trans (hb5.mono hb4.size)).mono hb3.size)
        have hr5 := Tree.lies_below hB35 (t := .fault b0 rootText pl (.leaf (A (known n)))) HRT.out
        refine (code_any (.fault b0 rootText pl (.leaf (A (known n)))) _ A hr5 (HR.out.below hB5)).mono ?_
        rintro e w6 ⟨c, rfl, hc, hb6⟩
        obtain rfl := HE2.out.code (known_le n) hc
        have hB6 : Below w.heap.size w w6 := hB5.trans (hb6.mono hB5.size)
        have hl6 := Tree.lies_below hb6 (t := .fault b op q t) hl5
        have hr6 := Tree.lies_below hb6 (t := .fault b0 rootText pl (.leaf (A (known n)))) hr5
        clear hc
        go_wp2_with fail
        refine (errorsIs (.fault b op q t) _ 44 ⟨b0, 0, none⟩ hl6 ⟨_, _, hr6.1⟩ (Or.inr rfl)).mono ?_
        rintro e w7 ⟨rfl, hb7⟩
        rw [HH.out.2.2.2.2]
        have hB7 : Below w.heap.size w w7 := hB6.trans (hb7.mono hB6.size)
        have hl7 := Tree.lies_below hb7 (t := .fault b op q t) hl6
        have HL7 := Lib.hid hl7
        have hB37 : Below w3.heap.size w3 w7 := hb4.trans (((hb5.trans (hb6.mono hb5.size)).trans (hb7.mono (hb5.trans (hb6.mono hb5.size)).size)).mono hb4.size)
        have HW := Lib.hid (And.intro hB7 hB37)
        clear hl3 hl4 hl5 hl6 hl7 hr5 hr6 hb3 hb4 hb5 hb6 hb7 hB3 hB4 hB5 hB6 hB35 hB7 hB37
        go_wp2_with fail
        go_loopw [12] (fun v wx => ∃ j : Nat, j ≤ k ∧ v = .int .i64 j ∧ Below w7.heap.size w7 wx) (fun i _ => k - (intOf i).toNat)
        case atStart => exact ⟨0, Nat.zero_le _, rfl, Below.refl _ _⟩
        case round =>
          obtain ⟨j, hj, rfl, hbx⟩ := hrel
          have hB3x : Below w3.heap.size w3 wr := HW.out.2.trans (hbx.mono HW.out.2.size)
          have hBx : Below w.heap.size w wr := HW.out.1.trans (hbx.mono HW.out.1.size)
          have HX := Lib.hid (And.intro hBx hB3x)
          by_cases hlt : j < k
          · obtain ⟨bs, off, rfl, hbs, hc1⟩ := ((HS.out.less hmn).below hBx).2.2 j hlt
            have hc2 : wr.cell? ⟨g, k - 1 - j, none⟩ = some (.string (ss.getD j .empty)) := (hB3x.cell (p := ⟨g, k - 1 - j, none⟩) hg2).trans ((HC.out (k - 1 - j) (by omega)).trans (rev_get hlt hss))
            obtain ⟨s, hs⟩ : ∃ s, s = ss.getD j .empty := ⟨_, rfl⟩
            rw [← hs] at hc1 hc2
            clear hs hBx hB3x
            go_wp2_with fail
            go_quiet (fail)
            go_wp2_with fail
            go_roundw
            case rel => exact ⟨j + 1, by omega, by go_num, below_drewN hbx _⟩
            case measure => simp [intOf]; omega
          · obtain rfl : j = k := by omega
            have hl8 := Tree.lies_below hbx (t := .fault b op q t) HL7.out
            have hc2 : wr.cell? ⟨g, j, none⟩ = some (.string ⟨#[114, 111, 111, 116]⟩) := (hB3x.cell (p := ⟨g, j, none⟩) hg2).trans ((HC.out j (by omega)).trans (last_get hss))
            have hin := inner_any (.fault b op q t) wr hl8 (HT.out.below hBx) (by rw [HLEN.out]; omega)
            rw [HH.out.2.2.2.1] at hin
            have hv9 : tellOf (some (b0, rootText, pl)) = .tuple #[.string ⟨#[114, 111, 111, 116]⟩, .int .i64 pl, .bool true] := rfl
            clear hl8 hBx hB3x hbx
            go_wp2_with fail
            refine hin.mono ?_
            rintro e w8 ⟨rfl, hb8⟩
            rw [hv9]
            have hc3 : w8.cell? ⟨g, j, none⟩ = some (.string ⟨#[114, 111, 111, 116]⟩) := (hb8.cell (p := ⟨g, j, none⟩) (cell_lt hc2)).trans hc2
            have HZ := Lib.hid (HX.out.1.trans (hb8.mono HX.out.1.size))
            clear hin hb8 hc2 hv9
            go_wp2_with fail
            go_ret
            exact ⟨rfl, HZ.out⟩
end Go.Proofs.YtmbgfcanchmmpaaDoor
