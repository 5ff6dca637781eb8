/- FaultChains, ninth part: the walk of the law. -/
import Derived.Test.YtmbgfcanchmmpaaDoorChainsG
import Derived.Test.YtmbgfcanchmmpaaDoorChainsH
import Derived.Deep.RegionWith
import Derived.Deep.QuietTactic
import Derived.BigQuiet
import Derived.Outline
namespace Go.Proofs.YtmbgfcanchmmpaaDoor
open Go.RowKit Go.Extern.Stop Go.Stop Go.Extern

theorem shape2 {w : World} {base : Nat} {e : TypeId} {v : Value} {l : List (Nat × ByteArray × Int)} (h : w.ownsRow base e 2 v l.length (cells2 l)) :
    ∃ (p : Option Addr) (L cap : Nat), v = .slice p L cap ∧ l.length = L ∧ L ≤ cap ∧ cap ≤ maxLen ∧
      ∀ j (hj : j < l.length), ∃ g, p = some ⟨g, 0, none⟩ ∧ g < w.heap.size ∧ w.cell? ⟨g, j * 2, none⟩ = some (.string l[j].2.1) ∧ w.cell? ⟨g, j * 2 + 1, none⟩ = some (.int .i64 l[j].2.2) := by
  rcases own_shape2 h with ⟨rfl, rfl⟩ | ⟨g, cap, rfl, h1, h2, h3, h4, h5⟩
  · exact ⟨none, 0, 0, rfl, rfl, Nat.le_refl _, Nat.zero_le _, fun j hj => absurd hj (Nat.not_lt_zero j)⟩
  · exact ⟨_, _, cap, rfl, rfl, h3, h4, fun j hj => ⟨g, rfl, h2, h5 j hj⟩⟩
theorem IsCode.ex (A : Nat → Addr) (t : Tree) : ∃ c, IsCode A t c := by
  by_cases hn : t.isNil = true
  · exact ⟨0, Or.inl ⟨hn, rfl⟩⟩
  · have hn : t.isNil = false := by simpa using hn
    have h : ∀ n, n ≤ 11 → (∃ k : Nat, 1 ≤ k ∧ k ≤ n ∧ t.hits 94 (A k) = true ∧ ∀ j, 1 ≤ j → j < k → t.hits 94 (A j) = false) ∨ ∀ j, 1 ≤ j → j ≤ n → t.hits 94 (A j) = false := by
      intro n
      induction n with
      | zero => exact fun _ => Or.inr fun j h1 h2 => by omega
      | succ n ih =>
        intro hn'
        rcases ih (by omega) with ⟨k, h1, h2, h3, h4⟩ | h
        · exact Or.inl ⟨k, h1, by omega, h3, h4⟩
        · by_cases hh : t.hits 94 (A (n + 1)) = true
          · exact Or.inl ⟨n + 1, by omega, Nat.le_refl _, hh, fun j h1 h2 => h j h1 (by omega)⟩
          · exact Or.inr fun j h1 h2 => by
              rcases Nat.lt_or_ge j (n + 1) with h' | h'
              · exact h j h1 (by omega)
              · obtain rfl : j = n + 1 := by omega
                simpa using hh
    rcases h 11 (Nat.le_refl _) with ⟨k, h1, h2, h3, h4⟩ | h
    · exact ⟨k, Or.inr (Or.inl ⟨hn, k, h1, h2, rfl, h3, h4⟩)⟩
    · exact ⟨99, Or.inr (Or.inr ⟨hn, rfl, h⟩)⟩

def ChainRel (w2 : World) (m : Nat) (v4 : Value) (wr : World) : Prop := ∃ i : Nat, i ≤ m ∧ v4 = .int .i64 i ∧ Below w2.heap.size w2 wr

set_option maxRecDepth 100000 in
set_option maxHeartbeats 16000000 in
theorem chains_any (p : Option Addr) (n cap : Nat) (nd : Nat → Nd) (w : World) (A : Nat → Addr) (hr : Roots w A) (hT : TypeVar w) (hw : Nodes w p n cap nd) (hmax : cap ≤ 9223372036854775807) :
    Calls Tryd.prog 3 #[.slice p n cap] w (AwakePost w) := by
  have HR := Lib.hid hr
  have HT := Lib.hid hT
  have HW := Lib.hid hw
  clear hr hT hw
  go_enter Tryd.func3, Tryd.ntmps3
  go_wp2_with fail
  refine (awake_any _ A HR.out HT.out).mono ?_
  rintro e w1 ⟨rfl, hb1⟩
  go_wp2_with fail
  refine (few_any p n cap nd _ (HW.out.below hb1) hmax).mono ?_
  rintro e w1' ⟨m, hm, hmn, rfl, rfl⟩
  go_wp2_with fail
  refine (built_any p m cap nd _ A (HR.out.below hb1) ((HW.out.below hb1).less hmn) hm).mono ?_
  rintro e w2 ⟨g, T, rfl, hB⟩
  have hB2 : Below w.heap.size w w2 := hb1.trans (hB.below.mono hb1.size)
  have HN := Lib.hid (((HW.out.less hmn)).below hB2)
  have HB := Lib.hid (And.intro hB hB2)
  have HR2 := Lib.hid (HR.out.below hB2)
  have HT2 := Lib.hid (HT.out.below hB2)
  have hgl : g < w2.heap.size := (hB.own.lt _ rfl).2
  clear hb1 hB hB2
  go_wp2_with fail
  go_loopw [4] (fun v wr => ChainRel w2 m v wr) (fun i _ => m - (intOf i).toNat)
  case atStart => exact ⟨0, Nat.zero_le _, rfl, Below.refl _ _⟩
  case round =>
    obtain ⟨i, hi, rfl, hbr⟩ := hrel
    by_cases hlt : i < m
    · have hci : wr.cell? ⟨g, i, none⟩ = some (T i).val := (hbr.cell (p := ⟨g, i, none⟩) hgl).trans (HB.out.1.cell hlt (Nat.le_refl _))
      have HBR := Lib.hid hbr
      clear hbr
      go_wp2_with fail
      refine (refFaults_any hm (HB.out.1.fits i hlt).1 wr (HN.out.below HBR.out) hlt).mono ?_
      rintro e w3 ⟨vf, rfl, hown, hb3⟩
      have hB23 : Below w2.heap.size w2 w3 := HBR.out.trans (hb3.mono HBR.out.size)
      have HF := Lib.hid (And.intro hown hB23)
      have HLI : Hid (∀ wx : World, Below w3.heap.size w3 wx → (T i).lies wx) := Lib.hid fun wx hb => Tree.lies_below hb (t := T i) (Tree.lies_below hB23 (t := T i) (HB.out.1.fits i hlt).2)
      have HTX : Hid (∀ wx : World, Below w3.heap.size w3 wx → TypeVar wx) := Lib.hid fun wx hb => (HT2.out.below hB23).below hb
      have HRX : Hid (∀ wx : World, Below w3.heap.size w3 wx → Roots wx A) := Lib.hid fun wx hb => (HR2.out.below hB23).below hb
      have HNX : Hid (∀ wx : World, Below w3.heap.size w3 wx → Nodes wx p m cap nd) := Lib.hid fun wx hb => (HN.out.below hB23).below hb
      have hlen : (T i).faults.length ≤ 1048576 := by have := fits_len (HB.out.1.fits i hlt).1; omega
      obtain ⟨c0, hc0⟩ := IsCode.ex A (T i)
      clear hown hb3 hB23
      go_upto_region 10 with fail
      obtain ⟨pf, L, capf, rfl, hL, hLc, hcm, hpf⟩ := shape2 HF.out.1
      have hdeep : ∀ wx : World, Below w3.heap.size w3 wx → Calls Tryd.prog 15 #[(T i).val] wx (fun e w' => e = .returned (.int .i64 L) ∧ Below w3.heap.size w3 w') := fun wx hb => by
        refine (deep_any (T i) wx (HLI.out wx hb) (HTX.out wx hb) hlen).mono ?_
        rintro e w' ⟨rfl, h⟩
        exact ⟨by rw [hL], hb.trans (h.mono hb.size)⟩
      have hcode : ∀ wx : World, Below w3.heap.size w3 wx → Calls Tryd.prog 13 #[(T i).val] wx (fun e w' => e = .returned (.int .i64 c0) ∧ Below w3.heap.size w3 w') := fun wx hb => by
        refine (code_any (T i) wx A (HLI.out wx hb) (HRX.out wx hb)).mono ?_
        rintro e w' ⟨c, rfl, hc, h⟩
        exact ⟨by rw [hc.unique hc0], hb.trans (h.mono hb.size)⟩
      have hcode2 : ∀ wx : World, Below w3.heap.size w3 wx → Calls Tryd.prog 14 #[.slice p m cap, .int .i64 i] wx (fun e w' => e = .returned (.int .i64 c0) ∧ Below w3.heap.size w3 w') := fun wx hb => by
        refine (refCode_any (HRX.out wx hb) hm (HB.out.1.fits i hlt).1 wx (HNX.out wx hb) hlt).mono ?_
        rintro e w' ⟨c, rfl, hc, h⟩
        exact ⟨by rw [hc.unique hc0], hb.trans (h.mono hb.size)⟩
      have hnil : ∀ wx : World, Below w3.heap.size w3 wx → Calls Tryd.prog 12 #[.slice p m cap, .int .i64 i] wx (fun e w' => e = .returned (.bool (T i).isNil) ∧ Below w3.heap.size w3 w') := fun wx hb => by
        refine (Nil_any hm (HB.out.1.fits i hlt).1 wx (HNX.out wx hb) hlt).mono ?_
        rintro e w' ⟨rfl, h⟩
        exact ⟨rfl, hb.trans (h.mono hb.size)⟩
      have hn1 := eql_isNil (T i)
      have hn2 := guard_isNil (T i)
      have hd : Below w3.heap.size w3 w3.drew := (Below.refl _ _).drew
      go_cut [55] (fun v wx => v = .bool false ∧ Below w3.heap.size w3 wx)
      case first =>
        cases hz : (T i).isNil
        all_goals
          rw [hz] at hnil hn1
          go_region_with (first
            | (go_at_call 12; refine (hnil _ (by assumption)).mono ?_; rintro e w' ⟨rfl, hbx⟩)
            | (go_at_call 13; refine (hcode _ (by assumption)).mono ?_; rintro e w' ⟨rfl, hbx⟩)
            | (go_at_call 14; refine (hcode2 _ (by assumption)).mono ?_; rintro e w' ⟨rfl, hbx⟩)
            | (go_at_call 15; refine (hdeep _ (by assumption)).mono ?_; rintro e w' ⟨rfl, hbx⟩))
          all_goals (go_wp2_with fail; go_meet; exact ⟨rfl, by assumption⟩)
      case rest =>
        obtain ⟨rfl, hbx⟩ := hcut
        have HBX := Lib.hid hbx
        clear hbx hdeep hcode hcode2 hnil hn1 hn2 hd
        rcases hfs : (T i).faults with _ | ⟨x, rest⟩
        · have eo : tellOf (T i).faults.head? = .tuple #[.string ⟨#[]⟩, .int .i64 0, .bool false] := by rw [hfs]; rfl
          have ei : tellOf (T i).faults.getLast? = .tuple #[.string ⟨#[]⟩, .int .i64 0, .bool false] := by rw [hfs]; rfl
          have hL0 : L = 0 := by rw [← hL, hfs]; rfl
          have hf0 : (T i).faults.length = 0 := by rw [hfs]; rfl
          subst hL0
          have EE := Lib.hid (And.intro eo (And.intro ei hf0))
          clear hpf hL hfs eo ei hf0
          go_wp2_with fail
          refine (outer_any (T i) _ (HLI.out _ HBX.out) (HTX.out _ HBX.out)).mono ?_
          rintro e w4 ⟨rfl, hb4⟩
          rw [EE.out.1]
          have hB4 := HBX.out.trans (hb4.mono HBX.out.size)
          have HB4 := Lib.hid hB4
          clear hb4 hB4
          go_wp2_with fail
          refine (inner_any (T i) _ (HLI.out _ HB4.out) (HTX.out _ HB4.out) hlen).mono ?_
          rintro e w5 ⟨rfl, hb5⟩
          rw [EE.out.2.1]
          have hB5 := HB4.out.trans (hb5.mono HB4.out.size)
          have HB5 := Lib.hid hB5
          clear hb5 hB5
          go_wp2_with fail
          refine (trail_any (T i) _ (HLI.out _ HB5.out) (HTX.out _ HB5.out) hlen).mono ?_
          rintro e w6 ⟨v, rfl, hown, hb6⟩
          have HB6 := Lib.hid (HF.out.2.trans ((HB5.out.trans (hb6.mono HB5.out.size)).mono HF.out.2.size))
          rw [EE.out.2.2] at hown
          rcases own_shape hown with ⟨rfl, _, _⟩ | ⟨g3, cap3, rfl, _⟩
          all_goals
            clear hown hb6
            go_wp2_with fail
            go_roundw
            case rel => exact ⟨i + 1, by omega, by go_num, HB6.out⟩
            case measure => simp [intOf]; omega
        · obtain ⟨r, hr⟩ : ∃ r, rest.length = r := ⟨_, rfl⟩
          have hlr : (T i).faults.length = r + 1 := by rw [hfs, List.length_cons, hr]
          have hx : (T i).faults[0]? = some x := by rw [hfs]; rfl
          obtain ⟨y, hy⟩ : ∃ y, (T i).faults[r]? = some y := ⟨_, List.getElem?_eq_getElem (by omega)⟩
          have eo : tellOf (T i).faults.head? = .tuple #[.string x.2.1, .int .i64 x.2.2, .bool true] := by rw [hfs]; rfl
          have ei : tellOf (T i).faults.getLast? = .tuple #[.string y.2.1, .int .i64 y.2.2, .bool true] := by
            rw [List.getLast?_eq_getElem?, hlr, show r + 1 - 1 = r by omega, hy]; rfl
          obtain rfl : L = r + 1 := by rw [← hL, hlr]
          obtain ⟨g2, rfl, hg2⟩ : ∃ g2, pf = some ⟨g2, 0, none⟩ ∧ g2 < w3.heap.size := by
            obtain ⟨g2, h1, h2, _⟩ := hpf 0 (by omega)
            exact ⟨g2, h1, h2⟩
          have hcell : ∀ j z, (T i).faults[j]? = some z → w3.cell? ⟨g2, j * 2, none⟩ = some (.string z.2.1) ∧ w3.cell? ⟨g2, j * 2 + 1, none⟩ = some (.int .i64 z.2.2) := fun j z hz => by
            obtain ⟨hj, rfl⟩ := List.getElem?_eq_some_iff.1 hz
            obtain ⟨g', e, _, h⟩ := hpf j hj
            cases e
            exact h
          have hr12 : r ≤ 12 := by have := fits_len (HB.out.1.fits i hlt).1; omega
          have HC := Lib.hid hcell
          have EE := Lib.hid (And.intro eo (And.intro ei (And.intro hlr (And.intro hx hy))))
          clear hpf hL hfs eo ei hlr hx hy hcell hr
          go_wp2_with fail
          refine (outer_any (T i) _ (HLI.out _ HBX.out) (HTX.out _ HBX.out)).mono ?_
          rintro e w4 ⟨rfl, hb4⟩
          rw [EE.out.1]
          have hB4 := HBX.out.trans (hb4.mono HBX.out.size)
          have HB4 := Lib.hid hB4
          clear hb4 hB4
          go_wp2_with fail
          refine (inner_any (T i) _ (HLI.out _ HB4.out) (HTX.out _ HB4.out) hlen).mono ?_
          rintro e w5 ⟨rfl, hb5⟩
          rw [EE.out.2.1]
          have hB5 := HB4.out.trans (hb5.mono HB4.out.size)
          have HB5 := Lib.hid hB5
          clear hb5 hB5
          go_wp2_with fail
          refine (trail_any (T i) _ (HLI.out _ HB5.out) (HTX.out _ HB5.out) hlen).mono ?_
          rintro e w6 ⟨v, rfl, hown, hb6⟩
          have hB36 : Below w3.heap.size w3 w6 := HB5.out.trans (hb6.mono HB5.out.size)
          have HB6 := Lib.hid (And.intro (HF.out.2.trans (hB36.mono HF.out.2.size)) hB36)
          rw [EE.out.2.2.1] at hown
          rcases own_shape hown with ⟨_, h0, _⟩ | ⟨g3, cap3, rfl, hg3, hg3', hc3, hm3, htr, _⟩
          · exact absurd h0 (by omega)
          have HTR := Lib.hid htr
          have c0 := (hB36.cell (p := ⟨g2, 0, none⟩) hg2).trans (HC.out 0 x EE.out.2.2.2.1).1
          have c1 := (hB36.cell (p := ⟨g2, 1, none⟩) hg2).trans (HC.out 0 x EE.out.2.2.2.1).2
          have c2 := (hB36.cell (p := ⟨g2, r * 2, none⟩) hg2).trans (HC.out r y EE.out.2.2.2.2).1
          have c3 := (hB36.cell (p := ⟨g2, r * 2 + 1, none⟩) hg2).trans (HC.out r y EE.out.2.2.2.2).2
          have hg26 : g2 < w6.heap.size := Nat.lt_of_lt_of_le hg2 hB36.size
          clear hown hb6 hB36 htr
          go_wp2_with fail
          go_loopw [15] (fun v wx => ∃ k : Nat, k ≤ r + 1 ∧ v = .int .i64 k ∧ Below w6.heap.size w6 wx) (fun i _ => r + 1 - (intOf i).toNat)
          case atStart => exact ⟨0, Nat.zero_le _, rfl, (Below.refl _ _).alloc (Nat.le_refl _) _⟩
          case round =>
            obtain ⟨k, hk, rfl, hb7⟩ := hrel
            have HB7 := Lib.hid hb7
            by_cases hkr : k < r + 1
            · obtain ⟨z, hz⟩ : ∃ z, (T i).faults[k]? = some z := ⟨_, List.getElem?_eq_getElem (by rw [EE.out.2.2.1]; exact hkr)⟩
              have t1 : wr.cell? ⟨g3, k, none⟩ = some (.string z.2.1) := (hb7.cell (p := ⟨g3, k, none⟩) hg3').trans ((HTR.out k hkr).trans (by rw [List.getElem?_map, hz]; rfl))
              have t2 : wr.cell? ⟨g2, k * 2, none⟩ = some (.string z.2.1) := ((HB6.out.2.trans (hb7.mono HB6.out.2.size)).cell (p := ⟨g2, k * 2, none⟩) hg2).trans (HC.out k z hz).1
              clear hz hb7
              go_wp2_with fail
              go_quiet (fail)
              go_wp2_with fail
              go_roundw
              case rel => exact ⟨k + 1, by omega, by go_num, below_drewN HB7.out _⟩
              case measure => simp [intOf]; omega
            · obtain rfl : k = r + 1 := by omega
              clear hb7
              go_wp2_with fail
              go_roundw
              case rel => exact ⟨i + 1, by omega, by go_num, HB6.out.1.trans (HB7.out.mono HB6.out.1.size)⟩
              case measure => simp [intOf]; omega
    · go_wp2_with fail
      go_ret
      exact ⟨rfl, HB.out.2.trans (hbr.mono HB.out.2.size)⟩
end Go.Proofs.YtmbgfcanchmmpaaDoor
