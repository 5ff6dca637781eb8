/- FaultChains, seventh part: the law's built makes, of every list of nodes, errors that fit them. -/
import Derived.Test.YtmbgfcanchmmpaaDoorChainsF
import Derived.Test.YtmbgfcanchmmpaaDoorMakesWalkB
import Derived.Deep.RegionWith
import Derived.BigRegion
import Derived.StillTailTactics
import Derived.Outline
namespace Go.Proofs.YtmbgfcanchmmpaaDoor
open Go.RowKit Go.Extern.Stop Go.Stop Go.Extern

theorem size_ad (w : World) (o : Obj) : (w.alloc o).drew.heap.size = w.heap.size + 1 := by simp
theorem fault_val (b : Nat) (op : ByteArray) (pl : Int) (t : Tree) : (Tree.fault b op pl t).val = .iface 44 (.pointer (some ⟨b, 0, none⟩)) := rfl
set_option maxRecDepth 100000 in
set_option maxHeartbeats 16000000 in
theorem built_any (p : Option Addr) (n cap : Nat) (nd : Nat → Nd) (w : World) (A : Nat → Addr) (hr : Roots w A) (hw : Nodes w p n cap nd) (hn : n ≤ 12) :
    Calls Tryd.prog 10 #[.slice p n cap] w (BuiltPost w A nd n) := by
  obtain ⟨i0, hi, hz0, hz1, hz2⟩ := info_parts info28
  have hmk : ∀ u : World, (Instr.makeSlice 25 (.int .i64 (n : Int)) (.int .i64 (n : Int))).run Tryd.prog u = .ok (.slice (some ⟨u.heap.size, 0, none⟩) n n) (u.alloc (.cells (madeCells #[.nilIface] n) 28)) := fun u => by
    have h := run_make (P := Tryd.prog) u 25 28 i0 .nilIface Tryd.underlying25 hi hz0 .i64 .i64 (n : Int) (n : Int) (by omega) (Int.le_refl _) (by rw [hz2]; omega) (by omega)
    have e : (n : Int).toNat = n := by omega
    rw [e, hz1, Nat.mul_one] at h
    exact h
  have hb0 : BuiltAt w A nd w.heap.size n 0 (fun _ => .nil) (w.alloc (.cells (madeCells #[.nilIface] n) 28)) := by
    refine ⟨?_, fun j hj => absurd hj (Nat.not_lt_zero j), (Below.refl _ _).alloc (Nat.le_refl _) _⟩
    have h := World.ownsRow_lit (base := w.heap.size) (e := 28) (size := 1) w (madeCells #[.nilIface] n) n (Nat.le_refl _) (by unfold maxLen; omega) (by rw [size_madeCells]; omega)
    rw [toList_madeCells_one] at h
    have e : valsAt (fun _ => Tree.nil) 0 n = List.replicate n .nilIface := by
      unfold valsAt
      apply List.ext_getElem?
      intro j
      by_cases hj : j < n <;> simp [hj]
    rw [e]
    exact h
  have HR := Lib.hid hr
  have HW := Lib.hid hw
  have HB0 := Lib.hid hb0
  clear hr hw hb0
  go_enter Tryd.func10, Tryd.ntmps10
  go_wp2_with fail
  clear hmk
  go_loopw [4] (fun v4 wr => BuiltRel w A nd n w.heap.size v4 wr) (fun i _ => n - (intOf i).toNat)
  case atStart => exact ⟨0, fun _ => .nil, Nat.zero_le _, rfl, HB0.out⟩
  case round =>
    obtain ⟨k, T, hk, rfl, hB⟩ := hrel
    by_cases hlt : k < n
    · have HB := Lib.hid hB
      have hbw := hB.below
      have HN := Lib.hid (HW.out.below hbw)
      have HRR := Lib.hid (HR.out.below hbw)
      clear hB hbw
      rcases kinds k nd with h | h | h | ⟨h0, h⟩ | ⟨h0, h⟩ | ⟨h0, h⟩ | ⟨h0, h⟩
      · have hc := Norm_as wr HN.out hlt hn h rfl rfl
        have HK := Lib.hid (And.intro h True.intro)
        clear h
        go_wp2_with fail
        refine hc.mono ?_
        clear hc
        rintro e w1 ⟨rfl, hb1⟩
        have hb2 : Below wr.heap.size wr (w1.alloc (.cells #[.int .i64 0, .int .i64 (nd k).n, .int .i64 (nd k).pl, .int .i64 (nrm k (nd k)).a, .int .i64 (nrm k (nd k)).b, .string (nd k).op] 67)) := hb1.alloc hb1.size _
        have hB2 := HB.out.grow hb1
        have hgl : w.heap.size < w1.heap.size := (hB2.own.lt _ rfl).2
        have HX := Lib.hid (And.intro hb2 hB2)
        have HT1 := Lib.hid ((HRR.out.below hb1).there (known (nd k).n) (known_le _))
        clear hb2 hb1
        obtain ⟨hsc, hsf⟩ := hB2.slot hlt
        clear hB2
        go_wp2_with fail
        refine (Root_any (nd k).n _ A (HRR.out.below HX.out.1)).mono ?_
        rintro e w3 ⟨rfl, rfl⟩
        have hth : (Tree.leaf (A (known (nd k).n))).lies w1 := HT1.out
        have HTH := Lib.hid hth
        clear hth
        go_wp2_with fail
        go_roundw
        case rel => exact ⟨k + 1, upd T k (.leaf (A (known (nd k).n))), by omega, by go_num, (HX.out.2.put hlt (.root HK.out.1) HTH.out).alloc _⟩
        case measure => simp [intOf]; omega
      · have hc := Norm_as wr HN.out hlt hn h rfl rfl
        have HK := Lib.hid (And.intro h True.intro)
        clear h
        go_wp2_with fail
        refine hc.mono ?_
        clear hc
        rintro e w1 ⟨rfl, hb1⟩
        have hb2 : Below wr.heap.size wr (w1.alloc (.cells #[.int .i64 1, .int .i64 (nd k).n, .int .i64 (nd k).pl, .int .i64 (nrm k (nd k)).a, .int .i64 (nrm k (nd k)).b, .string (nd k).op] 67)) := hb1.alloc hb1.size _
        have hB2 := HB.out.grow hb1
        have hgl : w.heap.size < w1.heap.size := (hB2.own.lt _ rfl).2
        have HX := Lib.hid (And.intro hb2 hB2)
        clear hb2 hb1
        clear hB2
        go_wp2_with fail
        refine (errorsNew (nd k).op _).mono ?_
        rintro e w3 ⟨rfl, hb3, hl3⟩
        have hB3 := (HX.out.2.alloc _).grow hb3
        obtain ⟨hsc, hsf⟩ := hB3.slot hlt
        have hne : ∀ j, j ≤ 11 → (⟨w1.heap.size + 1, 0, none⟩ : Addr) ≠ A j := by
          intro j hj e
          obtain ⟨c, t, ht⟩ := (HRR.out.below HX.out.1).there j hj
          have := heap_lt ht
          rw [← e] at this
          simp at this
        have HY := Lib.hid (And.intro hB3 (And.intro hl3 hne))
        have hv : (Tree.leaf ⟨w1.heap.size + 1, 0, none⟩).val = .iface 94 (.pointer (some ⟨w1.heap.size + 1, 0, none⟩)) := rfl
        clear hB3 hl3 hne hb3
        simp only [World.size_alloc] at *
        go_wp2_with fail
        go_roundw
        case rel => exact ⟨k + 1, upd T k (.leaf ⟨w1.heap.size + 1, 0, none⟩), by omega, by go_num, HY.out.1.put hlt (.other HK.out.1 HY.out.2.2) HY.out.2.1⟩
        case measure => simp [intOf]; omega
      · have hc := Norm_as wr HN.out hlt hn h rfl rfl
        have HK := Lib.hid (And.intro h True.intro)
        clear h
        go_wp2_with fail
        refine hc.mono ?_
        clear hc
        rintro e w1 ⟨rfl, hb1⟩
        have hb2 : Below wr.heap.size wr (w1.alloc (.cells #[.int .i64 2, .int .i64 (nd k).n, .int .i64 (nd k).pl, .int .i64 (nrm k (nd k)).a, .int .i64 (nrm k (nd k)).b, .string (nd k).op] 67)) := hb1.alloc hb1.size _
        have hB2 := HB.out.grow hb1
        have hgl : w.heap.size < w1.heap.size := (hB2.own.lt _ rfl).2
        have HX := Lib.hid (And.intro hb2 hB2)
        clear hb2 hb1
        clear hB2
        by_cases hz : (nd k).n = 0
        · have HZ := Lib.hid hz
          clear hz
          go_wp2_with fail
          rw [HZ.out]
          refine (new_zero _ _ _).mono ?_
          rintro e w3 ⟨rfl, rfl⟩
          obtain ⟨hsc, hsf⟩ := HX.out.2.slot hlt
          go_wp2_with fail
          go_roundw
          case rel => exact ⟨k + 1, upd T k .nil, by omega, by go_num, (HX.out.2.put hlt (.new0 HK.out.1 HZ.out) True.intro).alloc _⟩
          case measure => simp [intOf]; omega
        · have HZ := Lib.hid hz
          clear hz
          go_wp2_with fail
          refine (new_any _ _ _ _ A (HRR.out.below HX.out.1) HZ.out).mono ?_
          rintro e w3 ⟨rfl, hb3, _, hl3⟩
          have hB3 := (HX.out.2.alloc _).grow hb3
          obtain ⟨hsc, hsf⟩ := hB3.slot hlt
          have HY := Lib.hid (And.intro hB3 hl3)
          obtain ⟨b, hb⟩ : ∃ b, (w1.alloc (.cells #[.int .i64 2, .int .i64 (nd k).n, .int .i64 (nd k).pl, .int .i64 (nrm k (nd k)).a, .int .i64 (nrm k (nd k)).b, .string (nd k).op] 67)).heap.size = b := ⟨_, rfl⟩
          rw [hb] at HY ⊢
          have hv : (Tree.fault b (nd k).op (nd k).pl (.leaf (A (known (nd k).n)))).val = .iface 44 (.pointer (some ⟨b, 0, none⟩)) := rfl
          rw [hv]
          clear hB3 hl3 hb3 hb
          go_wp2_with fail
          go_roundw
          case rel => exact ⟨k + 1, upd T k (.fault b (nd k).op (nd k).pl (.leaf (A (known (nd k).n)))), by omega, by go_num, HY.out.1.put hlt (.new HK.out.1 HZ.out) HY.out.2⟩
          case measure => simp [intOf]; omega
      · obtain ⟨j, ha, hj⟩ := nrmA_bd k (nd k).a h0
        have ha : (nrm k (nd k)).a = (j : Int) := ha
        have hc := Norm_as wr HN.out hlt hn h ha rfl
        have HK := Lib.hid (And.intro h ha)
        clear h
        go_wp2_with fail
        refine hc.mono ?_
        clear hc
        rintro e w1 ⟨rfl, hb1⟩
        have hB2 := HB.out.grow hb1
        have hgl : w.heap.size < w1.heap.size := (hB2.own.lt _ rfl).2
        have HX := Lib.hid hB2
        clear hb1
        obtain ⟨hsc, hsf⟩ := hB2.slot hlt
        have hcj := hB2.cell hj (Nat.le_of_lt hlt)
        clear hB2 ha
        have hjn : j < n := by omega
        by_cases ht : (T j).isNil = true
        · have hT : T j = .nil := by cases h : T j <;> simp_all [Tree.isNil]
          rw [show (T j).val = .nilIface by rw [hT]; rfl] at hcj
          have HV := Lib.hid hT
          clear ht hT
          go_wp2_with fail
          go_region_with (go_at_call 24; refine (under_nil _ _ _).mono ?_; rintro e w3 ⟨rfl, rfl⟩)
          all_goals
            go_wp2_with fail
            go_roundw
            case rel =>
              have f := (HX.out.fits j hj).1
              rw [HV.out] at f
              have hq := HX.out.put hlt (.under0 HK.out.1 HK.out.2 hj f) True.intro
              exact ⟨k + 1, upd T k .nil, by omega, by go_num, (hq.alloc _).drew⟩
            case measure => simp [intOf]; omega
        · have ht : (T j).isNil = false := by simpa using ht
          have HT := Lib.hid ht
          have HL := Lib.hid (HX.out.fits j hj).2
          clear ht
          go_wp2_with fail
          go_region_with (go_at_call 24; refine (under_any _ _ (T j) _ (Tree.lies_below (((Below.refl w1.heap.size w1).alloc (Nat.le_refl _) _).drew) (t := T j) HL.out) HT.out).mono ?_; rintro e w3 ⟨rfl, hb3, _, hl3⟩; rw [fault_val]; have hB3 := ((HX.out.alloc _).drew).grow hb3; obtain ⟨hsc3, hsf3⟩ := hB3.slot hlt; have HY := Lib.hid (And.intro hB3 hl3))
          all_goals
            go_wp2_with fail
            go_roundw
            case rel =>
              exact ⟨k + 1, upd T k (.fault _ (nd k).op (nd k).pl (T j)), by omega, by go_num, HY.out.1.put hlt (.under HK.out.1 HK.out.2 hj (HX.out.fits j hj).1 HT.out) (by have hl := HY.out.2; rw [size_ad] at hl; exact hl)⟩
            case measure => simp [intOf]; omega
      · obtain ⟨j, ha, hj⟩ := nrmA_bd k (nd k).a h0
        have ha : (nrm k (nd k)).a = (j : Int) := ha
        have hc := Norm_as wr HN.out hlt hn h ha rfl
        have HK := Lib.hid (And.intro h ha)
        clear h
        go_wp2_with fail
        refine hc.mono ?_
        clear hc
        rintro e w1 ⟨rfl, hb1⟩
        have hb2 : Below wr.heap.size wr (w1.alloc (.cells #[.int .i64 4, .int .i64 (nd k).n, .int .i64 (nd k).pl, .int .i64 j, .int .i64 (nrm k (nd k)).b, .string (nd k).op] 67)) := hb1.alloc hb1.size _
        have hB2 := HB.out.grow hb1
        have hgl : w.heap.size < w1.heap.size := (hB2.own.lt _ rfl).2
        have HX := Lib.hid (And.intro hb2 hB2)
        clear hb2 hb1
        obtain ⟨hsc, hsf⟩ := hB2.slot hlt
        have hcj := hB2.cell hj (Nat.le_of_lt hlt)
        clear hB2 ha
        rcases (T j).val_shape with hv | ⟨U, x, hv⟩
        all_goals
          rw [hv] at hcj
          have HV := Lib.hid hv
          clear hv
          go_wp2_with fail
          go_roundw
          case rel =>
            have hq := HX.out.2.put hlt (.own HK.out.1 HK.out.2 hj (HX.out.2.fits j hj).1) (show (Tree.own (T j)).lies _ from (HX.out.2.fits j hj).2)
            have e : (Tree.own (T j)).val = .iface 58 (.agg #[(T j).val]) := rfl
            rw [e, HV.out] at hq
            exact ⟨k + 1, upd T k (.own (T j)), by omega, by go_num, hq.alloc _⟩
          case measure => simp [intOf]; omega
      · obtain ⟨j, ha, hj⟩ := nrmA_bd k (nd k).a h0
        have ha : (nrm k (nd k)).a = (j : Int) := ha
        have hc := Norm_as wr HN.out hlt hn h ha rfl
        have HK := Lib.hid (And.intro h ha)
        clear h
        go_wp2_with fail
        refine hc.mono ?_
        clear hc
        rintro e w1 ⟨rfl, hb1⟩
        have hb2 : Below wr.heap.size wr (w1.alloc (.cells #[.int .i64 5, .int .i64 (nd k).n, .int .i64 (nd k).pl, .int .i64 j, .int .i64 (nrm k (nd k)).b, .string (nd k).op] 67)) := hb1.alloc hb1.size _
        have hB2 := HB.out.grow hb1
        have hgl : w.heap.size < w1.heap.size := (hB2.own.lt _ rfl).2
        have HX := Lib.hid (And.intro hb2 hB2)
        clear hb2 hb1
        obtain ⟨hsc, hsf⟩ := hB2.slot hlt
        have hcj := hB2.cell hj (Nat.le_of_lt hlt)
        clear hB2 ha
        rcases (T j).val_shape with hv | ⟨U, x, hv⟩
        all_goals
          rw [hv] at hcj
          have HV := Lib.hid hv
          clear hv
          go_wp2_with fail
          go_roundw
          case rel =>
            have hq := HX.out.2.put hlt (.shut HK.out.1 HK.out.2 hj (HX.out.2.fits j hj).1) (show (Tree.shut (T j)).lies _ from (HX.out.2.fits j hj).2)
            have e : (Tree.shut (T j)).val = .iface 60 (.agg #[(T j).val]) := rfl
            rw [e, HV.out] at hq
            exact ⟨k + 1, upd T k (.shut (T j)), by omega, by go_num, hq.alloc _⟩
          case measure => simp [intOf]; omega
      · obtain ⟨j, ha, hj⟩ := nrmA_bd k (nd k).a h0
        have ha : (nrm k (nd k)).a = (j : Int) := ha
        obtain ⟨j2, hb', hj2⟩ := nrmA_bd k (nd k).b h0
        have hb' : (nrm k (nd k)).b = (j2 : Int) := hb'
        have hc := Norm_as wr HN.out hlt hn h ha hb'
        have HK := Lib.hid (And.intro h (And.intro ha hb'))
        clear h
        go_wp2_with fail
        refine hc.mono ?_
        clear hc
        rintro e w1 ⟨rfl, hb1⟩
        have hB2 := HB.out.grow hb1
        have hgl : w.heap.size < w1.heap.size := (hB2.own.lt _ rfl).2
        have HX := Lib.hid hB2
        clear hb1
        obtain ⟨hsc, hsf⟩ := hB2.slot hlt
        have hcj := hB2.cell hj (Nat.le_of_lt hlt)
        have hcj2 := hB2.cell hj2 (Nat.le_of_lt hlt)
        clear hB2 ha hb'
        have hjn : j < n := by omega
        have hj2n : j2 < n := by omega
        rcases (T j).val_shape with hv | ⟨U, x, hv⟩ <;> rcases (T j2).val_shape with hv2 | ⟨U2, x2, hv2⟩
        all_goals
          rw [hv] at hcj
          rw [hv2] at hcj2
          have HV := Lib.hid (And.intro hv hv2)
          clear hv hv2
          go_wp2_with fail
          go_region
          go_wp2_with fail
          go_roundw
          case rel =>
            have hq := HX.out.put hlt (.both HK.out.1 HK.out.2.1 HK.out.2.2 hj hj2 (HX.out.fits j hj).1 (HX.out.fits j2 hj2).1) (show (Tree.both (T j) (T j2)).lies _ from ⟨(HX.out.fits j hj).2, (HX.out.fits j2 hj2).2⟩)
            have e : (Tree.both (T j) (T j2)).val = .iface 62 (.agg #[(T j).val, (T j2).val]) := rfl
            rw [e, HV.out.1, HV.out.2] at hq
            exact ⟨k + 1, upd T k (.both (T j) (T j2)), by omega, by go_num, (hq.alloc _).drew⟩
          case measure => simp [intOf]; omega
    · obtain rfl : k = n := by omega
      have HB := Lib.hid hB
      clear hB
      go_wp2_with fail
      go_ret
      exact ⟨_, T, rfl, HB.out⟩
end Go.Proofs.YtmbgfcanchmmpaaDoor
