/- FaultMakes, second part: the law's walk. -/
import Derived.Test.YtmbgfcanchmmpaaDoorMakesWalk
namespace Go.Proofs.YtmbgfcanchmmpaaDoor
open Go.RowKit Go.Extern.Stop Go.Stop Go.Extern

theorem Root_any (n : Int) (w : World) (A : Nat → Addr) (hr : Roots w A) :
    Calls Tryd.prog 21 #[.int .i64 n] w fun e w' => e = .returned (.iface 94 (.pointer (some (A (known n))))) ∧ w = w' := by
  have r0 : w.cell? ⟨12, 0, none⟩ = some (.iface 94 (.pointer (some (A 0)))) := hr.var 0 (by decide)
  have r1 : w.cell? ⟨2, 0, none⟩ = some (.iface 94 (.pointer (some (A 1)))) := hr.var 1 (by decide)
  have r2 : w.cell? ⟨3, 0, none⟩ = some (.iface 94 (.pointer (some (A 2)))) := hr.var 2 (by decide)
  have r3 : w.cell? ⟨4, 0, none⟩ = some (.iface 94 (.pointer (some (A 3)))) := hr.var 3 (by decide)
  have r4 : w.cell? ⟨5, 0, none⟩ = some (.iface 94 (.pointer (some (A 4)))) := hr.var 4 (by decide)
  have r5 : w.cell? ⟨6, 0, none⟩ = some (.iface 94 (.pointer (some (A 5)))) := hr.var 5 (by decide)
  have r6 : w.cell? ⟨7, 0, none⟩ = some (.iface 94 (.pointer (some (A 6)))) := hr.var 6 (by decide)
  have r7 : w.cell? ⟨8, 0, none⟩ = some (.iface 94 (.pointer (some (A 7)))) := hr.var 7 (by decide)
  have r8 : w.cell? ⟨9, 0, none⟩ = some (.iface 94 (.pointer (some (A 8)))) := hr.var 8 (by decide)
  have r9 : w.cell? ⟨10, 0, none⟩ = some (.iface 94 (.pointer (some (A 9)))) := hr.var 9 (by decide)
  have r10 : w.cell? ⟨11, 0, none⟩ = some (.iface 94 (.pointer (some (A 10)))) := hr.var 10 (by decide)
  have r11 : w.cell? ⟨0, 0, none⟩ = some (.iface 94 (.pointer (some (A 11)))) := hr.var 11 (by decide)
  clear hr
  rcases (by omega : n = 1 ∨ n = 2 ∨ n = 3 ∨ n = 4 ∨ n = 5 ∨ n = 6 ∨ n = 7 ∨ n = 8 ∨ n = 9 ∨ n = 10 ∨ n = 11 ∨ n < 1 ∨ 11 < n) with rfl | rfl | rfl | rfl | rfl | rfl | rfl | rfl | rfl | rfl | rfl | h | h
  all_goals
    go_enter Tryd.func21, Tryd.ntmps21
    go_wp2
    go_ret
  iterate 11 exact ⟨rfl, rfl⟩
  · exact ⟨by rw [show known n = 0 by unfold known; rw [if_neg (by omega)]]; rfl, rfl⟩
  · exact ⟨by rw [show known n = 0 by unfold known; rw [if_neg (by omega)]]; rfl, rfl⟩

/-- errors.As where a Fault is found. -/
theorem errorsAs_hit (t : Tree) (b : Nat) (w : World) (g : Nat) (ht : t.first = some b) (hl : t.lies w) (hs : Slot w g) (hT : TypeVar w) :
    Calls Tryd.prog 20 #[t.val, .iface 46 (.pointer (some ⟨g, 0, none⟩))] w fun e w' => e = .returned (.bool true) ∧ Below g w w' ∧ w'.cell? ⟨g, 0, none⟩ = some (.pointer (some ⟨b, 0, none⟩)) := by
  refine (errorsAs t w g hl hs hT).mono ?_
  rintro e w' (⟨h1, _⟩ | ⟨b', h1, h2, h3, h4, _⟩)
  · rw [ht] at h1; cases h1
  · obtain rfl := Option.some.inj (ht.symm.trans h1)
    exact ⟨h2, h3, h4⟩
theorem neq_same94 (w : World) (a : Addr) :
    (binOp .neq 28 (.iface 94 (.pointer (some a))) (.iface 94 (.pointer (some a)))).run Tryd.prog w = .ok (.bool false) w := by
  obtain ⟨i, hi, hcmp⟩ := Option.map_eq_some_iff.1 isComp94
  obtain ⟨j, hj, hjs⟩ := Option.map_eq_some_iff.1 isSize96
  simp only [binOp]
  simp [Op.equal, Op.maxDepth, run_equalIn_iface_ptr_same (P := Tryd.prog) w 9998 a Tryd.underlying28 Tryd.underlying94 hi hcmp hj]
theorem neq_miss44 (w : World) (a p : Addr) (hne : a ≠ p) (ha : Target w a) (hp : Target w p) :
    (binOp .neq 28 (.iface 44 (.pointer (some a))) (.iface 44 (.pointer (some p)))).run Tryd.prog w = .ok (.bool true) w := by
  obtain ⟨c, t, ha⟩ := ha
  obtain ⟨c', t', hp⟩ := hp
  obtain ⟨i, hi, hcmp⟩ := Option.map_eq_some_iff.1 isComp44
  obtain ⟨j, hj, hjs⟩ := Option.map_eq_some_iff.1 isSize48
  simp only [binOp]
  simp [Op.equal, Op.maxDepth, run_equalIn_iface_ptr_other (P := Tryd.prog) w 9998 Tryd.underlying28 Tryd.underlying44 hi hcmp hj (by rw [hjs]; decide) hne ha hp]

theorem makes_zero (op : ByteArray) (pl : Int) (w : World) (A : Nat → Addr) (hr : Roots w A) (hT : TypeVar w) :
    Calls Tryd.prog 4 #[.string op, .int .i64 pl, .int .i64 0] w (AwakePost w) := by
  have HR := Lib.hid hr
  have HT := Lib.hid hT
  clear hr hT
  go_enter Tryd.func4, Tryd.ntmps4
  go_wp2_with fail
  refine (awake_any _ A HR.out HT.out).mono ?_
  rintro e w1 ⟨rfl, hb1⟩
  go_wp2_with fail
  refine (new_zero _ _ _).mono ?_
  rintro e w2 ⟨rfl, rfl⟩
  go_wp2_with fail
  go_ret
  exact ⟨rfl, hb1⟩

set_option maxRecDepth 100000 in
set_option maxHeartbeats 8000000 in
theorem makes_some (op : ByteArray) (pl n : Int) (w : World) (A : Nat → Addr) (hx : Texted w A) (h0 : -9223372036854775808 ≤ pl) (h1 : pl ≤ 9223372036854775807) (hop : op.size ≤ 140737488351232) (hn : n ≠ 0) :
    Calls Tryd.prog 4 #[.string op, .int .i64 pl, .int .i64 n] w (AwakePost w) := by
  have HX := Lib.hid hx
  clear hx
  go_enter Tryd.func4, Tryd.ntmps4
  go_wp2_with fail
  refine (awake_any _ A HX.out.roots HX.out.type).mono ?_
  rintro e w1 ⟨rfl, hb1⟩
  go_wp2_with fail
  refine (new_any _ _ _ _ A (HX.out.roots.below hb1) hn).mono ?_
  rintro e w2 ⟨rfl, hb2, hz2, hl2⟩
  have hB2 : Below w.heap.size w w2 := hb1.trans (hb2.mono hb1.size)
  have hv : (Tree.fault w1.heap.size op pl (.leaf (A (known n)))).val = .iface 44 (.pointer (some ⟨w1.heap.size, 0, none⟩)) := rfl
  rw [hv]
  obtain ⟨b, hb⟩ : ∃ b, w1.heap.size = b := ⟨_, rfl⟩
  rw [hb] at hl2 hv ⊢
  have hbl : b < w2.heap.size := by omega
  have HL := Lib.hid hl2
  have HX2 := Lib.hid (HX.out.below hB2)
  have HB2 := Lib.hid hB2
  have c0 : w2.cell? ⟨b, 0, none⟩ = some (.string op) := by simp [World.cell?, hl2.1]
  have c1 : w2.cell? ⟨b, 1, none⟩ = some (.int .i64 pl) := by simp [World.cell?, hl2.1]
  have c2 : w2.cell? ⟨b, 2, none⟩ = some (.iface 94 (.pointer (some (A (known n))))) := by simp [World.cell?, hl2.1, Tree.val]
  have HC := Lib.hid (And.intro c0 (And.intro c1 c2))
  clear hl2 hB2 hz2 hb hv c0 c1 c2 hb1 hb2
  have hns := neq_same94
  go_upto_region 7 with fail
  go_cut [53] (fun v wx => v = .bool false ∧ Below w2.heap.size w2 wx)
  case first =>
    have hd : Below w2.heap.size w2 (w2.alloc (.cells #[.pointer none] 44)).drew := ((Below.refl _ _).alloc (Nat.le_refl _) _).drew
    have hdl := Tree.lies_below hd (t := .fault b op pl (.leaf (A (known n)))) HL.out
    have hsl : Slot (w2.alloc (.cells #[.pointer none] 44)).drew w2.heap.size := ⟨by simp, ⟨.pointer none, by simp⟩, by simp⟩
    have HD := Lib.hid (And.intro hdl hsl)
    clear hdl hsl
    go_region_with (first
      | (go_at_call 20; refine (errorsAs_hit (.fault b op pl (.leaf (A (known n)))) b _ w2.heap.size rfl ?_ ?_ ?_).mono ?_; exact HD.out.1; exact HD.out.2; exact HX2.out.type.below hd; rintro e w' ⟨rfl, hbx, k3⟩; have hb' := hd.trans hbx; have k0 := (hb'.cell (p := ⟨b, 0, none⟩) hbl).trans HC.out.1; have k1 := (hb'.cell (p := ⟨b, 1, none⟩) hbl).trans HC.out.2.1; have k2 := (hb'.cell (p := ⟨b, 2, none⟩) hbl).trans HC.out.2.2)
      | (go_at_call 21; refine (Root_any n _ A ?_).mono ?_; exact HX2.out.roots.below (by assumption); rintro e w' ⟨rfl, rfl⟩))
    all_goals (go_wp2_with fail; go_meet; exact ⟨rfl, by assumption⟩)
  case rest =>
    obtain ⟨rfl, hbw⟩ := hcut
    have HBW := Lib.hid hbw
    clear hns
    go_wp2_with fail
    go_loopw [9] (fun v wr => ∃ k : Nat, 1 ≤ k ∧ k ≤ 13 ∧ v = .int .i64 k ∧ Below w2.heap.size w2 wr) (fun i _ => 13 - (intOf i).toNat)
    case atStart => exact ⟨1, by decide, by decide, rfl, HBW.out⟩
    case round =>
      obtain ⟨k, hk1, hk2, rfl, hbr⟩ := hrel
      have HBR := Lib.hid hbr
      by_cases hlt : k ≤ 12
      · go_wp2_with fail
        refine (Root_any (k : Int) wr A (HX2.out.roots.below hbr)).mono ?_
        rintro e w3 ⟨rfl, rfl⟩
        obtain ⟨j, hj⟩ : ∃ j, known (k : Int) = j := ⟨_, rfl⟩
        have hj11 : j ≤ 11 := by rw [← hj]; exact known_le _
        rw [hj]
        have HJ := Lib.hid hj
        clear hj
        go_wp2_with fail
        have hlr := Tree.lies_below hbr (t := .fault b op pl (.leaf (A (known n)))) HL.out
        refine (errorsIs (.fault b op pl (.leaf (A (known n)))) _ 94 (A j) hlr ((HX2.out.roots.below hbr).there j hj11) (Or.inl rfl)).mono ?_
        rintro e w4 ⟨he, hb4⟩
        have hB4 : Below w2.heap.size w2 w4 := hbr.trans (hb4.mono hbr.size)
        have HB4 := Lib.hid hB4
        have hhit : (Tree.fault b op pl (.leaf (A (known n)))).hits 94 (A j) = decide (j = known n) := by
          simp only [Tree.hits]
          by_cases h : j = known n
          · subst h; simp
          · have : A (known n) ≠ A j := fun e => h (HX2.out.roots.apart _ _ (known_le n) hj11 e).symm
            simp [h, this]
        rw [hhit] at he
        clear hhit hlr hb4 hbr
        by_cases h : j = known n
        · rw [decide_eq_true h] at he
          subst he
          have hA := eql_hit w4 94 (A j) (Or.inl rfl)
          have HH := Lib.hid h
          clear h
          go_wp2_with fail
          refine (Root_any (k : Int) _ A (HX2.out.roots.below hB4)).mono ?_
          rintro e w5 ⟨rfl, rfl⟩
          rw [HJ.out]
          go_wp2_with fail
          refine (Root_any n _ A (HX2.out.roots.below hB4)).mono ?_
          rintro e w5 ⟨rfl, rfl⟩
          rw [← HH.out]
          go_wp2_with fail
          go_roundw
          case rel => exact ⟨k + 1, by omega, by omega, by go_num, HB4.out⟩
          case measure => simp [intOf]; omega
        · rw [decide_eq_false h] at he
          subst he
          have hA := eql_miss w4 94 (A j) (A (known n)) (Or.inl rfl) (fun e => h (HX2.out.roots.apart _ _ hj11 (known_le n) e)) ((HX2.out.roots.below hB4).there j hj11) ((HX2.out.roots.below hB4).there _ (known_le n))
          clear h
          go_wp2_with fail
          refine (Root_any (k : Int) _ A (HX2.out.roots.below hB4)).mono ?_
          rintro e w5 ⟨rfl, rfl⟩
          rw [HJ.out]
          go_wp2_with fail
          refine (Root_any n _ A (HX2.out.roots.below hB4)).mono ?_
          rintro e w5 ⟨rfl, rfl⟩
          go_wp2_with fail
          go_roundw
          case rel => exact ⟨k + 1, by omega, by omega, by go_num, HB4.out⟩
          case measure => simp [intOf]; omega
      · go_wp2_with fail
        refine (new_any _ _ _ _ A (HX2.out.roots.below hbr) hn).mono ?_
        rintro e w3 ⟨rfl, hb3, hz3, hl3⟩
        have hv : (Tree.fault wr.heap.size op pl (.leaf (A (known n)))).val = .iface 44 (.pointer (some ⟨wr.heap.size, 0, none⟩)) := rfl
        rw [hv]
        have hB3 : Below w2.heap.size w2 w3 := hbr.trans (hb3.mono hbr.size)
        have hl := Tree.lies_below hB3 (t := .fault b op pl (.leaf (A (known n)))) HL.out
        have hbb : (⟨wr.heap.size, 0, none⟩ : Addr) ≠ ⟨b, 0, none⟩ := by
          intro e
          have h2 : wr.heap.size = b := congrArg Addr.block e
          have := hbr.size
          omega
        have hne := neq_miss44 w3 ⟨wr.heap.size, 0, none⟩ ⟨b, 0, none⟩ hbb ⟨_, _, hl3.1⟩ ⟨_, _, hl.1⟩
        obtain ⟨s, hs, hs64⟩ := (HX2.out.below hB3).text (known n) (known_le n)
        have hfe := faultError b op pl (A (known n)) s w3 A (HX2.out.below hB3) h0 h1 hl.1 hs hop hs64
        have mE := methodE44
        have mF := methodE94
        have hz := itoaB_size pl h0 h1
        have a1 := fun (W : World) => run_string_add_sum (P := Tryd.prog) W op ⟨#[32]⟩ (by have : (⟨#[32]⟩ : ByteArray).size = 1 := rfl; omega)
        have a2 := fun (W : World) => run_string_add_sum (P := Tryd.prog) W (op ++ ⟨#[32]⟩) (itoaB pl) (by have : (⟨#[32]⟩ : ByteArray).size = 1 := rfl; rw [ByteArray.size_append]; omega)
        have a3 := fun (W : World) => run_string_add_sum (P := Tryd.prog) W ((op ++ ⟨#[32]⟩) ++ itoaB pl) ⟨#[58, 32]⟩ (by have : (⟨#[58, 32]⟩ : ByteArray).size = 2 := rfl; have : (⟨#[32]⟩ : ByteArray).size = 1 := rfl; simp only [ByteArray.size_append]; omega)
        have a4 := fun (W : World) => run_string_add_sum (P := Tryd.prog) W (((op ++ ⟨#[32]⟩) ++ itoaB pl) ++ ⟨#[58, 32]⟩) s (by have : (⟨#[58, 32]⟩ : ByteArray).size = 2 := rfl; have : (⟨#[32]⟩ : ByteArray).size = 1 := rfl; simp only [ByteArray.size_append]; omega)
        have HF : Hid (faultText op pl s = (((op ++ ⟨#[32]⟩) ++ itoaB pl) ++ ⟨#[58, 32]⟩) ++ s) := by unfold faultText; exact (ByteArray.append_assoc).symm
        obtain ⟨p1, hp1⟩ : ∃ x, op ++ (⟨#[32]⟩ : ByteArray) = x := ⟨_, rfl⟩
        rw [hp1] at a1 a2 a3 a4 HF
        obtain ⟨p2, hp2⟩ : ∃ x, p1 ++ itoaB pl = x := ⟨_, rfl⟩
        rw [hp2] at a2 a3 a4 HF
        obtain ⟨p3, hp3⟩ : ∃ x, p2 ++ (⟨#[58, 32]⟩ : ByteArray) = x := ⟨_, rfl⟩
        rw [hp3] at a3 a4 HF
        obtain ⟨p4, hp4⟩ : ∃ x, p3 ++ s = x := ⟨_, rfl⟩
        rw [hp4] at a4 HF
        have HB3 := Lib.hid hB3
        have HS := Lib.hid hs
        clear hp1 hp2 hp3 hp4 hz hl hbb hl3 hz3 hb3 hv hB3 hs hbr HBW HBR
        go_wp2_with fail
        refine hfe.mono ?_
        rintro e w4 ⟨he, hb4⟩
        rw [HF.out] at he
        subst he
        clear hfe hne
        have hB4 : Below w2.heap.size w2 w4 := HB3.out.trans (hb4.mono HB3.out.size)
        have hs4 := (hb4.cell (cell_lt HS.out)).trans HS.out
        go_wp2_with fail
        refine (Itoa_any pl h0 h1 _ (HX2.out.below hB4).tab).mono ?_
        rintro e w5 ⟨rfl, hb5⟩
        have hB5 : Below w2.heap.size w2 w5 := hB4.trans (hb5.mono hB4.size)
        have hs5 := (hb5.cell (cell_lt hs4)).trans hs4
        clear hs4 hb4 hb5 hB4
        go_wp2_with fail
        refine (Root_any n _ A (HX2.out.roots.below hB5)).mono ?_
        rintro e w6 ⟨rfl, rfl⟩
        go_wp2_with fail
        refine (errText _ s _ hs5).mono ?_
        rintro e w6 ⟨rfl, rfl⟩
        have HZ := Lib.hid (HB2.out.trans (hB5.mono HB2.out.size))
        clear hB5 hs5
        go_wp2_with fail
        go_ret
        exact ⟨rfl, HZ.out⟩
end Go.Proofs.YtmbgfcanchmmpaaDoor
