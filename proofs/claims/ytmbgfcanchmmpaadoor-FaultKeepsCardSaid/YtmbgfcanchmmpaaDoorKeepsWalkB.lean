/- FaultKeeps, second part: the walk. -/
import Derived.Test.YtmbgfcanchmmpaaDoorKeepsWalk
import Derived.Deep.DeepCutAuto
import Derived.Outline
namespace Go.Proofs.YtmbgfcanchmmpaaDoor
open Go.RowKit Go.Extern.Stop Go.Stop Go.Extern

theorem trail_texts' (t : Tree) : t.faults.map opOf = strVals (opTexts t) := by
  unfold opTexts strVals
  rw [List.map_map]
  rfl

set_option maxRecDepth 100000 in
set_option maxHeartbeats 8000000 in
theorem keeps_any (p : Option Addr) (n0 cap : Nat) (ss : List ByteArray) (mark : ByteArray) (w : World) (A : Nat → Addr) (hr : Roots w A) (hT : TypeVar w) (hs : Strs w p n0 cap ss) (hmax : cap ≤ 9223372036854775807) (hmark : mark.size ≤ 140737488351232) :
    Calls Tryd.prog 7 #[.slice p n0 cap, .string mark] w (AwakePost w) := by
  obtain ⟨i0, hi, hz0, hz1, hz2⟩ := info_parts info9
  have hn0 : n0 ≤ cap := hs.2.1
  have HR := Lib.hid hr
  have HT := Lib.hid hT
  have HS := Lib.hid hs
  clear hr hT hs
  go_enter Tryd.func7, Tryd.ntmps7
  go_wp2_with fail
  refine (awake_any _ A HR.out HT.out).mono ?_
  rintro e w1 ⟨rfl, hb1⟩
  go_upto_if 20 with fail
  go_cut [0] (fun v wx => CutRel w1 p n0 cap v wx)
  case first =>
    by_cases h : n0 ≤ 64
    · go_wp2_with fail
      go_meet
      exact ⟨n0, h, Nat.le_refl _, rfl, rfl⟩
    · obtain ⟨b, off, hp, _, _⟩ := HS.out.2.2 0 (by omega)
      subst hp
      go_wp2_with fail
      go_meet
      exact ⟨64, by omega, by omega, rfl, rfl⟩
  case rest =>
    obtain ⟨m, hm, hmn, rfl, rfl⟩ := hcut
    go_wp2_with fail
    refine (new_tree _ _ _ _ A (HR.out.below hb1) (by decide)).mono ?_
    rintro e w2 ⟨t0, rfl, hl0, he0, hf0, hb2⟩
    have hR0 : Keep1 w A 3 ss m t0.val (.int .i64 0) w2 :=
      ⟨0, t0, Nat.zero_le _, rfl, rfl, hl0, he0, by unfold opTexts; rw [hf0]; rfl, hb1.trans (hb2.mono hb1.size)⟩
    have HR0 := Lib.hid hR0
    have hss : m ≤ ss.length := Nat.le_trans hmn HS.out.1
    clear hR0 hl0 he0 hf0 hb2
    go_wp2_with fail
    go_loopw [5, 6] (fun v5 v6 wr => Keep1 w A 3 ss m v5 v6 wr) (fun _ i _ => m - (intOf i).toNat)
    case atStart => exact HR0.out
    case round =>
      obtain ⟨k, t, hk, rfl, rfl, hl, he, ho, hb⟩ := hrel
      have HH := Lib.hid (And.intro hl (And.intro he ho))
      clear hl he ho
      by_cases hlt : k < m
      · obtain ⟨bs, off, rfl, hbs, hc'⟩ := ((HS.out.less hmn).below hb).2.2 k hlt
        obtain ⟨s, hs⟩ : ∃ s, s = ss.getD k .empty := ⟨_, rfl⟩
        rw [← hs] at hc'
        have HSS := Lib.hid hs
        clear hs
        go_wp2_with fail
        refine (under_tree s _ t _ A _ HH.out.1 HH.out.2.1).mono ?_
        rintro e w4 ⟨t', rfl, hl4, he4, hf4, hb4⟩
        have HK := Lib.hid (And.intro hl4 (And.intro he4 hf4))
        clear hl4 he4 hf4
        go_wp2_with fail
        go_roundw
        case rel =>
          refine ⟨k + 1, t', by omega, by go_num, rfl, HK.out.1, HK.out.2.1, ?_, hb.trans (hb4.mono hb.size)⟩
          unfold opTexts
          rw [HK.out.2.2]
          have e2 : ss.getD k .empty = ss[k] := by rw [List.getD_eq_getElem?_getD, List.getElem?_eq_getElem (by omega)]; rfl
          have e3 := HH.out.2.2
          unfold opTexts at e3
          rw [List.map_cons, e3, List.take_succ_eq_append_getElem (by omega), List.reverse_append, HSS.out, e2]
          rfl
        case measure => simp [intOf]; omega
      · obtain rfl : k = m := by omega
        obtain ⟨l, hl⟩ : ∃ l, opTexts t = l := ⟨_, rfl⟩
        have hlen : l.length = k + 1 := by
          rw [← hl, HH.out.2.2, List.length_append, List.length_reverse, List.length_take_of_le hss]
          rfl
        have hfl : t.faults.length = l.length := by rw [← hl]; unfold opTexts; simp
        have HL := Lib.hid (And.intro hl (And.intro hlen hfl))
        have hl66 : l.length ≤ 65 := by omega
        have hlk : k + 1 = l.length := hlen.symm
        have HLK := Lib.hid hlk
        have hk1 : (k : Int) + 1 = (l.length : Int) := by omega
        have HK1 := Lib.hid hk1
        have HT1 := Lib.hid (HT.out.below hb)
        clear hl hlen hfl hlk hk1
        go_wp2_with fail
        refine (trail_any t _ HH.out.1 HT1.out (by rw [HL.out.2.2]; omega)).mono ?_
        rintro e w3 ⟨v7, rfl, hown7, hb3⟩
        rw [HL.out.2.2, trail_texts', HL.out.1] at hown7
        rcases own_shape hown7 with ⟨_, h0, _⟩ | ⟨ga, ca, rfl, hga, hga2, hca, hcam, _, _⟩
        · exact absurd h0 (by have := HL.out.2.1; omega)
        have H7 := Lib.hid hown7
        clear hown7
        go_wp2_with fail
        refine (trail_any t _ (Tree.lies_below hb3 (t := t) HH.out.1) (HT1.out.below hb3) (by rw [HL.out.2.2]; omega)).mono ?_
        rintro e w4 ⟨v8, rfl, hown8, hb4⟩
        rw [HL.out.2.2, trail_texts', HL.out.1] at hown8
        rcases own_shape hown8 with ⟨_, h0, _⟩ | ⟨gb, cb, rfl, hgb, hgb2, hcb, hcbm, _, _⟩
        · exact absurd h0 (by have := HL.out.2.1; omega)
        have H8 := Lib.hid hown8
        have HB4 := Lib.hid (hb3.trans (hb4.mono hb3.size))
        have H7b := Lib.hid (ownsRow_below hb4 H7.out)
        have hne0 : 0 < l.length := by have := HL.out.2.1; omega
        clear hown8 hb3 hb4 H7
        obtain ⟨wb, rfl⟩ : ∃ x : World, x = wr := ⟨_, rfl⟩
        have hk1 := HK1.out
        have hw34 : wb.heap.size ≤ w4.heap.size := HB4.out.size
        go_wp2_with (at_builtin; refine wpList_append_own_at _ rfl _ _ 38 rfl wb.heap.size 9 i0 (.string ⟨#[]⟩) 1 16 Tryd.underlying38 hi hz0 hz1 hz2 rfl (by decide) (.slice (some ⟨w4.heap.size, 0, none⟩) 0 0) 0 [] rfl (World.ownsRow_made w4 #[] 0 hw34 (Nat.zero_le _) rfl) ⟨gb, 0, none⟩ l.length cb (strVals l) rfl ?c0 ?c1 ?c2 ?c3 ?c4 ?c5 ?_)
        case c0 => simp [strVals]
        case c1 => exact ((H8.out.alloc _).cells (g := gb) rfl)
        case c2 => intro u hu; obtain ⟨s, _, rfl⟩ := List.mem_map.1 hu; rfl
        case c3 => unfold maxLen; omega
        case c4 => omega
        case c5 => simp; omega
        intro v9 w5 hown9 hgrow9 _ hat9
        rcases own_shape hown9 with ⟨_, h0, _⟩ | ⟨g9, c9, rfl, hg9, hg92, hc9, hc9m, _, _⟩
        · exact absurd h0 (by omega)
        have hat : w4.heap.size ≤ g9 := by
          have h1 : (some g9 : Option Nat) = some w4.heap.size ∨ some g9 = some (w4.heap.size + 1) := by simpa [Value.ownBlock] using hat9
          rcases h1 with h1 | h1
          · have := Option.some.inj h1; omega
          · have := Option.some.inj h1; omega
        have h75 := (H7b.out.alloc (.cells #[] 9)).kept hgrow9 (Or.inr (by simp [Value.ownBlock]; omega))
        have h85 := (H8.out.alloc (.cells #[] 9)).kept hgrow9 (Or.inr (by simp [Value.ownBlock]; omega))
        have hB5 : Below wb.heap.size wb w5 := (HB4.out.alloc HB4.out.size (.cells #[] 9)).grown hgrow9 (by simp; omega) (fun j hj => by have := Option.some.inj hj; simp at this; omega)
        have hside : Side wb w5 gb cb g9 c9 l := ⟨ownsRow_base (by omega) h85, hown9, hB5⟩
        have HSide := Lib.hid (And.intro (ownsRow_base (base' := wb.heap.size) (by omega) h75) hside)
        have ha1 : ga ≠ gb := by omega
        have ha2 : ga ≠ g9 := by omega
        clear hown9 hgrow9 hat9 h75 h85 hB5 hside hk1 H8 H7b
        go_wp2_with fail
        go_loopw [10] (fun v wr => Keep2 wb ga ca gb cb g9 c9 l mark v wr) (fun i _ => l.length - (intOf i).toNat)
        case atStart => exact ⟨0, Nat.zero_le _, rfl, HSide.out.1, HSide.out.2⟩
        case round =>
          obtain ⟨j, hj, rfl, hown, hsd⟩ := hrel
          have HO := Lib.hid (And.intro hown hsd)
          by_cases hjl : j < l.length
          · have hxl : (List.replicate j (Value.string mark) ++ (strVals l).drop j).length = l.length := by simp [strVals]; omega
            obtain ⟨old, hold⟩ : ∃ old, (List.replicate j (Value.string mark) ++ (strVals l).drop j)[j]? = some old := ⟨_, List.getElem?_eq_getElem (by omega)⟩
            have hcl : wr.cell? ⟨ga, j, none⟩ = some old := (hown.cellAt j (by omega)).trans hold
            have hfr : wr.frozen? ⟨ga, j, none⟩ = false := hown.frozenAt j
            clear hown hsd hxl hold
            go_wp2_with fail
            go_roundw
            case rel =>
              obtain ⟨s1, s2⟩ := HO.out.1.stored j (.string mark)
              rw [set_step (by simp [strVals]; omega)] at s1
              exact ⟨j + 1, by omega, by go_num, s1, HO.out.2.grown s2 hga ha1 ha2⟩
            case measure => simp [intOf]; omega
          · obtain rfl : j = l.length := by omega
            have hown0 : wr.ownsRow wb.heap.size 9 1 (.slice (some ⟨ga, 0, none⟩) l.length ca) (l.length + 0) (List.replicate (l.length + 0) (.string mark)) := by
              have := HO.out.1
              rw [List.drop_of_length_le (by simp [strVals]), List.append_nil] at this
              exact this
            have HO3 := Lib.hid (And.intro hown0 HO.out.2)
            clear hown hsd hown0 HO hjl
            obtain ⟨wd, rfl⟩ : ∃ x : World, x = wr := ⟨_, rfl⟩
            go_wp2_with fail
            go_loopw [11, 13] (fun v11 v13 wr => Keep3 wb gb cb g9 c9 l mark v11 v13 wr) (fun _ i _ => 20 - (intOf i).toNat)
            case atStart => exact ⟨0, ga, ca, by decide, rfl, rfl, HO3.out.1, ha1, ha2, HO3.out.2⟩
            case round =>
              obtain ⟨j, y, c, hj, rfl, rfl, hown, hy1, hy2, hsd⟩ := hrel
              have hwb : wb.heap.size ≤ wr.heap.size := hsd.below.size
              have hgbl : gb < wr.heap.size := (hsd.b.lt gb rfl).2
              have hg9l : g9 < wr.heap.size := (hsd.k.lt g9 rfl).2
              have hyb : wb.heap.size ≤ y := (hown.lt y rfl).1
              have HS3 := Lib.hid hsd
              clear hsd
              by_cases hj20 : j < 20
              · go_wp2_with (at_builtin; refine wpList_append_own_at _ rfl _ _ 38 rfl wb.heap.size 9 i0 (.string ⟨#[]⟩) 1 16 Tryd.underlying38 hi hz0 hz1 hz2 rfl (by decide) _ _ _ rfl (hown.alloc _) ⟨wr.heap.size, 0, none⟩ 1 1 [.string mark] rfl rfl (cell_one_new _ _ _) ?d2 ?d3 ?d4 ?d5 ?_)
                case d2 => intro u hu; simp at hu; subst hu; rfl
                case d3 => unfold maxLen; omega
                case d4 => omega
                case d5 => simp; omega
                intro v' w6 hown' hgrow _ hat
                rcases own_shape hown' with ⟨_, h0, _⟩ | ⟨y', c', rfl, hy', _, _, _, _, _⟩
                · exact absurd h0 (by omega)
                have hyy : y' ≠ gb ∧ y' ≠ g9 := by
                  have h1 : (some y' : Option Nat) = some y ∨ some y' = some (wr.heap.size + 1) := by simpa [Value.ownBlock] using hat
                  rcases h1 with h1 | h1
                  · have := Option.some.inj h1; omega
                  · have := Option.some.inj h1; omega
                have hs6 : Side wb w6 gb cb g9 c9 l := (HS3.out.alloc _).grown hgrow hyb hy1 hy2
                have HO6 := Lib.hid (And.intro hown' hs6)
                clear hown hown' hgrow hat hs6
                go_wp2_with fail
                go_roundw
                case rel =>
                  refine ⟨j + 1, y', c', by omega, by go_num, rfl, ?_, hyy.1, hyy.2, HO6.out.2⟩
                  have := HO6.out.1
                  rw [← List.replicate_succ'] at this
                  exact this
                case measure => simp [intOf]; omega
              · obtain rfl : j = 20 := by omega
                have HO5 := Lib.hid hown
                clear hown hj20 HO3
                obtain ⟨we, rfl⟩ : ∃ x : World, x = wr := ⟨_, rfl⟩
                go_wp2_with fail
                have hbang : mark.size + (⟨#[33]⟩ : ByteArray).size ≤ 9223372036854775807 := by have : (⟨#[33]⟩ : ByteArray).size = 1 := rfl; omega
                have hadd := fun (W : World) => run_string_add_sum (P := Tryd.prog) W mark ⟨#[33]⟩ hbang
                obtain ⟨bang, hbg⟩ : ∃ x, mark ++ (⟨#[33]⟩ : ByteArray) = x := ⟨_, rfl⟩
                rw [hbg] at hadd
                have hs4 : Side4 wb we gb g9 c9 y c l mark := ⟨fun j hj => HS3.out.b.cellAt j (by omega), hgbl, HS3.out.k, HO5.out, HS3.out.below⟩
                have hb0 : we.ownsRow wb.heap.size 9 1 (.slice (some ⟨gb, 0, none⟩) (l.length + 0) cb) (l.length + 0) (strVals l ++ List.replicate 0 (.string bang)) := by
                  have := HS3.out.b
                  rw [← List.append_nil (strVals l)] at this
                  exact this
                have HO4 := Lib.hid (And.intro hb0 hs4)
                have hgb9 : gb ≠ g9 := by omega
                clear hs4 hb0 hbg HO5 hbang
                rw [show (((20 : Nat) : Int)) = 20 from rfl]
                go_loopw [12, 14] (fun v12 v14 wr => Keep4 wb gb g9 c9 y c l mark bang v12 v14 wr) (fun _ i _ => 20 - (intOf i).toNat)
                case atStart => exact ⟨0, gb, cb, by decide, rfl, rfl, HO4.out.1, hgb9, Ne.symm hy1, HO4.out.2⟩
                case round =>
                  obtain ⟨j, x, d, hj, rfl, rfl, hown, hx1, hx2, hsd⟩ := hrel
                  have hwb : wb.heap.size ≤ wr.heap.size := hsd.below.size
                  have hxb : wb.heap.size ≤ x := (hown.lt x rfl).1
                  have hxl : x < wr.heap.size := (hown.lt x rfl).2
                  have hg9l : g9 < wr.heap.size := (hsd.k.lt g9 rfl).2
                  have hyl : y < wr.heap.size := (hsd.g.lt y rfl).2
                  have HS4 := Lib.hid hsd
                  have HW := Lib.hid hown
                  clear hsd
                  by_cases hj20 : j < 20
                  · by_cases hroom : l.length + j + 1 ≤ d
                    · go_wp2_with (at_builtin; refine wpList_append_own_spare _ rfl _ _ 38 rfl wb.heap.size 9 i0 1 Tryd.underlying38 hi hz1 x (l.length + j) d _ rfl (hown.alloc _) ⟨wr.heap.size, 0, none⟩ 1 1 [.string bang] rfl rfl (cell_one_new _ _ _) ?e2 (by omega) ?_)
                      case e2 => intro u hu; simp at hu; subst hu; rfl
                      intro w6 hown' hgrow
                      rw [← List.replicate_succ'] at hown'
                      have hs6 := (HS4.out.alloc _).room hgrow hxb hx1 hx2 (by omega) hown'
                      have HO6 := Lib.hid (And.intro hown' hs6)
                      clear hown hown' hgrow hs6
                      go_wp2_with fail
                      go_roundw
                      case rel => exact ⟨j + 1, x, d, by omega, by go_num, rfl, HO6.out.1, hx1, hx2, HO6.out.2⟩
                      case measure => simp [intOf]; omega
                    · go_wp2_with (at_builtin; refine wpList_append_grows _ rfl _ _ 38 rfl 9 i0 (.string ⟨#[]⟩) 1 16 Tryd.underlying38 hi hz0 hz1 hz2 rfl (by decide) (some ⟨x, 0, none⟩) (l.length + j) d (strVals l ++ List.replicate j (.string bang)) rfl ?g0 ?g1 ?g2 ⟨wr.heap.size, 0, none⟩ 1 1 [.string bang] rfl rfl (cell_one_new _ _ _) ?g3 (by omega) ?g4 ?g5 ?_)
                      case g0 => intro h; cases h
                      case g1 => simp [strVals]
                      case g2 => intro b hb; cases hb; exact (hown.alloc _).cells (g := x) rfl
                      case g3 => intro u hu; simp at hu; subst hu; rfl
                      case g4 => unfold maxLen; omega
                      case g5 => omega
                      intro v' w6 hown' hgrow
                      rcases own_shape hown' with ⟨_, h0, _⟩ | ⟨x', d', rfl, hx', _, _, _, _, _⟩
                      · exact absurd h0 (by omega)
                      have hx1' : wr.heap.size + 1 ≤ x' := by simpa using hx'
                      rw [← List.replicate_succ'] at hown'
                      have hs6 := (HS4.out.alloc _).grow hgrow
                      have HO6 := Lib.hid (And.intro (ownsRow_base (base' := wb.heap.size) (by first | omega | (simp; omega)) hown') hs6)
                      clear hown hown' hgrow hs6
                      go_wp2_with fail
                      go_roundw
                      case rel => exact ⟨j + 1, x', d', by omega, by go_num, rfl, HO6.out.1, by omega, by omega, HO6.out.2⟩
                      case measure => simp [intOf]; omega
                  · obtain rfl : j = 20 := by omega
                    clear hown hj20 HO4
                    obtain ⟨wf, rfl⟩ : ∃ x : World, x = wr := ⟨_, rfl⟩
                    have hgl : (List.replicate (l.length + 20) (Value.string mark)).length = l.length + 20 := List.length_replicate
                    have HF := Lib.hid (And.intro HW.out HS4.out)
                    go_wp2_with fail
                    try rw [show (((20 : Nat) : Int)) = 20 from rfl]
                    go_loop [15] (fun v => ∃ j : Nat, j ≤ l.length + 20 ∧ v = .int .i64 j) (fun i => l.length + 20 - (intOf i).toNat)
                    case atStart => exact ⟨0, Nat.zero_le _, rfl⟩
                    case round =>
                      obtain ⟨j, hj, rfl⟩ := hrel
                      by_cases hjl : j < l.length + 20
                      · have hcl : wf.cell? ⟨y, j, none⟩ = some (.string mark) := (HF.out.2.g.cellAt j (by omega)).trans (by rw [List.getElem?_replicate]; simp [hjl])
                        go_wp2_with fail
                        go_round
                        case rel => exact ⟨j + 1, by omega, by go_num⟩
                        case measure => simp [intOf]; omega
                      · obtain rfl : j = l.length + 20 := by omega
                        clear hjl hgl
                        go_wp2_with fail
                        have hB6 : Below wb.heap.size wb wf := HF.out.2.below
                        have hlt6 : l.length ≤ 1048576 := by omega
                        have hk1 : (strVals l).length = l.length := by simp [strVals]
                        refine (texts_same l gb cb g9 c9 wf HF.out.2.b (fun j hj => HF.out.2.k.cellAt j (by omega)) HF.out.2.blt (HF.out.2.k.lt g9 rfl).2 hlt6).mono ?_
                        rintro e w7 ⟨rfl, hb7⟩
                        have hB7 : Below wb.heap.size wb w7 := hB6.trans (hb7.mono hB6.size)
                        have HK7 := Lib.hid (ownsRow_below hb7 HF.out.2.k)
                        clear hb7 hB6
                        go_wp2_with fail
                        refine (trail_any t _ (Tree.lies_below hB7 (t := t) HH.out.1) (HT1.out.below hB7) (by rw [HL.out.2.2]; omega)).mono ?_
                        rintro e w8 ⟨v, rfl, hown8, hb8⟩
                        rw [HL.out.2.2, trail_texts', HL.out.1] at hown8
                        rcases own_shape hown8 with ⟨_, h0, _⟩ | ⟨gt, ct, rfl, hgt, hgt2, hct, hctm, hctc, _⟩
                        · exact absurd h0 (by omega)
                        have hk8 := ownsRow_below hb8 HK7.out
                        have hB8 : Below wb.heap.size wb w8 := hB7.trans (hb8.mono hB7.size)
                        have HC := Lib.hid (And.intro hctc (And.intro hk8 hB8))
                        clear hown8 hctc hk8 hB8 hb8 hB7
                        go_wp2_with fail
                        refine (texts_same l gt ct g9 c9 w8 HC.out.1 (fun j hj => HC.out.2.1.cellAt j (by omega)) hgt2 (HC.out.2.1.lt g9 rfl).2 hlt6).mono ?_
                        rintro e w9 ⟨rfl, hb9⟩
                        have HZ := Lib.hid (hb.trans ((HC.out.2.2.trans (hb9.mono HC.out.2.2.size)).mono hb.size))
                        clear hb9
                        go_wp2_with fail
                        go_ret
                        exact ⟨rfl, HZ.out⟩
end Go.Proofs.YtmbgfcanchmmpaaDoor
