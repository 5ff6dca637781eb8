/- edenraw.Apart, second part: its walk. -/
import Derived.Test.YthhighljfjeooaaDoorApartIntsA
namespace Go.Proofs.YthhighljfjeooaaDoor.apartI
open Go.RowKit

set_option maxRecDepth 100000 in
set_option maxHeartbeats 8000000 in
theorem apart_any (B : Nat) (L : List Rw) (Q qo cap : Nat) (w : World) (hB : B ≤ w.heap.size) (hP : Parts L Q) (C0 : Nat → List Value) (hO : OwnAll B w L C0) (hS : Sit w Q qo L) (hl : L.length ≤ 1000) (hlen : ∀ x ∈ L, x.2.2 ≤ 100000) (hc : L.length ≤ cap) (hcm : cap ≤ 9223372036854775807) :
    Calls Tryd.prog 46 #[.slice (some ⟨Q, qo, none⟩) L.length cap] w (TruePost L w) := by
  obtain ⟨i0, hi, hz0, hz1, hz2⟩ := info_parts infoE
  have hmk := make_rows L.length (by omega)
  have HP := Lib.hid (And.intro hP (And.intro hO (And.intro hS hlen)))
  have hQ := hS.lt
  clear hP hO hS hlen
  go_enter Tryd.func46, Tryd.ntmps46
  go_wp2_with fail
  go_loopw [3] (fun v3 wr => Rel1 B w L Q qo v3 wr) (fun v _ => L.length - (intOf v).toNat)
  case atStart => exact ⟨0, C0, Nat.zero_le _, rfl, HP.out.2.1, fun k x hk => absurd hk (Nat.not_lt_zero k), HP.out.2.2.1, Fr.refl _ _⟩
  case round =>
    obtain ⟨i, C, hin, rfl, hO, hD, hS, hb⟩ := hrel
    have HR := Lib.hid (And.intro hO (And.intro hD (And.intro hS hb)))
    obtain ⟨wo, rfl⟩ : ∃ wo : World, wo = wr := ⟨_, rfl⟩
    by_cases hlt : i < L.length
    · obtain ⟨x, hx⟩ : ∃ x, L[i]? = some x := ⟨_, List.getElem?_eq_getElem hlt⟩
      have hxm : x ∈ L := List.mem_of_getElem? hx
      have hxl := HP.out.2.2.2 x hxm
      obtain ⟨xa, xc, xn⟩ := x
      replace hxl : xn ≤ 100000 := hxl
      have HX := Lib.hid hx
      clear hO hD hS hb hx hxm hmk
      go_wp2_with fail
      go_loopw [4] (fun v4 wr => Rel2 B w L Q qo i xn v4 wr) (fun v _ => xn - (intOf v).toNat)
      case atStart => exact ⟨0, C, Nat.zero_le _, rfl, HR.out.1, HR.out.2.1, rfl, HR.out.2.2.1, HR.out.2.2.2⟩
      case round =>
        obtain ⟨j, C, hj, rfl, hO, hD, hT, hS, hb⟩ := hrel
        have hcell : wr.cell? ⟨Q, qo + i, none⟩ = some (.slice xa xn xc) := hS.cell i _ HX.out
        have hown : wr.ownsRow B E 1 (.slice xa xn xc) xn (C i) := hO i _ HX.out
        have HI := Lib.hid (And.intro hO (And.intro hD (And.intro hT (And.intro hS hb))))
        by_cases hjl : j < xn
        · rcases shape hown with ⟨_, h0, _⟩ | ⟨g, rfl, hgB, hgl, hnc, hcmx, hCl, hcells, hfz⟩
          · omega
          obtain ⟨v0, hv0⟩ : ∃ v0, (C i)[j]? = some v0 := ⟨_, List.getElem?_eq_getElem (by omega)⟩
          have hcj : wr.cell? ⟨g, j, none⟩ = some v0 := (hcells j hjl).trans hv0
          have hfj := hfz j
          have hmod : i ≤ 1000 := by omega
          obtain ⟨s1, s2⟩ := hO.store HP.out.1 HX.out rfl j (m1 i)
          have hgQ : (some g : Option Nat) ≠ some Q := HP.out.1.q i _ HX.out
          have hT2 : ((C i).set j (m1 i)).take (j + 1) = List.replicate (j + 1) (m1 i) := by
            rw [set_take (by omega), hT, ← List.replicate_succ']
          have HN := Lib.hid (And.intro s1 (And.intro hT2 (And.intro (hS.kept s2 hgQ) (hb.step s2 (fun k hk => Or.inl ⟨i, _, HX.out, hk⟩)))))
          clear hO hD hT hS hb hown hcells hfz hv0 s1 s2 hgQ hT2 hCl
          go_wp2_with fail
          go_roundw
          case rel =>
            refine ⟨j + 1, _, by omega, by go_num, HN.out.1, fun k y hk hy => ?_, ?_, HN.out.2.2.1, HN.out.2.2.2⟩
            · simp only [if_neg (Nat.ne_of_lt hk)]
              exact HI.out.2.1 k y hk hy
            · simp only [if_true]
              exact HN.out.2.1
          case measure => simp [intOf]; omega
        · obtain rfl : j = xn := by omega
          have hCi : C i = List.replicate j (m1 i) := by
            have h1 : (C i).length = j := by rw [hown.1, Nat.mul_one]
            rw [← hT, List.take_of_length_le (by omega)]
          have HC := Lib.hid hCi
          clear hO hD hT hS hb hown hCi
          go_wp2_with fail
          go_roundw
          case rel =>
            refine ⟨i + 1, C, by omega, by go_num, HI.out.1, fun k y hk hy => ?_, HI.out.2.2.2.1, HI.out.2.2.2.2⟩
            rcases Nat.lt_or_ge k i with h | h
            · exact HI.out.2.1 k y h hy
            · obtain rfl : k = i := by omega
              rw [HX.out] at hy
              obtain rfl := Option.some.inj hy
              exact HC.out
          case measure => simp [intOf]; omega
    · obtain rfl : i = L.length := by omega
      have hM : Marked B wo L := fun k x hx => by
        have h := hO k x hx
        have hk : k < L.length := (List.getElem?_eq_some_iff.1 hx).1
        rwa [hD k x hk hx] at h
      have hwB : B ≤ wo.heap.size := Nat.le_trans hB hb.size
      have hrow := rows_made B wo L.length hwB (by omega)
      have hMa : Marked B (wo.alloc (.cells (madeCells #[.slice none 0 0] L.length) 40)) L := fun k x hx => (hM k x hx).alloc _
      have hG : Got B w (wo.alloc (.cells (madeCells #[.slice none 0 0] L.length) 40)) L Q qo wo.heap.size 0 (List.replicate L.length (.slice none 0 0)) :=
        ⟨hMa, hrow, fun k x hk => absurd hk (Nat.not_lt_zero k), hS.kept (World.grownBy_alloc wo _ none) (by simp), hb.step (World.grownBy_alloc wo _ none) (fun k hk => by cases hk)⟩
      obtain ⟨G, hGs⟩ : ∃ G, wo.heap.size = G := ⟨_, rfl⟩
      rw [hGs] at hG
      have hQG : Q < G := by rw [← hGs]; exact hS.lt
      have hBG : B ≤ G := by omega
      have hwG : w.heap.size ≤ G := by have := hb.size; omega
      have HGs := Lib.hid hGs
      have HLG := Lib.hid (show ∀ (k : Nat) (z : Rw), L[k]? = some z → z.val.ownBlock = none ∨ ∃ b, z.val.ownBlock = some b ∧ b < G from fun k z hz => by
        rcases below_lt (hM k z hz) with h | ⟨b, h1, _, h2⟩
        · exact Or.inl h
        · exact Or.inr ⟨b, h1, by omega⟩)
      have HG := Lib.hid hG
      clear hO hD hS hb hM hrow hMa hG hlt HR
      go_wp2_with fail
      clear hmk hGs
      go_loopw [6] (fun v6 wr => Rel3 B w L Q qo G v6 wr) (fun v _ => L.length - (intOf v).toNat)
      case atStart => exact ⟨0, _, Nat.zero_le _, rfl, HG.out⟩
      case round =>
        obtain ⟨i, gv, hin, rfl, hG⟩ := hrel
        obtain ⟨wp, rfl⟩ : ∃ wp : World, wp = wr := ⟨_, rfl⟩
        have hwB : B ≤ wp.heap.size := Nat.le_trans hB hG.below.size
        have hgl : gv.length = L.length := by have := hG.row.1; omega
        have HGG := Lib.hid hG
        have hGw : G < wp.heap.size := by rcases shape hG.row with ⟨h, _⟩ | ⟨g, h, _, h2, _⟩
                                          · cases h
                                          · obtain rfl : G = g := by simpa using h
                                            exact h2
        by_cases hlt : i < L.length
        · obtain ⟨x, hx⟩ : ∃ x, L[i]? = some x := ⟨_, List.getElem?_eq_getElem hlt⟩
          have hxl := HP.out.2.2.2 x (List.mem_of_getElem? hx)
          have hcell := hG.sit.cell i x hx
          have hmx := hG.marked i x hx
          have hOld : Old L Q G i wp.heap.size x gv := ⟨fun k z hz => by
              rcases HLG.out k z hz with h | ⟨b, h1, h2⟩
              · exact Or.inl h
              · exact Or.inr ⟨b, h1, by omega⟩, fun k z hk hz => HP.out.1.two k i z x hz hx hk, fun k v hk hv => by
              obtain ⟨z, hz⟩ : ∃ z, L[k]? = some z := ⟨_, List.getElem?_eq_getElem (by omega)⟩
              obtain ⟨v', hv', y, c, rfl, ho, ha⟩ := hG.full k z hk hz
              rw [hv] at hv'
              obtain rfl := Option.some.inj hv'
              refine ⟨?_, ha i x (by omega) hx⟩
              rcases below_lt ho with h | ⟨b, h1, _, h2⟩
              · exact Or.inl h
              · exact Or.inr ⟨b, h1, h2⟩, hGw, by omega, HP.out.1.q i x hx, by
              rcases HLG.out i x hx with h | ⟨b, h1, h2⟩
              · rw [h]; simp
              · rw [h1]; simp; omega⟩
          obtain ⟨xa, xc, xn⟩ := x
          replace hxl : xn ≤ 100000 := hxl
          replace hcell : wp.cell? ⟨Q, qo + i, none⟩ = some (.slice xa xn xc) := hcell
          replace hmx : wp.ownsRow B E 1 (.slice xa xn xc) xn (List.replicate xn (m1 i)) := hmx
          have HX := Lib.hid (And.intro hx (And.intro hOld hmx))
          obtain ⟨H, hH⟩ : ∃ H, wp.heap.size = H := ⟨_, rfl⟩
          have HH := Lib.hid hH
          have hHG : G < H := by omega
          have hHW : w.heap.size ≤ H := by have := HGG.out.below.size; omega
          clear hx hOld hmx hG hGw hH
          go_wp2_with fail
          go_loopw [7, 8] (fun v7 v8 wr => Rel4 B w L Q qo G i H (xa, xc, xn) gv v7 v8 wr) (fun _ v _ => 40 - (intOf v).toNat)
          case atStart =>
            refine ⟨0, xa, xc, by omega, rfl, rfl, ?_, Or.inl rfl, by rw [HH.out]; exact Nat.le_refl _, HGG.out⟩
            rw [List.replicate_zero, List.append_nil]
            exact HX.out.2.2
          case round =>
            obtain ⟨j, y, c, hj, rfl, rfl, ho, hcase, hHw, hG⟩ := hrel
            replace ho : wr.ownsRow B E 1 (.slice y (xn + j) c) (xn + j) (List.replicate xn (m1 i) ++ List.replicate j (m2 i)) := ho
            have hwB : B ≤ wr.heap.size := Nat.le_trans hB hG.below.size
            have HI := Lib.hid (And.intro ho (And.intro hcase hG))
            have hOl : Old L Q G i H (xa, xc, xn) gv := by have := HX.out.2.1; rwa [HH.out] at this
            have HO := Lib.hid hOl
            have hxlen : (List.replicate xn (m1 i) ++ List.replicate j (m2 i)).length = xn + j := by simp
            have HXL := Lib.hid hxlen
            clear hOl hxlen
            by_cases hj40 : j < 40
            · have hmod : i ≤ 1000 := by omega
              rcases shape ho with ⟨hy0, h00, hc0, hxs0⟩ | ⟨g, rfl, hgB, hgl2, hnc, hcmx, hCl, hcells, hfz⟩
              · -- a nil list: it grows
                subst hy0 hc0
                have hxn0 : xn = 0 := by omega
                have hj0 : j = 0 := by omega
                subst hxn0 hj0
                clear hcase hG hxs0 h00
                go_wp2_with (at_builtin; refine wpList_append_grows _ rfl _ _ 40 rfl E i0 (.int .i64 0) 1 8 Tryd.underlying40 hi hz0 hz1 hz2 rfl (by decide) none 0 0 [] rfl ?g0 ?g1 ?g2 ⟨wr.heap.size, 0, none⟩ 1 1 [m2 i] rfl rfl (cell_new _ _ _) ?g3 (by omega) ?g4 ?g5 ?_)
                case g3 => first | rfl | (intro u hu; simp at hu; subst hu; rfl)
                case g4 => unfold maxLen; omega
                intro v' w6 hown' hgrow
                have hG6 := (HI.out.2.2.fresh (World.grownBy_alloc wr _ none)).fresh hgrow
                have hfr : ∃ y' c', v' = .slice y' 1 c' ∧ ∃ b, v'.ownBlock = some b ∧ H ≤ b := by
                  obtain ⟨hx1, h | ⟨g', cap', cur, hv, hg', _⟩⟩ := hown'
                  · omega
                  · exact ⟨_, _, hv, g', by rw [hv]; rfl, by first | omega | (simp at hg'; omega)⟩
                obtain ⟨y', c', rfl, hfr⟩ := hfr
                have hown2 : w6.ownsRow B E 1 (.slice y' 1 c') 1 [m2 i] := by
                  obtain ⟨hx1, h | ⟨g', cap', cur, hv, hg', r⟩⟩ := hown'
                  · omega
                  · exact ⟨hx1, Or.inr ⟨g', cap', cur, hv, by first | omega | (simp at hg'; omega), r⟩⟩
                have HF := Lib.hid (And.intro hown2 (And.intro hfr (And.intro hG6 (show H ≤ w6.heap.size by have := hgrow.size; simp at this; omega))))
                clear hown' hgrow hG6 hfr hown2 ho
                go_wp2_with fail
                go_roundw
                case rel => exact ⟨1, y', c', by omega, by go_num, rfl, HF.out.1, Or.inr HF.out.2.1, HF.out.2.2.2, HF.out.2.2.1⟩
                case measure => simp [intOf]
              · have hyc : some g = (Rw.val (xa, xc, xn)).ownBlock ∨ H ≤ g := by
                  rcases hcase with h | ⟨b, h1, h2⟩
                  · exact Or.inl h
                  · right
                    have : g = b := by simpa [Value.ownBlock] using h1
                    omega
                have HY := Lib.hid hyc
                clear hcase hG hyc hfz
                by_cases hroom : xn + j + 1 ≤ c
                · clear hcells
                  go_wp2_with (at_builtin; refine wpList_append_own_spare _ rfl _ _ 40 rfl B E i0 1 Tryd.underlying40 hi hz1 g (xn + j) c _ rfl (ho.alloc _) ⟨wr.heap.size, 0, none⟩ 1 1 [m2 i] rfl rfl (cell_new _ _ _) ?e2 (by omega) ?_)
                  case e2 => first | rfl | (intro u hu; simp at hu; subst hu; rfl)
                  intro w6 hown' hgrow
                  try rw [List.append_assoc] at hown'
                  rw [← List.replicate_succ'] at hown'
                  have hGa := HI.out.2.2.fresh (World.grownBy_alloc wr (.cells #[m2 i] E) none)
                  have hG6 := hGa.room HO.out HX.out.1 hHW HY.out hgrow (by show xn ≤ xn + j; omega) (ho.alloc _) hown'
                  have HF := Lib.hid (And.intro hown' (And.intro hG6 (show H ≤ w6.heap.size by have := hgrow.size; simp at this; omega)))
                  clear hown' hgrow hG6 hGa ho
                  go_wp2_with fail
                  go_roundw
                  case rel =>
                    refine ⟨j + 1, some ⟨g, 0, none⟩, c, by omega, by go_num, rfl, HF.out.1, ?_, HF.out.2.2, HF.out.2.1⟩
                    rcases HY.out with h | h
                    · exact Or.inl h
                    · exact Or.inr ⟨g, rfl, h⟩
                  case measure => simp [intOf]; omega
                · clear hcells hCl
                  have HOLD := Lib.hid ((ho.alloc (.cells #[m2 i] E)).cells (g := g) rfl)
                  go_wp2_with (at_builtin; refine wpList_append_grows _ rfl _ _ 40 rfl E i0 (.int .i64 0) 1 8 Tryd.underlying40 hi hz0 hz1 hz2 rfl (by decide) (some ⟨g, 0, none⟩) (xn + j) c (List.replicate xn (m1 i) ++ List.replicate j (m2 i)) rfl ?h0 ?h1 (fun b hb => by cases hb; exact HOLD.out) ⟨wr.heap.size, 0, none⟩ 1 1 [m2 i] rfl rfl (cell_new _ _ _) ?h3 (by omega) ?h4 ?h5 ?_)
                  case h3 => first | rfl | (intro u hu; simp at hu; subst hu; rfl)
                  case h4 => unfold maxLen; omega
                  case h5 => omega
                  intro v' w6 hown' hgrow
                  try rw [List.append_assoc] at hown'
                  rw [← List.replicate_succ'] at hown'
                  have hG6 := (HI.out.2.2.fresh (World.grownBy_alloc wr _ none)).fresh hgrow
                  have hfr : ∃ y' c', v' = .slice y' (xn + j + 1) c' ∧ (∃ b, v'.ownBlock = some b ∧ H ≤ b) ∧ w6.ownsRow B E 1 (.slice y' (xn + j + 1) c') (xn + j + 1) (List.replicate xn (m1 i) ++ List.replicate (j + 1) (m2 i)) := by
                    obtain ⟨hx1, h | ⟨g', cap', cur, hv, hg', r⟩⟩ := hown'
                    · omega
                    · subst hv
                      exact ⟨_, _, rfl, ⟨g', rfl, by first | omega | (simp at hg'; omega)⟩, hx1, Or.inr ⟨g', cap', cur, rfl, by first | omega | (simp at hg'; omega), r⟩⟩
                  obtain ⟨y', c', rfl, hfr, hown2⟩ := hfr
                  have HF := Lib.hid (And.intro hown2 (And.intro hfr (And.intro hG6 (show H ≤ w6.heap.size by have := hgrow.size; simp at this; omega))))
                  clear hown' hgrow hG6 hfr hown2 ho
                  go_wp2_with fail
                  go_roundw
                  case rel => exact ⟨j + 1, y', c', by omega, by go_num, rfl, HF.out.1, Or.inr HF.out.2.1, HF.out.2.2.2, HF.out.2.2.1⟩
                  case measure => simp [intOf]; omega
            · obtain rfl : j = 40 := by omega
              have hgl2 : gv.length = L.length := hgl
              obtain ⟨v0, hv0⟩ : ∃ v0, gv[i]? = some v0 := ⟨_, List.getElem?_eq_getElem (by omega)⟩
              have hcg : wr.cell? ⟨G, i, none⟩ = some v0 := (hG.row.cellAt i (by omega)).trans hv0
              have hfg : wr.frozen? ⟨G, i, none⟩ = false := hG.row.frozenAt i
              obtain ⟨s1, s2⟩ := hG.row.stored i (.slice y (xn + 40) c)
              have hEG : ∀ {b n : Nat} {v : Value} {xs : List Value}, wr.ownsRow b E 1 v n xs → v.ownBlock = none ∨ v.ownBlock ≠ some G := fun {b n v xs} h => other_type h hG.row (by decide)
              have hBo : y = none ∨ ∃ b, (Value.slice y (xn + 40) c).ownBlock = some b := by
                cases y with
                | none => exact Or.inl rfl
                | some a => exact Or.inr ⟨_, rfl⟩
              have hnew : Got B w (wr.setCell ⟨G, i, none⟩ (.slice y (xn + 40) c)) L Q qo G (i + 1) (gv.set i (.slice y (xn + 40) c)) := by
                refine ⟨fun k z hz => (hG.marked k z hz).kept s2 (hEG (hG.marked k z hz)), s1, fun k z hk hz => ?_, hG.sit.kept s2 (by simp; omega), hG.below.step s2 (fun k hk => Or.inr (by have := Option.some.inj hk; omega))⟩
                by_cases hki : k = i
                · subst hki
                  have hz' : z = (xa, xc, xn) := Option.some.inj (hz.symm.trans HX.out.1)
                  subst hz'
                  refine ⟨_, List.getElem?_set_self (by omega), y, c, rfl, ho.kept s2 (hEG ho), fun k' x' hk' hx' => ?_⟩
                  rcases hcase with h | ⟨b, h1, h2⟩
                  · rw [h]
                    exact HP.out.1.two k k' _ x' HX.out.1 hx' (Ne.symm hk')
                  · right
                    rw [h1]
                    rcases HO.out.lists k' x' hx' with h3 | ⟨b', h3, h4⟩
                    · rw [h3]; simp
                    · rw [h3]; simp; omega
                · obtain ⟨v, hv, hf⟩ := hG.full k z (by omega) hz
                  refine ⟨v, by rw [List.getElem?_set_ne (Ne.symm hki)]; exact hv, hf.kept s2 ?_⟩
                  obtain ⟨y', c', rfl, ho', _⟩ := hf
                  exact hEG ho'
              have HN := Lib.hid hnew
              have hiL : i < L.length := (List.getElem?_eq_some_iff.1 HX.out.1).1
              clear hnew s1 s2 hEG hBo hv0 hG ho hcase
              go_wp2_with fail
              go_roundw
              case rel => exact ⟨i + 1, _, by omega, by go_num, HN.out⟩
              case measure => simp [intOf]; omega
        · obtain rfl : i = L.length := by omega
          have HF := Lib.hid hG
          clear hG hlt HGG
          go_wp2_with fail
          go_loop [9] (fun v => ∃ i : Nat, i ≤ L.length ∧ v = .int .i64 (i : Int)) (fun v => L.length - (intOf v).toNat)
          case atStart => exact ⟨0, Nat.zero_le _, rfl⟩
          case round =>
            obtain ⟨i, hi2, rfl⟩ := hrel
            by_cases hlt : i < L.length
            · obtain ⟨x, hx⟩ : ∃ x, L[i]? = some x := ⟨_, List.getElem?_eq_getElem hlt⟩
              have hxl := HP.out.2.2.2 x (List.mem_of_getElem? hx)
              have hcell := HF.out.sit.cell i x hx
              have hmx := HF.out.marked i x hx
              obtain ⟨v, hv, y, c, rfl, ho, _⟩ := HF.out.full i x hlt hx
              obtain ⟨xa, xc, xn⟩ := x
              replace hxl : xn ≤ 100000 := hxl
              replace hcell : wp.cell? ⟨Q, qo + i, none⟩ = some (.slice xa xn xc) := hcell
              replace hmx : wp.ownsRow B E 1 (.slice xa xn xc) xn (List.replicate xn (m1 i)) := hmx
              replace ho : wp.ownsRow B E 1 (.slice y (xn + 40) c) (xn + 40) (List.replicate xn (m1 i) ++ List.replicate 40 (m2 i)) := ho
              have hcg : wp.cell? ⟨G, i, none⟩ = some (.slice y (xn + 40) c) := (HF.out.row.cellAt i (by omega)).trans hv
              rcases shape ho with ⟨_, h0, _⟩ | ⟨g, rfl, hgB, hgl3, hnc, hcmx, hCl, hcells, _⟩
              · omega
              have HM := Lib.hid (And.intro hmx hcells)
              clear hx hv ho hmx hcells hCl
              go_wp2_with fail
              go_loop [11] (fun v => ∃ j : Nat, j ≤ xn + 40 ∧ v = .int .i64 (j : Int)) (fun v => xn + 40 - (intOf v).toNat)
              case atStart => exact ⟨0, Nat.zero_le _, rfl⟩
              case round =>
                obtain ⟨j, hj, rfl⟩ := hrel
                by_cases hjl : j < xn + 40
                · have hcj := HM.out.2 j hjl
                  have hmod : i ≤ 1000 := by omega
                  have hmod2 : i ≤ 1000 := by omega
                  by_cases hjn : j < xn
                  · rw [List.getElem?_append_left (by simpa using hjn), List.getElem?_replicate, if_pos hjn] at hcj
                    rcases shape HM.out.1 with ⟨_, h0, _⟩ | ⟨g2, rfl, _, _, hnc2, hcmx2, _, hcells2, _⟩
                    · omega
                    have hcj2 := hcells2 j hjn
                    rw [List.getElem?_replicate, if_pos hjn] at hcj2
                    unfold m1 at hcj hcj2
                    clear hcells2
                    go_wp2_with fail
                    go_round
                    case rel => exact ⟨j + 1, by omega, by go_num⟩
                    case measure => simp [intOf]; omega
                  · rw [List.getElem?_append_right (by simp; omega), List.getElem?_replicate, if_pos (by simp; omega)] at hcj
                    unfold m2 at hcj
                    go_wp2_with fail
                    go_round
                    case rel => exact ⟨j + 1, by omega, by go_num⟩
                    case measure => simp [intOf]; omega
                · obtain rfl : j = xn + 40 := by omega
                  go_wp2_with fail
                  go_round
                  case rel => exact ⟨i + 1, by omega, by go_num⟩
                  case measure => simp [intOf]; omega
            · obtain rfl : i = L.length := by omega
              go_wp2_with fail
              go_ret
              exact ⟨rfl, HF.out.below⟩
end Go.Proofs.YthhighljfjeooaaDoor.apartI
