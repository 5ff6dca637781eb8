/- The document's own package of numbers by its contracts, seventh part: Sub where it is told. -/
import Derived.Test.YthhighljfjeooaaDoorRefF
import Derived.Test.YthhighljfjeooaaDoorNatD
namespace Go.Proofs.YthhighljfjeooaaDoor
open Go.RowKit NatM

/-- the difference of two lists of digits, up to place k, in a list of its own -/
structure BInv (a b : List Nat) (k c : Nat) (t : List Nat) : Prop where
  ok : okB 65536 t
  len : t.length = a.length
  car : c ≤ 1
  val : V16 (t.take k) + V16 (b.take k) = V16 (a.take k) + 65536 ^ k * c
theorem BInv.start (a b : List Nat) : BInv a b 0 0 (List.replicate a.length 0) := ⟨okB_replicate (by omega) _, by simp, by omega, by simp [V16, valB]⟩
theorem BInv.step {a b : List Nat} {k c x D : Nat} {t : List Nat} (hb : okB 65536 b) (h : BInv a b k c t) (hx : a[k]? = some x) (hxl : x < 65536) (hD : D + c + limbAt b k = x + 65536) : BInv a b (k + 1) (1 - D / 65536) (t.set k (D % 65536)) := by
  have hk := get_lt hx
  obtain ⟨z, hz⟩ := some_get (l := t) (k := k) (by rw [h.len]; exact hk)
  have hy := limb_lt (B := 65536) (by omega) hb k
  have hc := h.car
  refine ⟨okB_set h.ok (by omega) _, by rw [List.length_set]; exact h.len, by omega, ?_⟩
  show valB 65536 _ + valB 65536 _ = valB 65536 _ + _
  rw [set_takeq hz, valB_snoc, List.length_take, Nat.min_eq_left (by have := h.len; omega), valB_take_limb, valB_takeq 65536 hx, Nat.pow_succ]
  exact sub_step h.val (by omega)
theorem BInv.done {a b : List Nat} {c : Nat} {t : List Nat} (hbl : b.length ≤ a.length) (hle : V16 b ≤ V16 a) (h : BInv a b a.length c t) : V16 t = V16 a - V16 b := by
  have hv := h.val
  have hl := h.len
  have hc := h.car
  rw [List.take_of_length_le (by omega), List.take_of_length_le hbl, List.take_of_length_le (Nat.le_refl _)] at hv
  have h1 := valB_lt (B := 65536) (by omega) h.ok
  rw [hl] at h1
  change V16 t < _ at h1
  rcases (show c = 0 ∨ c = 1 by omega) with rfl | rfl
  · omega
  · omega

theorem make32u (n : Nat) (hn : n ≤ 1099511627776) (w : World) :
    (Instr.makeSlice 24 (.int .i64 (n : Int)) (.int .i64 (n : Int))).run Tryd.prog w = .ok (.slice (some ⟨w.heap.size, 0, none⟩) n n) (w.alloc (.cells (madeCells #[.int .u32 0] n) 27)) := by
  obtain ⟨i0, hi, hz0, hz1, hz2⟩ := info_parts info32
  have h := run_make (P := Tryd.prog) w 24 27 i0 (.int .u32 0) Tryd.underlying24 hi hz0 .i64 .i64 n n (by omega) (by omega) (by rw [hz2]; omega) (by omega)
  rw [hz1] at h
  simpa [Value.cells] using h
def SubRefRel (B : Nat) (w3 : World) (a b : List Nat) (p : Option Addr) (cap : Nat) (v9 v10 : Value) (wr : World) : Prop :=
  ∃ (i c : Nat) (t : List Nat), i ≤ a.length ∧ v9 = .int .u32 (c : Int) ∧ v10 = .int .i64 (i : Int) ∧ BInv a b i c t ∧ NatO B wr p cap t ∧ Below B w3 wr

set_option maxRecDepth 100000 in
set_option maxHeartbeats 4000000 in
theorem sub_ref (p q : Option Addr) (c d : Nat) (l m : List Nat) (w : World) (h : NatV w.heap.size w p c l) (k : NatV w.heap.size w q d m) (hl : l.length ≤ 1048576) (hm : m.length ≤ 1048576) (hle : V32 m ≤ V32 l) :
    Calls Tryd.prog 54 #[.slice p l.length c, .slice q m.length d] w (RefOk2 w (V32 l - V32 m)) := by
  have hcv : ∃ r : Int, 0 ≤ r ∧ cmpN (V32 l) (V32 m) = r := by
    rcases Nat.lt_or_ge (V32 m) (V32 l) with h1 | h1
    · exact ⟨1, by omega, by rw [cmp_gt h1]⟩
    · exact ⟨0, by omega, by rw [show V32 l = V32 m by omega, cmp_eq]⟩
  obtain ⟨r, hr0, hcv⟩ := hcv
  have hal := half_len h.ok
  have hbl := half_len k.ok
  have H := Lib.hid (And.intro h (And.intro k (And.intro hl (And.intro hm (And.intro hcv hle)))))
  obtain ⟨A, hA⟩ : ∃ A, V32 l = A := ⟨_, rfl⟩
  obtain ⟨B, hB⟩ : ∃ B, V32 m = B := ⟨_, rfl⟩
  have HAB := Lib.hid (And.intro hA hB)
  rw [hA] at hal ⊢
  rw [hB] at hbl ⊢
  have hal2 : (D16 A).length ≤ 2097152 := by omega
  have hbl2 : (D16 B).length ≤ 2097152 := by omega
  clear h k hl hm hle hcv hA hB hal hbl
  go_enter Tryd.func54, Tryd.ntmps54
  go_wp2_with fail
  obtain ⟨w0, hw0⟩ : ∃ w0, w0 = w.alloc (.cells #[.int .i64 0, .slice none 0 0, .slice none 0 0] 72) := ⟨_, rfl⟩
  rw [← hw0]
  have hb0 : Below w.heap.size w w0 := by rw [hw0]; exact (Below.refl _ _).alloc (Nat.le_refl _) _
  have hs0 : w.heap.size < w0.heap.size := by rw [hw0]; simp
  have hE0 : Err3 w0 w.heap.size (.int .i64 0) (.slice none 0 0) (.slice none 0 0) := by rw [hw0]; exact Err3.new w
  have hC := cmp_ref p q c d l m w0 (H.out.1.next hb0) (H.out.2.1.next hb0) H.out.2.2.1 H.out.2.2.2.1
  rw [H.out.2.2.2.2.1] at hC
  clear hw0
  refine hC.mono ?_
  clear hC
  rintro e w1 ⟨rfl, hb1⟩
  have hs1 := hb1.size
  have HB1 := Lib.hid (And.intro (hE0.next hb1) (hb0.trans (hb1.mono (Nat.le_of_lt hs0))))
  clear hb0 hb1 hE0
  have hT1 := half_any p c l w1 (H.out.1.next HB1.out.2) H.out.2.2.1
  rw [HAB.out.1] at hT1
  go_wp2_with fail
  refine hT1.mono ?_
  clear hT1
  rintro e w2 ⟨p1, c1, rfl, ho1, hb2⟩
  have hs2 := hb2.size
  have HB2 := Lib.hid (And.intro (HB1.out.1.next hb2) (And.intro (HB1.out.2.trans (hb2.mono (by omega))) ho1))
  clear ho1 hb2
  have hT2 := half_any q d m w2 (H.out.2.1.next HB2.out.2.1) H.out.2.2.2.1
  rw [HAB.out.2] at hT2
  go_wp2_with fail
  refine hT2.mono ?_
  clear hT2
  rintro e w3 ⟨p2, c2, rfl, ho2, hb3⟩
  have hs3 := hb3.size
  have hva : V16 (D16 A) = A := V16_D16 _
  have hvb : V16 (D16 B) = B := V16_D16 _
  have hlen : (D16 B).length ≤ (D16 A).length := by
    rcases Nat.lt_or_ge (D16 A).length (D16 B).length with h1 | h1
    · exfalso
      have h2 := cmp_len16 h1
      have h3 := H.out.2.2.2.2.2
      rw [HAB.out.1, HAB.out.2] at h3
      omega
    · exact h1
  have HV := Lib.hid (And.intro (HB2.out.2.2.next hb3).toV (And.intro ho2.toV (And.intro (D16_ok A) (And.intro (D16_ok B) (And.intro hva (And.intro hvb hlen))))))
  have HB3 := Lib.hid (And.intro (HB2.out.1.next hb3) (HB2.out.2.1.trans (hb3.mono (by omega))))
  clear hva hvb hlen ho2 hb3
  obtain ⟨a, ha⟩ : ∃ a, D16 A = a := ⟨_, rfl⟩
  obtain ⟨b, hb⟩ : ∃ b, D16 B = b := ⟨_, rfl⟩
  rw [ha] at HV hal2 ⊢
  rw [hb] at HV hbl2 ⊢
  clear ha hb
  have hmk := make32u a.length (by omega) w3
  go_wp2_with fail
  have hm0 := NatO.made w3 a.length (by omega)
  have hbm : Below w.heap.size w (w3.alloc (.cells (madeCells #[.int .u32 0] a.length) 27)) := HB3.out.2.alloc (by omega) _
  have hEm := HB3.out.1.next ((Below.refl w3.heap.size w3).alloc (Nat.le_refl _) (.cells (madeCells #[.int .u32 0] a.length) 27))
  have hB3m : Below w3.heap.size w3 (w3.alloc (.cells (madeCells #[.int .u32 0] a.length) 27)) := (Below.refl w3.heap.size w3).alloc (Nat.le_refl _) _
  have hs4 : (w3.alloc (.cells (madeCells #[.int .u32 0] a.length) 27)).heap.size = w3.heap.size + 1 := by simp
  obtain ⟨w4, hw4⟩ : ∃ w4, w4 = w3.alloc (.cells (madeCells #[.int .u32 0] a.length) 27) := ⟨_, rfl⟩
  rw [← hw4] at hm0 hbm hEm hB3m hs4 ⊢
  have HM := Lib.hid (And.intro hm0 (And.intro hbm (And.intro hEm hB3m)))
  clear hm0 hbm hEm hB3m hw4 hmk
  go_loopw [9, 10] (fun v9 v10 wr => SubRefRel w3.heap.size w3 a b (some ⟨w3.heap.size, 0, none⟩) a.length v9 v10 wr) (fun _ v _ => a.length - (intOf v).toNat)
  case atStart => exact ⟨0, 0, List.replicate a.length 0, Nat.zero_le _, rfl, rfl, BInv.start a b, HM.out.1, HM.out.2.2.2⟩
  case round =>
    obtain ⟨i, c, t, hi, rfl, rfl, hS, ho, hbx⟩ := hrel
    have hwB : w3.heap.size ≤ wr.heap.size := hbx.size
    have hc1 := hS.car
    by_cases hlt : i < a.length
    · obtain ⟨x, hx⟩ := some_get hlt
      obtain ⟨ba, off, rfl, hba, hca⟩ := (HV.out.1.below hbx).cell (List.length_pos_iff.1 (by omega))
      have hcx := hca i x hx
      have hxl : x < 65536 := ok_get HV.out.2.2.1 hx
      have hyl := limb_lt (B := 65536) (by omega) HV.out.2.2.2.1 i
      have hst := fun D hD => hS.step (D := D) HV.out.2.2.2.1 hx hxl hD
      have htl := hS.len
      obtain ⟨g, hg, hgb, hgl, hcells, hfrz⟩ := ho.shape (by omega)
      obtain rfl : w3.heap.size = g := by simpa using hg
      obtain ⟨z, hz⟩ := some_get (l := t) (k := i) (by omega)
      have hcz := hcells i z hz
      have hfz := hfrz i
      obtain ⟨y, hy⟩ : ∃ y, limbAt b i = y := ⟨_, rfl⟩
      rw [hy] at hyl hst
      have HX := Lib.hid (And.intro hst (And.intro ho (And.intro hbx hy)))
      clear hca hx hst hS htl ho hg hcells hfrz hz hbx hy
      go_upto_if 40 with fail
      go_cut [11] (fun v11 wx => v11 = .int .u32 ((x : Int) + 65536 - c - y) ∧ wr = wx)
      case first =>
        by_cases hib : i < b.length
        · obtain ⟨bb, off', rfl, hbb, hcb⟩ := (HV.out.2.1.below HX.out.2.2.1).cell (List.length_pos_iff.1 (by omega))
          obtain ⟨y', hy'⟩ := some_get hib
          have hcy := hcb i y' hy'
          have hyy : y' = y := by rw [← HX.out.2.2.2, limb_some hy']
          subst hyy
          clear hcb hy'
          go_wp2_with fail
          go_meet
          exact ⟨by go_num, rfl⟩
        · have hy0 : y = 0 := by rw [← HX.out.2.2.2, limb_none (by omega)]
          subst hy0
          go_wp2_with fail
          go_meet
          exact ⟨by go_num, rfl⟩
      case rest =>
        obtain ⟨rfl, rfl⟩ := hcut
        obtain ⟨D, hD⟩ : ∃ D : Nat, D + c + y = x + 65536 := ⟨x + 65536 - c - y, by omega⟩
        rw [show ((x : Int) + 65536 - c - y) = (D : Int) by omega]
        have hDl : D < 131072 := by omega
        have HS := Lib.hid (HX.out.1 D hD)
        clear hD
        go_wp2_with fail
        go_roundw
        case rel =>
          refine ⟨i + 1, 1 - D / 65536, t.set i (D % 65536), by omega, ?_, by go_num, HS.out, ?_, HX.out.2.2.1.setCell (Nat.le_refl _) _⟩
          · go_num
          · exact NatO.store HX.out.2.1 i (D % 65536) (by omega)
        case measure => simp [intOf]; omega
    · obtain rfl : i = a.length := by omega
      have htl := hS.len
      have hd : V16 t = A - B := by
        have h1 := H.out.2.2.2.2.2
        rw [HAB.out.1, HAB.out.2] at h1
        have h2 := hS.done HV.out.2.2.2.2.2.2 (by rw [HV.out.2.2.2.2.1, HV.out.2.2.2.2.2.1]; exact h1)
        rw [h2, HV.out.2.2.2.2.1, HV.out.2.2.2.2.2.1]
      have hw := whole_any (some ⟨w3.heap.size, 0, none⟩) a.length t wr ho.toV hS.ok (by omega)
      rw [hd, htl] at hw
      have HE := Lib.hid (And.intro (HB3.out.1.next hbx) (HB3.out.2.trans (hbx.mono (by omega))))
      clear hS ho hbx htl hd hlt
      go_wp2_with fail
      refine hw.mono ?_
      rintro e w5 ⟨p5, c5, rfl, ho5, hb5⟩
      have hs5 := hb5.size
      obtain ⟨⟨hf0, hf1, hf2⟩, hk0, hk1, hk2⟩ := (HE.out.1.next hb5).facts
      have HW := Lib.hid (And.intro ho5 (HE.out.2.trans (hb5.mono (by omega))))
      clear hw ho5 hb5
      go_wp2_with fail
      refine bodyPost_ret (v := .tuple #[.slice p5 (D32 (A - B)).length c5, noErr]) (by simp [results, Tryd.results54, go_sem, hk0, hk1, hk2, noErr]) rfl ⟨_, _, rfl, ?_, ?_⟩
      · exact (HW.out.1.put3 (by omega) _ _ _).base (by omega)
      · exact put3_below HW.out.2 (Nat.le_refl _) _ _ _
end Go.Proofs.YthhighljfjeooaaDoor
