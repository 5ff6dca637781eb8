/- The document's own package of numbers by its contracts, fourth part: Add, Sum. -/
import Derived.Test.YthhighljfjeooaaDoorRefC
namespace Go.Proofs.YthhighljfjeooaaDoor
open Go.RowKit NatM

/-- two lists of digits, added so far up to place i -/
structure SInv (a b : List Nat) (i c : Nat) (out : List Nat) : Prop where
  len : out.length = i
  ok : okB 65536 out
  car : c ≤ 1
  val : V16 out + 65536 ^ i * c = V16 (a.take i) + V16 (b.take i)
  bnd : i ≤ max a.length b.length + 1
theorem SInv.start (a b : List Nat) : SInv a b 0 0 [] := ⟨rfl, okB_nil _, by omega, by simp [V16, valB], by omega⟩
theorem SInv.stop {a b : List Nat} {i c : Nat} {out : List Nat} (ha : okB 65536 a) (hb : okB 65536 b) (h : SInv a b i c out) (hi : max a.length b.length < i) : c = 0 := by
  have hv := h.val
  rw [List.take_of_length_le (by omega), List.take_of_length_le (by omega)] at hv
  have h1 := valB_lt (B := 65536) (by omega) ha
  have h2 := valB_lt (B := 65536) (by omega) hb
  have h3 : 65536 ^ a.length ≤ 65536 ^ (i - 1) := Nat.pow_le_pow_right (by omega) (by omega)
  have h4 : 65536 ^ b.length ≤ 65536 ^ (i - 1) := Nat.pow_le_pow_right (by omega) (by omega)
  have h5 : 65536 ^ i = 65536 * 65536 ^ (i - 1) := by rw [Nat.mul_comm, ← Nat.pow_succ]; congr 1; omega
  rcases Nat.eq_zero_or_pos c with h0 | h0
  · exact h0
  · exfalso
    have h6 : 65536 ^ i * 1 ≤ 65536 ^ i * c := Nat.mul_le_mul_left _ h0
    change V16 a < _ at h1
    change V16 b < _ at h2
    omega
theorem SInv.step {a b : List Nat} {i c : Nat} {out : List Nat} (ha : okB 65536 a) (hb : okB 65536 b) (h : SInv a b i c out) (hgo : i < a.length ∨ i < b.length ∨ 0 < c) :
    SInv a b (i + 1) ((c + limbAt a i + limbAt b i) / 65536) (out ++ [(c + limbAt a i + limbAt b i) % 65536]) := by
  have hv := h.val
  have hl := h.len
  have hc := h.car
  have hst := h.stop ha hb
  have hx := limb_lt (B := 65536) (by omega) ha i
  have hy := limb_lt (B := 65536) (by omega) hb i
  refine ⟨by rw [List.length_append, List.length_singleton, hl], okB_snoc h.ok (by omega), by omega, ?_, ?_⟩
  · show valB 65536 _ + _ = valB 65536 _ + valB 65536 _
    rw [valB_snoc, valB_take_limb, valB_take_limb, hl, Nat.pow_succ, Nat.mul_assoc, Nat.add_assoc, ← Nat.mul_add, Nat.mod_add_div, Nat.mul_add, Nat.mul_add]
    change V16 out + _ = (V16 _ + _) + (V16 _ + _)
    omega
  · have hb := h.bnd
    rcases Nat.lt_or_ge (max a.length b.length) i with h1 | h1
    · have := hst h1
      omega
    · omega
theorem SInv.done {a b : List Nat} {i : Nat} {out : List Nat} (h : SInv a b i 0 out) (ha : a.length ≤ i) (hb : b.length ≤ i) : V16 out = V16 a + V16 b := by
  have hv := h.val
  rw [List.take_of_length_le ha, List.take_of_length_le hb] at hv
  omega
theorem ok16_32 {l : List Nat} (h : okB 65536 l) : ok32 l := fun x hx => Nat.lt_of_lt_of_le (h x hx) (by omega)

def AddRel (B : Nat) (w : World) (a b : List Nat) (v7 v8 v9 : Value) (wr : World) : Prop :=
  ∃ (i c : Nat) (t : List Nat) (p : Option Addr) (cap : Nat), v7 = .slice p t.length cap ∧ v8 = .int .u32 (c : Int) ∧ v9 = .int .i64 (i : Int) ∧ SInv a b i c t ∧ NatO B wr p cap t ∧ Below B w wr

set_option maxRecDepth 100000 in
set_option maxHeartbeats 4000000 in
theorem add_ref (p q : Option Addr) (c d : Nat) (l m : List Nat) (w : World) (h : NatV w.heap.size w p c l) (k : NatV w.heap.size w q d m) (hl : l.length ≤ 1048576) (hm : m.length ≤ 1048576) :
    Calls Tryd.prog 52 #[.slice p l.length c, .slice q m.length d] w (NatPost w (V32 l + V32 m)) := by
  obtain ⟨i0, hi, hz0, hz1, hz2⟩ := info_parts info32
  have H := Lib.hid (And.intro h k)
  have HT := Lib.hid (half_any p c l w h hl)
  have HM := Lib.hid hm
  have hal := half_len h.ok
  have hbl := half_len k.ok
  obtain ⟨A, hA⟩ : ∃ A, V32 l = A := ⟨_, rfl⟩
  obtain ⟨B, hB⟩ : ∃ B, V32 m = B := ⟨_, rfl⟩
  have HBB := Lib.hid hB
  rw [hA] at HT hal ⊢
  rw [hB] at hbl ⊢
  have hal2 : (D16 A).length ≤ 2097152 := by omega
  have hbl2 : (D16 B).length ≤ 2097152 := by omega
  clear h k hm hal hbl hl
  go_enter Tryd.func52, Tryd.ntmps52
  go_wp2_with fail
  refine HT.out.mono ?_
  rintro e w1 ⟨p1, c1, rfl, ho1, hb1⟩
  have HT2 := half_any q d m w1 (H.out.2.next hb1) HM.out
  rw [HBB.out] at HT2
  have HO := Lib.hid (And.intro ho1 hb1)
  clear ho1 hb1 hA hB
  go_wp2_with fail
  refine HT2.mono ?_
  rintro e w2 ⟨p2, c2, rfl, ho2, hb2⟩
  have hva : V16 (D16 A) = A := V16_D16 _
  have hvb : V16 (D16 B) = B := V16_D16 _
  have HV2 := Lib.hid (And.intro (HO.out.1.next hb2).toV (And.intro ho2.toV (And.intro (D16_ok A) (And.intro (D16_ok B) (HO.out.2.trans (hb2.mono HO.out.2.size))))))
  clear HT2 ho2 hb2
  obtain ⟨a, ha⟩ : ∃ a, D16 A = a := ⟨_, rfl⟩
  obtain ⟨b, hb⟩ : ∃ b, D16 B = b := ⟨_, rfl⟩
  rw [ha] at HV2 hva hal2 ⊢
  rw [hb] at HV2 hvb hbl2 ⊢
  have HL := Lib.hid (And.intro hva hvb)
  clear hva hvb ha hb
  have hws := HV2.out.2.2.2.2.size
  go_wp2_with fail
  go_loopw [7, 8, 9] (fun v7 v8 v9 wr => AddRel w2.heap.size w2 a b v7 v8 v9 wr) (fun _ _ v _ => max a.length b.length + 2 - (intOf v).toNat)
  case atStart => exact ⟨0, 0, [], none, 0, rfl, rfl, rfl, SInv.start a b, NatO.nothing _ _, Below.refl _ _⟩
  case round =>
    obtain ⟨i, c, t, p', cap, rfl, rfl, rfl, hS, ho, hbx⟩ := hrel
    have hwB : w2.heap.size ≤ wr.heap.size := hbx.size
    have hil := hS.bnd
    have htl := hS.len
    have hc1 := hS.car
    by_cases hgo : i < a.length ∨ i < b.length ∨ 0 < c
    · have hst := hS.step HV2.out.2.2.1 HV2.out.2.2.2.1 hgo
      have hxl := limb_lt (B := 65536) (by omega) HV2.out.2.2.1 i
      have hyl := limb_lt (B := 65536) (by omega) HV2.out.2.2.2.1 i
      obtain ⟨x, hx⟩ : ∃ x, limbAt a i = x := ⟨_, rfl⟩
      obtain ⟨y, hy⟩ : ∃ y, limbAt b i = y := ⟨_, rfl⟩
      rw [hx, hy] at hst
      rw [hx] at hxl
      rw [hy] at hyl
      have HX := Lib.hid (And.intro hx hy)
      have HS := Lib.hid (And.intro hst (And.intro ho hbx))
      have hown := ho.own
      have HTL := Lib.hid htl
      have htm : t.length ≤ 2097153 := by omega
      clear hx hy hst ho hbx hS htl
      rcases (show i < a.length ∨ (¬ i < a.length ∧ i < b.length) ∨ (¬ i < a.length ∧ ¬ i < b.length ∧ 0 < c) by omega) with hg | ⟨hg, hg2⟩ | ⟨hg, hg2, hg3⟩
      all_goals
        clear hgo
        go_upto_if 33 with fail
        go_cut [8] (fun v8 wx => v8 = .int .u32 ((c + x : Nat) : Int) ∧ wr = wx)
        case first =>
          by_cases hia : i < a.length
          · first
              | exact absurd hia hg
              | (obtain ⟨bl, off, rfl, hlt, hc⟩ := (HV2.out.1.below HS.out.2.2).cell (List.length_pos_iff.1 (by omega))
                 obtain ⟨x', hx'⟩ := some_get hia
                 have hcl := hc i x' hx'
                 have hxx : x' = x := by rw [← HX.out.1, limb_some hx']
                 subst hxx
                 clear hc hx'
                 go_wp2_with fail
                 go_meet
                 exact ⟨by go_num, rfl⟩)
          · have hx0 : x = 0 := by rw [← HX.out.1, limb_none (by omega)]
            subst hx0
            first
              | exact absurd hg hia
              | (go_wp2_with fail
                 go_meet
                 exact ⟨rfl, rfl⟩)
        case rest =>
          obtain ⟨rfl, rfl⟩ := hcut
          go_upto_if 43 with fail
          go_cut [8] (fun v8 wx => v8 = .int .u32 ((c + x + y : Nat) : Int) ∧ wr = wx)
          case first =>
            by_cases hia : i < b.length
            · first
                | exact absurd hia hg2
                | (obtain ⟨bl, off, rfl, hlt, hc⟩ := (HV2.out.2.1.below HS.out.2.2).cell (List.length_pos_iff.1 (by omega))
                   obtain ⟨x', hx'⟩ := some_get hia
                   have hcl := hc i x' hx'
                   have hxx : x' = y := by rw [← HX.out.2, limb_some hx']
                   subst hxx
                   clear hc hx'
                   go_wp2_with fail
                   go_meet
                   exact ⟨by go_num, rfl⟩)
            · have hx0 : y = 0 := by rw [← HX.out.2, limb_none (by omega)]
              subst hx0
              first
                | exact absurd hg2 hia
                | (go_wp2_with fail
                   go_meet
                   exact ⟨rfl, rfl⟩)
          case rest =>
            obtain ⟨rfl, rfl⟩ := hcut
            obtain ⟨u, hu⟩ : ∃ u, c + x + y = u := ⟨_, rfl⟩
            rw [hu] at HS ⊢
            have hul : u < 131072 := by omega
            clear hu
            go_wp2_with (at_builtin; refine wpList_append_own _ rfl _ _ 24 rfl w2.heap.size 27 i0 (.int .u32 0) 1 4 Tryd.underlying24 hi hz0 hz1 hz2 rfl (by decide) _ t.length (cells32 t) rfl (hown.alloc _) ⟨wr.heap.size, 0, none⟩ 1 1 _ rfl rfl (cell_one_new _ _ _) ?c2 ?c3 ?c4 ?c5 ?_)
            case c2 => intro u hu; simp at hu; subst hu; rfl
            case c3 => unfold maxLen; omega
            case c4 => omega
            case c5 => simp; omega
            intro v' w3 hown' hgrow _
            rw [show ((u : Int) % 65536) = ((u % 65536 : Nat) : Int) by omega] at hown'
            obtain ⟨q', cap', rfl, ho1⟩ := NatO.snoc (x := u % 65536) hown' HS.out.2.1.ok (by omega)
            have hb1 : Below w2.heap.size w2 w3 := (HS.out.2.2.alloc hwB _).grown hgrow (by simp; omega) (fun j hj => (hown.lt j hj).1)
            have HO2 := Lib.hid (And.intro ho1 hb1)
            clear hown hown' hgrow ho1 hb1
            go_wp2_with fail
            go_roundw
            case rel => exact ⟨i + 1, u / 65536, t ++ [u % 65536], q', cap', rfl, by go_num, by go_num, HS.out.1, HO2.out.1, HO2.out.2⟩
            case measure => simp [intOf]; omega
    · have hia : a.length ≤ i := by omega
      have hib : b.length ≤ i := by omega
      obtain rfl : c = 0 := by omega
      have hd := hS.done hia hib
      have hw := whole_any p' cap t wr ho.toV hS.ok (by omega)
      rw [hd, HL.out.1, HL.out.2] at hw
      have HB := Lib.hid hbx
      clear hd hS ho hbx hgo htl hil
      go_wp2_with fail
      refine hw.mono ?_
      rintro e w4 ⟨p4, c4, rfl, ho4, hb4⟩
      have HW := Lib.hid (And.intro ho4 hb4)
      have hz := Nat.le_trans hws hwB
      clear hw ho4 hb4
      go_wp2_with fail
      go_ret
      exact ⟨p4, c4, rfl, HW.out.1.base hz, HV2.out.2.2.2.2.trans ((HB.out.mono hws).trans (HW.out.2.mono hz))⟩

end Go.Proofs.YthhighljfjeooaaDoor
