/- The document's own package of numbers by its contracts, third part: Cmp, Low. -/
import Derived.Test.YthhighljfjeooaaDoorRefB
namespace Go.Proofs.YthhighljfjeooaaDoor
open Go.RowKit NatM

theorem lt_of_drop16 {a b : List Nat} {i x y : Nat} (ha : okB 65536 a) (hx : a[i]? = some x) (hy : b[i]? = some y) (hd : a.drop (i + 1) = b.drop (i + 1)) (hlt : x < y) : V16 a < V16 b := lt_atq (by omega) ha hx hy hd hlt
theorem cmp_len16 {m n : Nat} (h : (D16 m).length < (D16 n).length) : m < n := digs_length_lt (by omega) h

set_option maxRecDepth 100000 in
set_option maxHeartbeats 2000000 in
theorem cmp_ref (p q : Option Addr) (c d : Nat) (l m : List Nat) (w : World) (h : NatV w.heap.size w p c l) (k : NatV w.heap.size w q d m) (hl : l.length ≤ 1048576) (hm : m.length ≤ 1048576) :
    Calls Tryd.prog 20 #[.slice p l.length c, .slice q m.length d] w (Tells (.int .i64 (cmpN (V32 l) (V32 m))) w) := by
  have H := Lib.hid (And.intro h k)
  have HT := Lib.hid (half_any p c l w h hl)
  have HM := Lib.hid (And.intro hm (And.intro (half_len h.ok) (half_len k.ok)))
  obtain ⟨A, hA⟩ : ∃ A, V32 l = A := ⟨_, rfl⟩
  obtain ⟨B, hB⟩ : ∃ B, V32 m = B := ⟨_, rfl⟩
  have HBB := Lib.hid hB
  rw [hA] at HT HM ⊢
  rw [hB] at HM ⊢
  clear h k hm
  go_enter Tryd.func20, Tryd.ntmps20
  go_wp2_with fail
  refine HT.out.mono ?_
  rintro e w1 ⟨p1, c1, rfl, ho1, hb1⟩
  have HT2 := half_any q d m w1 (H.out.2.next hb1) HM.out.1
  rw [HBB.out] at HT2
  have HO := Lib.hid (And.intro ho1 hb1)
  clear ho1 hb1 hA hB
  go_wp2_with fail
  refine HT2.mono ?_
  rintro e w2 ⟨p2, c2, rfl, ho2, hb2⟩
  have hva : V16 (D16 A) = A := V16_D16 _
  have hvb : V16 (D16 B) = B := V16_D16 _
  have HV2 := Lib.hid (And.intro (HO.out.1.next hb2).toV (And.intro ho2.toV (And.intro (D16_ok A) (And.intro (D16_ok B) (HO.out.2.trans (hb2.mono HO.out.2.size))))))
  clear HT2 ho2 hb2
  have hgt : (D16 B).length < (D16 A).length → B < A := cmp_len16
  have hlt : (D16 A).length < (D16 B).length → A < B := cmp_len16
  have hle := HV2.out.1.le
  have hdle := HV2.out.2.1.le
  have hcap := HV2.out.1.cap
  have hdcap := HV2.out.2.1.cap
  unfold maxLen at hcap hdcap
  obtain ⟨a, ha⟩ : ∃ a, D16 A = a := ⟨_, rfl⟩
  obtain ⟨b, hb⟩ : ∃ b, D16 B = b := ⟨_, rfl⟩
  rw [ha] at HV2 hva hgt hlt hle ⊢
  rw [hb] at HV2 hvb hgt hlt hdle ⊢
  have HL := Lib.hid (And.intro hva (And.intro hvb (And.intro hgt hlt)))
  clear hva hvb hgt hlt ha hb
  rcases Nat.lt_trichotomy a.length b.length with hl' | hl' | hl'
  · have HC := Lib.hid (cmp_lt (HL.out.2.2.2 hl'))
    have h1 : ((a.length : Int) != (b.length : Int)) = true := by simp; omega
    go_wp2_with fail
    go_ret
    exact ⟨by rw [HC.out]; try rfl, HV2.out.2.2.2.2⟩
  · obtain ⟨n, hn⟩ : ∃ n, n = a.length := ⟨_, rfl⟩
    have hn2 : b.length = n := by omega
    rw [← hn, hn2]
    rw [← hn] at hle
    rw [hn2] at hdle
    have HN := Lib.hid (And.intro hn hn2)
    clear hl' hn hn2
    go_wp2_with fail
    go_loopw [7] (fun v wx => ∃ k : Nat, k ≤ n ∧ v = .int .i64 ((k : Int) - 1) ∧ Below w2.heap.size w2 wx ∧ Hid (a.drop k = b.drop k)) (fun v _ => (intOf v + 1).toNat)
    case atStart => exact ⟨n, Nat.le_refl _, rfl, Below.refl _ _, by rw [HN.out.1]; show _ = _; rw [List.drop_length, List.drop_of_length_le]; have := HN.out; omega⟩
    case round =>
      obtain ⟨k, hk, rfl, hbx, hdr⟩ := hrel
      rcases Nat.eq_zero_or_pos k with rfl | hk0
      · have hc : cmpN A B = 0 := by
          have e : a = b := by have := hdr.out; simpa using this
          rw [← HL.out.1, ← HL.out.2.1, e, cmp_eq]
        have HC := Lib.hid hc
        clear hc
        go_wp2_with fail
        go_ret
        exact ⟨by rw [HC.out]; rfl, HV2.out.2.2.2.2.trans (hbx.mono HV2.out.2.2.2.2.size)⟩
      · obtain ⟨j, rfl⟩ : ∃ j, k = j + 1 := ⟨k - 1, by omega⟩
        have e1 : (((j + 1 : Nat) : Int) - 1) = (j : Int) := by omega
        rw [e1]
        have hna : n = a.length := HN.out.1
        have hnb : b.length = n := HN.out.2
        have hne : a ≠ [] := List.length_pos_iff.1 (by omega)
        have hneb : b ≠ [] := List.length_pos_iff.1 (by omega)
        obtain ⟨ba, off, rfl, hba, hca⟩ := (HV2.out.1.below hbx).cell hne
        obtain ⟨bb, off', rfl, hbb, hcb⟩ := (HV2.out.2.1.below hbx).cell hneb
        obtain ⟨x, hx⟩ := some_get (l := a) (k := j) (by omega)
        obtain ⟨y, hy⟩ := some_get (l := b) (k := j) (by omega)
        have h1 := hca j x hx
        have h2 := hcb j y hy
        have HX := Lib.hid (And.intro hx hy)
        clear hca hcb hx hy hne hneb hna hnb e1
        by_cases hxy : x = y
        · subst hxy
          go_wp2_with fail
          go_quiet (fail)
          go_wp2_with fail
          go_quiet (fail)
          go_wp2_with fail
          go_roundw
          case rel => exact ⟨j, by omega, rfl, by first | exact below_drewN hbx _ | exact below_drewN (below_drewN hbx _) _, drop_eqq HX.out.1 HX.out.2 hdr.out⟩
          case measure => simp [intOf]
        · by_cases hlt : x < y
          · have hd : decide (x < y) = true := by simp; omega
            have hc : cmpN A B = -1 := by
              rw [← HL.out.1, ← HL.out.2.1, cmp_lt (lt_of_drop16 HV2.out.2.2.1 HX.out.1 HX.out.2 hdr.out hlt)]
            have HC := Lib.hid hc
            clear hc
            go_wp2_with fail
            go_quiet (fail)
            go_wp2_with fail
            go_ret
            exact ⟨by rw [HC.out]; rfl, HV2.out.2.2.2.2.trans ((below_drewN hbx _).mono HV2.out.2.2.2.2.size)⟩
          · have hgt : y < x := by omega
            have hd : decide (x < y) = false := by simp; omega
            have hd2 : decide (y < x) = true := by simp; omega
            have hc : cmpN A B = 1 := by
              rw [← HL.out.1, ← HL.out.2.1, cmp_gt (lt_of_drop16 HV2.out.2.2.2.1 HX.out.2 HX.out.1 hdr.out.symm hgt)]
            have HC := Lib.hid hc
            clear hc
            go_wp2_with fail
            go_quiet (fail)
            go_wp2_with fail
            go_quiet (fail)
            go_wp2_with fail
            go_ret
            exact ⟨by rw [HC.out]; rfl, by first | exact HV2.out.2.2.2.2.trans ((below_drewN hbx _).mono HV2.out.2.2.2.2.size) | exact HV2.out.2.2.2.2.trans ((below_drewN (below_drewN hbx _) _).mono HV2.out.2.2.2.2.size)⟩
  · have HC := Lib.hid (cmp_gt (HL.out.2.2.1 hl'))
    have h1 : ((a.length : Int) != (b.length : Int)) = true := by simp; omega
    have h2 : decide (a.length < b.length) = false := by simp; omega
    go_wp2_with fail
    go_ret
    exact ⟨by rw [HC.out]; try rfl, HV2.out.2.2.2.2⟩

/-- modulo 2^64 -/
def lowN (n : Nat) : Nat := n % 18446744073709551616
theorem low16 {n : Nat} : V16 ((D16 n).take 4) = lowN n := by
  have hv : V16 (D16 n) = n := V16_D16 n
  have h1 := valB_lt (B := 65536) (by omega) (okB_take (D16_ok n) 4)
  rcases Nat.lt_or_ge (D16 n).length 4 with h | h
  · rw [List.take_of_length_le (by omega)] at h1 ⊢
    have h2 : 65536 ^ (D16 n).length ≤ 65536 ^ 4 := Nat.pow_le_pow_right (by omega) (by omega)
    rw [show 65536 ^ 4 = 18446744073709551616 by decide] at h2
    change V16 (D16 n) < _ at h1
    rw [hv] at h1 ⊢
    unfold lowN
    omega
  · have hs := valB_split 65536 (D16 n) 4 h
    rw [List.length_take, Nat.min_eq_left h, show 65536 ^ 4 = 18446744073709551616 by decide] at h1
    rw [show 65536 ^ 4 = 18446744073709551616 by decide] at hs
    change V16 (D16 n) = V16 ((D16 n).take 4) + _ at hs
    change V16 ((D16 n).take 4) < _ at h1
    rw [hv] at hs
    unfold lowN
    omega
/-- x, read so far from the top digit down to place j of the lowest four -/
structure LowInv (n j x : Nat) : Prop where
  le : j ≤ 4
  val : x = V16 (((D16 n).take 4).drop j)
theorem LowInv.lt {n j x : Nat} (h : LowInv n j x) : x < 65536 ^ (4 - j) := by
  have h1 := valB_lt (B := 65536) (by omega) (okB_drop (okB_take (D16_ok n) 4) j)
  rw [h.val]
  refine Nat.lt_of_lt_of_le h1 (Nat.pow_le_pow_right (by omega) ?_)
  rw [List.length_drop, List.length_take]; omega
theorem LowInv.start (n : Nat) : LowInv n 4 0 := ⟨Nat.le_refl _, by rw [List.drop_of_length_le (by rw [List.length_take]; omega)]; rfl⟩
theorem LowInv.step {n j x y : Nat} (h : LowInv n (j + 1) x) (hy : (D16 n)[j]? = some y) : LowInv n j (x * 65536 + y) := by
  have hj := h.le
  refine ⟨by omega, ?_⟩
  have hy' : ((D16 n).take 4)[j]? = some y := by rw [List.getElem?_take, if_pos (by omega)]; exact hy
  have := valB_dropq 65536 hy'
  show _ = valB 65536 _
  rw [this, h.val]
  show V16 _ * 65536 + y = y + 65536 * V16 _
  omega
theorem LowInv.over {n j x : Nat} (h : LowInv n (j + 1) x) (hj : (D16 n).length ≤ j) : LowInv n j (x * 65536) := by
  have hle := h.le
  have e : x = 0 := by rw [h.val, List.drop_of_length_le (by rw [List.length_take]; omega)]; rfl
  refine ⟨by omega, ?_⟩
  rw [List.drop_of_length_le (by rw [List.length_take]; omega), e]; rfl
theorem LowInv.done {n x : Nat} (h : LowInv n 0 x) : x = lowN n := by rw [h.val, List.drop_zero, low16]

def LowRel (n : Nat) (w2 : World) (v4 v5 : Value) (wr : World) : Prop :=
  ∃ (j x : Nat), v5 = .int .i64 ((j : Int) - 1) ∧ v4 = .int .u64 (x : Int) ∧ LowInv n j x ∧ w2 = wr
set_option maxRecDepth 100000 in
set_option maxHeartbeats 2000000 in
theorem low_ref (p : Option Addr) (c : Nat) (l : List Nat) (w : World) (h : NatV w.heap.size w p c l) (hl : l.length ≤ 1048576) :
    Calls Tryd.prog 16 #[.slice p l.length c] w (Tells (.int .u64 (lowN (V32 l) : Int)) w) := by
  have HT := Lib.hid (half_any p c l w h hl)
  have hlen := half_len h.ok
  obtain ⟨n, hn⟩ : ∃ n, V32 l = n := ⟨_, rfl⟩
  rw [hn] at HT hlen ⊢
  clear h hn
  go_enter Tryd.func16, Tryd.ntmps16
  go_wp2_with fail
  refine HT.out.mono ?_
  rintro e w1 ⟨p1, c1, rfl, ho1, hb1⟩
  have HO := Lib.hid (And.intro ho1.toV hb1)
  clear ho1 hb1
  obtain ⟨a, ha⟩ : ∃ a, D16 n = a := ⟨_, rfl⟩
  rw [ha] at HO hlen ⊢
  have HA := Lib.hid ha
  clear ha
  go_wp2_with fail
  go_loopw [4, 5] (fun v4 v5 wr => LowRel n w1 v4 v5 wr) (fun _ v _ => (intOf v + 1).toNat)
  case atStart => exact ⟨4, 0, rfl, rfl, LowInv.start n, rfl⟩
  case round =>
    obtain ⟨j, x, rfl, rfl, hL, rfl⟩ := hrel
    have hj4 := hL.le
    have hx := hL.lt
    rcases Nat.eq_zero_or_pos j with rfl | hj0
    · have HL := Lib.hid hL.done
      clear hL hx
      go_wp2_with fail
      go_ret
      exact ⟨by rw [← HL.out]; rfl, HO.out.2⟩
    · obtain ⟨i, rfl⟩ : ∃ i, j = i + 1 := ⟨j - 1, by omega⟩
      have e1 : (((i + 1 : Nat) : Int) - 1) = (i : Int) := by omega
      rw [e1]
      have hx3 : x < 281474976710656 := by
        refine Nat.lt_of_lt_of_le hx ?_
        have : 65536 ^ (4 - (i + 1)) ≤ 65536 ^ 3 := Nat.pow_le_pow_right (by omega) (by omega)
        rw [show 65536 ^ 3 = 281474976710656 by decide] at this
        exact this
      by_cases hia : i < a.length
      · obtain ⟨y, hy⟩ := some_get hia
        obtain ⟨b, off, rfl, hbl, hc⟩ := HO.out.1.cell (by rintro rfl; simp at hia)
        have hcl := hc i y hy
        have hyl : y < 65536 := ok_get (by rw [← HA.out]; exact D16_ok n) hy
        have HS := Lib.hid (hL.step (by rw [HA.out]; exact hy))
        clear hc hy hx hL e1
        go_wp2_with fail
        go_roundw
        case rel => exact ⟨i, x * 65536 + y, rfl, by go_num, HS.out, rfl⟩
        case measure => simp [intOf]
      · have HS := Lib.hid (hL.over (by rw [HA.out]; omega))
        clear hx hL e1
        go_wp2_with fail
        go_roundw
        case rel => exact ⟨i, x * 65536, rfl, by go_num, HS.out, rfl⟩
        case measure => simp [intOf]
end Go.Proofs.YthhighljfjeooaaDoor
