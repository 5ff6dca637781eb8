/- Package nat by its contracts, eighth part: Sub32, Sub, Over, From, Pow. -/
import Derived.Test.YthhighljfjeooaaDoorNatG
import Derived.Test.YthhighljfjeooaaDoorNatW
namespace Go.Proofs.YthhighljfjeooaaDoor
open Go.RowKit Go.Extern.Stop Go.Stop Go.Extern NatM

/-- the borrow of a limb less a limb -/
def bor (x y c : Nat) : Nat := if x < y + c then 1 else 0
theorem bor_le (x y c : Nat) : bor x y c ≤ 1 := by unfold bor; split <;> omega
theorem xor_max {x : Nat} (hx : x < 4294967296) : 4294967295 ^^^ x = 4294967295 - x := by
  apply Nat.eq_of_testBit_eq
  intro i
  have h := Nat.testBit_two_pow_sub_succ (n := 32) hx i
  rw [show 2 ^ 32 - (x + 1) = 4294967295 - x by omega] at h
  rw [h, Nat.testBit_xor, show (4294967295 : Nat) = 2 ^ 32 - 1 by decide, Nat.testBit_two_pow_sub_one]
  by_cases hi : i < 32
  · simp [hi]
  · have : Nat.testBit x i = false := Nat.testBit_lt_two_pow (Nat.lt_of_lt_of_le hx (by
      have : 2 ^ 32 ≤ 2 ^ i := Nat.pow_le_pow_right (by omega) (by omega)
      omega))
    simp [hi, this]
theorem not_u32 (x : Nat) (hx : x < 4294967296) : bits .xor .u32 IntKind.u32.max (x : Int) = ((4294967295 - x : Nat) : Int) := by
  have h := u32_xor_nat 4294967295 x (by omega) hx
  rw [xor_max hx] at h
  exact h
theorem ret_u32s {a b a' b' : Int} (h : a = a') (h' : b = b') : Ending.returned (.tuple #[.int .u32 a, .int .u32 b]) = Ending.returned (.tuple #[.int .u32 a', .int .u32 b']) := by rw [h, h']
theorem sub32_any (x y c : Nat) (w : World) (hx : x < 4294967296) (hy : y < 4294967296) (hc : c ≤ 1) :
    Calls Tryd.prog 84 #[.int .u32 (x : Int), .int .u32 (y : Int), .int .u32 (c : Int)] w fun e w' => e = .returned (.tuple #[.int .u32 (((x + 8589934592 - y - c) % 4294967296 : Nat) : Int), .int .u32 (bor x y c : Int)]) ∧ w = w' := by
  have hd : ((x : Int) - (y : Int) - (c : Int)) % 4294967296 = (((x + 8589934592 - y - c) % 4294967296 : Nat) : Int) := by omega
  have hdl : (x + 8589934592 - y - c) % 4294967296 < 4294967296 := Nat.mod_lt _ (by omega)
  have hb := sub_borrow hx hy hc rfl
  have hxy : x ^^^ y < 2 ^ 32 := Nat.xor_lt_two_pow hx hy
  have h1 : (4294967295 - x) &&& y < 2 ^ 32 := Nat.and_lt_two_pow _ hy
  have h2 : (4294967295 - (x ^^^ y)) &&& ((x + 8589934592 - y - c) % 4294967296) < 2 ^ 32 := Nat.and_lt_two_pow _ hdl
  have HH : bits .or .u32 (bits .and .u32 (bits .xor .u32 IntKind.u32.max (x : Int)) (y : Int)) (bits .and .u32 (bits .xor .u32 IntKind.u32.max (bits .xor .u32 (x : Int) (y : Int))) (((x : Int) - (y : Int) - (c : Int)) % 4294967296)) / 2147483648 = (bor x y c : Int) := by
    rw [hd, not_u32 x hx, u32_and_nat _ _ (by omega) hy, u32_xor_nat _ _ hx hy, not_u32 _ hxy, u32_and_nat _ _ (by omega) hdl, u32_or_nat _ _ h1 h2]
    unfold bor
    rw [← hb]
    rfl
  have HD := Lib.hid (And.intro hd HH)
  clear hd hdl hb hxy h1 h2 HH
  go_enter Tryd.func84, Tryd.ntmps84
  go_wp2_with fail
  go_ret2
  exact ⟨ret_u32s HD.out.1 HD.out.2, rfl⟩
theorem sub32_zero (x c : Nat) (w : World) (hx : x < 4294967296) (hc : c ≤ 1) :
    Calls Tryd.prog 84 #[.int .u32 (x : Int), .int .u32 0, .int .u32 (c : Int)] w fun e w' => e = .returned (.tuple #[.int .u32 (((x + 8589934592 - 0 - c) % 4294967296 : Nat) : Int), .int .u32 (bor x 0 c : Int)]) ∧ w = w' :=
  sub32_any x 0 c w hx (by omega) hc
theorem bor_eq {x y c : Nat} (hx : x < 4294967296) (hy : y < 4294967296) (hc : c ≤ 1) : (x + 8589934592 - y - c) % 4294967296 + y + c = x + 4294967296 * bor x y c := by
  unfold bor
  split <;> omega

def DI (a m : List Nat) (k c : Nat) (t : List Nat) : Prop := DInv 4294967296 a m k c t
def SubRel (w : World) (p : Option Addr) (cap : Nat) (a m : List Nat) (gk : Nat) (v7 v8 : Value) (wr : World) : Prop :=
  ∃ (k c : Nat) (t : List Nat), k ≤ a.length ∧ v7 = .int .u32 (c : Int) ∧ v8 = .int .i64 (k : Int) ∧ DI a m k c t ∧ NatO w.heap.size wr p cap t ∧ Below w.heap.size w wr ∧ a.length - k ≤ gk

set_option maxRecDepth 100000 in
set_option maxHeartbeats 4000000 in
theorem sub_less (p q : Option Addr) (c d : Nat) (l m : List Nat) (w : World) (A : Nat → Addr) (hr : Roots w A) (h : NatV w.heap.size w p c l) (k : NatV w.heap.size w q d m) (hlt : V32 l < V32 m) :
    Calls Tryd.prog 53 #[.slice p l.length c, .slice q m.length d] w (ErrPost w A 0 3) := by
  have hC := cmp_any p q c d l m w h k
  have hcv : cmpV l m = .int .i64 (-1) := by unfold cmpV; rw [cmp_lt hlt]
  rw [hcv] at hC
  have HR := Lib.hid hr
  clear hr h k hlt hcv
  go_enter Tryd.func53, Tryd.ntmps53
  go_wp2_with fail
  refine hC.mono ?_
  clear hC
  rintro e w1 ⟨rfl, hb1⟩
  go_wp2_with fail
  refine (new_err 0 3 _ A (HR.out.below hb1) (by omega)).mono ?_
  rintro e w2 ⟨rfl, hb2, hl2⟩
  have H := Lib.hid (And.intro hl2 (hb1.trans (hb2.mono hb1.size)))
  clear hl2 hb1 hb2
  go_wp2_with fail
  go_ret2
  exact ⟨_, rfl, H.out.1, H.out.2⟩
set_option maxRecDepth 100000 in
set_option maxHeartbeats 4000000 in
theorem sub_any (p q : Option Addr) (c d : Nat) (l m : List Nat) (w : World) (h : NatV w.heap.size w p c l) (k : NatV w.heap.size w q d m) (hle : V32 m ≤ V32 l) (hl : l.length ≤ 100000) :
    Calls Tryd.prog 53 #[.slice p l.length c, .slice q m.length d] w (OkPost w (V32 l - V32 m)) := by
  have hC := cmp_any p q c d l m w h k
  have hcv : ∃ r : Int, 0 ≤ r ∧ cmpV l m = .int .i64 r := by
    unfold cmpV
    rcases Nat.lt_or_ge (V32 m) (V32 l) with h1 | h1
    · exact ⟨1, by omega, by rw [cmp_gt h1]⟩
    · exact ⟨0, by omega, by rw [show V32 l = V32 m by omega, cmp_eq]⟩
  obtain ⟨r, hr0, hcv⟩ := hcv
  rw [hcv] at hC
  have H := Lib.hid (And.intro h k)
  have HT := Lib.hid (And.intro h.trim k.trim)
  have hal : (D32 (V32 l)).length ≤ 100000 := Nat.le_trans (D32_le h.ok) hl
  have hbd : (D32 (V32 m)).length ≤ d := k.trim.le
  have HLE := Lib.hid hle
  clear h k hcv hle
  go_enter Tryd.func53, Tryd.ntmps53
  go_wp2_with fail
  refine hC.mono ?_
  clear hC
  rintro e w1 ⟨rfl, hb1⟩
  have HB1 := Lib.hid hb1
  clear hb1
  go_wp2_with fail
  refine (trim_any q d m _ (H.out.2.next HB1.out)).mono ?_
  rintro e w' ⟨rfl, rfl⟩
  go_wp2_with fail
  refine (trim_any p c l _ (H.out.1.next HB1.out)).mono ?_
  rintro e w' ⟨rfl, rfl⟩
  go_wp2_with fail
  refine (clone_any p c (D32 (V32 l)) _ (HT.out.1.next HB1.out) (by omega)).mono ?_
  rintro e w2 ⟨p2, c2, rfl, ho, hb2⟩
  obtain ⟨a, ha⟩ : ∃ a, D32 (V32 l) = a := ⟨_, rfl⟩
  obtain ⟨b, hb⟩ : ∃ b, D32 (V32 m) = b := ⟨_, rfl⟩
  have hva : V32 a = V32 l := by rw [← ha, V32_D32]
  have hvb : V32 b = V32 m := by rw [← hb, V32_D32]
  have hbn : nrm b := by rw [← hb]; exact D32_nrm _
  have hmv : NatV w.heap.size w q d b := by rw [← hb]; exact HT.out.2
  rw [ha] at ho hal ⊢
  rw [hb] at hbd ⊢
  have HA := Lib.hid (And.intro ho.ok (And.intro hbn (And.intro hmv (And.intro hva hvb))))
  have HO := Lib.hid (And.intro (ho.base HB1.out.size) (HB1.out.trans (hb2.mono HB1.out.size)))
  clear ho hb2 hva hvb hbn hmv ha hb
  go_wp2_with fail
  go_loopg [7, 8] a.length (fun gk v7 v8 wr => SubRel w p2 c2 a b gk v7 v8 wr)
  case atStart => exact ⟨0, 0, a, Nat.zero_le _, rfl, rfl, DInv.start HA.out.1, HO.out.1, HO.out.2, by omega⟩
  case round =>
    obtain ⟨k, c, t, hk, rfl, rfl, hD, ho, hb, hgk⟩ := hrel
    have hc1 : c ≤ 1 := hD.car
    have htl : t.length = a.length := hD.len
    have HR := Lib.hid (And.intro hD (And.intro ho (And.intro hb htl)))
    by_cases hgo : k < b.length ∨ c ≠ 0
    · have hka : k < a.length := DInv.long (B := 4294967296) (by omega) HA.out.1 HA.out.2.1 (by have h1 := HA.out.2.2.2.1; have h2 := HA.out.2.2.2.2; have := HLE.out; unfold V32 at *; omega) hD hgo
      obtain ⟨x, hx⟩ := some_get (l := a) (k := k) hka
      have hxt : t[k]? = some x := (get_of_drop hD.rest).trans hx
      have hxl : x < 4294967296 := ok_get HA.out.1 hx
      have hyl : limbAt b k < 4294967296 := limb_lt (by omega) HA.out.2.2.1.ok k
      have hst := hD.step hx (Nat.mod_lt (x + 8589934592 - limbAt b k - c) (by omega)) (bor_le x (limbAt b k) c) (bor_eq hxl hyl hc1)
      have hbo := bor_le x (limbAt b k) c
      obtain ⟨y, hy⟩ : ∃ y, limbAt b k = y := ⟨_, rfl⟩
      rw [hy] at hst hyl hbo
      have HY := Lib.hid hy
      obtain ⟨g, rfl, hg, hgl, hcells, hfrz⟩ := ho.shape (by omega)
      have hcx := hcells k x hxt
      have hfx := hfrz k
      have hos := NatO.store ho k ((x + 8589934592 - y - c) % 4294967296) (Nat.mod_lt _ (by omega))
      have HS := Lib.hid (And.intro hst (And.intro hos (hb.setCell (p := ⟨g, k, none⟩) hg (.int .u32 (((x + 8589934592 - y - c) % 4294967296 : Nat) : Int)))))
      clear hst hos hcells hfrz hx hxt hy hD ho hb htl
      by_cases hkb : k < b.length
      · obtain ⟨bm, off, rfl, hbm, hcm⟩ := (HA.out.2.2.1.below HR.out.2.2.1).cell (List.length_pos_iff.1 (by omega))
        have hcy : wr.cell? ⟨bm, off + k, none⟩ = some (.int .u32 (y : Int)) := by
          obtain ⟨y', hy'⟩ := some_get hkb
          rw [← HY.out, limb_some hy']
          exact hcm k y' hy'
        clear hcm hgo
        go_wp2_with (go_at_call 84; refine (sub32_any x y c _ hxl hyl hc1).mono ?_; rintro e w' ⟨rfl, rfl⟩)
        go_roundg (a.length - (k + 1))
        case rel => exact ⟨k + 1, bor x y c, t.set k ((x + 8589934592 - y - c) % 4294967296), by omega, rfl, by go_num, HS.out.1, HS.out.2.1, HS.out.2.2, Nat.le_refl _⟩
        case measure => omega
      · have hc0 : ((c : Int) != 0) = true := by rw [bne_iff_ne]; omega
        have hy0 : y = 0 := by rw [← HY.out, limb_none (by omega)]
        subst hy0
        clear hgo
        go_wp2_with (go_at_call 84; refine (sub32_zero x c _ hxl hc1).mono ?_; rintro e w' ⟨rfl, rfl⟩)
        go_roundg (a.length - (k + 1))
        case rel => exact ⟨k + 1, bor x 0 c, t.set k ((x + 8589934592 - 0 - c) % 4294967296), by omega, rfl, by go_num, HS.out.1, HS.out.2.1, HS.out.2.2, Nat.le_refl _⟩
        case measure => omega
    · have hc0 : c = 0 := by omega
      have hkb : b.length ≤ k := by omega
      subst hc0
      have hv : V32 t = V32 l - V32 m := by
        have h1 := (hD.done hkb hk).1
        rw [← HA.out.2.2.2.1, ← HA.out.2.2.2.2]
        exact h1
      have ht := trim_any _ _ t wr ho.toV
      have hot := ho.trim
      rw [hv] at ht hot
      rw [htl] at ht
      have HT2 := Lib.hid (And.intro ht hot)
      clear hD ho hb hgo ht hot hv htl
      go_wp2_with fail
      refine HT2.out.1.mono ?_
      rintro e w' ⟨rfl, rfl⟩
      go_wp2_with fail
      go_ret2
      exact ⟨_, _, rfl, HT2.out.2, HR.out.2.2.1⟩
end Go.Proofs.YthhighljfjeooaaDoor
