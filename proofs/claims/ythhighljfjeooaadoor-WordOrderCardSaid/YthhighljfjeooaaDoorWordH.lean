/- Package word by its contracts, eighth part: Index, At. -/
import Derived.Test.YthhighljfjeooaaDoorWordG
import Derived.Test.YthhighljfjeooaaDoorNatK
namespace Go.Proofs.YthhighljfjeooaaDoor
open Go.RowKit Go.Extern.Stop Go.Stop Go.Extern WordM NatM

/-- a number and no error, both new -/
def NumOk (w : World) (n : Nat) (e : Ending) (w' : World) : Prop :=
  ∃ p c, e = .returned (.tuple #[.slice p (D32 n).length c, .nilIface]) ∧ NatO w.heap.size w' p c (D32 n) ∧ Below w.heap.size w w'
theorem valW_len {k : Nat} {l : List Int} (h4 : k ≤ 4) (h : okW k l) : (D32 (valW k l)).length ≤ l.length := by
  apply D32_len
  exact Nat.lt_of_lt_of_le (valW_lt h) (Nat.pow_le_pow_left (by omega) _)
theorem valW_take {k : Nat} {l : List Int} {j : Nat} {x : Int} (h : l[j]? = some x) : valW k (l.take (j + 1)) = valW k (l.take j) * k + x.toNat := by
  rw [List.take_add_one, h]
  exact valW_snoc k _ x
def IndexRel (w : World) (k : Nat) (l : List Int) (v8 v26 : Value) (wr : World) : Prop :=
  ∃ (j : Nat) (p : Option Addr) (c : Nat), j ≤ l.length ∧ v26 = .int .i64 (j : Int) ∧ v8 = .slice p (D32 (valW k (l.take j))).length c ∧ NatO w.heap.size wr p c (D32 (valW k (l.take j))) ∧ Below w.heap.size w wr
set_option maxRecDepth 100000 in
set_option maxHeartbeats 4000000 in
theorem index_ok (k : Nat) (p : Option Addr) (n c : Nat) (l : List Int) (w : World) (hn : n = l.length) (h : IntV w.heap.size w p c l) (hc : chkW k l = none) (h256 : n ≤ 256) :
    Calls Tryd.prog 34 #[.int .i64 (k : Int), .slice p n c] w (NumOk w (valW k l)) := by
  have hck := check_ok (k : Int) p n c l w hn h hc
  obtain ⟨k', hk', h1, h4, hl, ho⟩ := chkW_none hc
  obtain rfl : k = k' := by omega
  have hle := h.le
  have hcap := h.cap
  unfold maxLen at hcap
  have hnc : n ≤ c := by omega
  have H := Lib.hid (And.intro h (And.intro ho hn))
  have HCK := Lib.hid hck
  clear h hc hl ho hck hn hle hk'
  go_enter Tryd.func34, Tryd.ntmps34
  go_wp2_with fail
  refine HCK.out.mono ?_
  rintro e w1 ⟨rfl, hb1⟩
  have HB1 := Lib.hid hb1
  clear hb1
  go_wp2_with fail
  refine (from_any k w1 (by omega)).mono ?_
  rintro e w2 ⟨p7, c7, rfl, ho7, hb2⟩
  have hkl : (D32 k).length ≤ 100000 := by
    have := D32_len (n := k) (k := 1) (by omega)
    omega
  have HB2 := Lib.hid (And.intro (HB1.out.trans (hb2.mono HB1.out.size)) (And.intro ho7.toV hkl))
  clear hb2 ho7 hkl
  go_wp2_with fail
  go_loopw [8, 26] (fun v8 v26 wr => IndexRel w2 k l v8 v26 wr) (fun _ v _ => n - (intOf v).toNat)
  case atStart => exact ⟨0, none, 0, Nat.zero_le _, rfl, by rw [List.take_zero, show valW k [] = 0 from rfl, D32_nil.2 rfl]; rfl, by rw [List.take_zero, show valW k [] = 0 from rfl, D32_nil.2 rfl]; exact NatO.nothing _ _, Below.refl _ _⟩
  case round =>
    obtain ⟨j, q, cq, hj, rfl, rfl, hoq, hb⟩ := hrel
    have hjn : j ≤ n := by have := H.out.2.2; omega
    by_cases hlt : j < n
    · have hnl := H.out.2.2
      obtain ⟨b, off, rfl, hbb, hcc⟩ := ((H.out.1.next HB2.out.1).next hb).cell (by rintro rfl; simp at hnl; omega)
      obtain ⟨x, hx⟩ := getI (l := l) (k := j) (by omega)
      have hcx := hcc j x hx
      have hxo := H.out.2.1 x (List.mem_of_getElem? hx)
      obtain ⟨y, rfl⟩ : ∃ y : Nat, x = (y : Int) := ⟨x.toNat, by omega⟩
      have hst := valW_take (k := k) hx
      rw [Int.toNat_natCast] at hst
      have hvl := valW_len h4 (okW_take H.out.2.1 j)
      have hvl2 := valW_len h4 (okW_take H.out.2.1 (j + 1))
      rw [List.length_take] at hvl hvl2
      obtain ⟨v, hv⟩ : ∃ v, valW k (l.take j) = v := ⟨_, rfl⟩
      rw [hv] at hoq hst hvl ⊢
      have hmul := mul_any q p7 cq c7 (D32 v) (D32 k) wr hoq.toV (HB2.out.2.1.next hb) (by omega) HB2.out.2.2
      rw [V32_D32, V32_D32] at hmul
      have hy4 : y ≤ 4 := by omega
      have hvm : (D32 (v * k)).length ≤ 100000 := by
        have h1 : v * k ≤ v * k + y := Nat.le_add_right _ _
        rw [hst] at hvl2
        rcases Nat.lt_or_ge 100000 (D32 (v * k)).length with h2 | h2
        · have := cmp_len (m := v * k + y) (n := v * k) (by omega)
          omega
        · exact h2
      have HS := Lib.hid (And.intro hst (And.intro hb (And.intro hmul hvm)))
      clear hcc hx hxo hst hvl hvl2 hv hoq hb hmul hvm hnl
      go_wp2_with fail
      refine HS.out.2.2.1.mono ?_
      rintro e w3 ⟨p3, c3, rfl, ho3, hb3⟩
      have HM := Lib.hid (And.intro ho3 hb3)
      clear ho3 hb3
      go_wp2_with fail
      refine (from_any y w3 (by omega)).mono ?_
      rintro e w4 ⟨p4, c4, rfl, ho4, hb4⟩
      have hyl : (D32 y).length ≤ 100000 := by
        have := D32_len (n := y) (k := 1) (by omega)
        omega
      have hadd := add_any p3 p4 c3 c4 (D32 (v * k)) (D32 y) w4 (HM.out.1.toV.next hb4) ho4.toV HS.out.2.2.2 hyl
      rw [V32_D32, V32_D32] at hadd
      have HA := Lib.hid (And.intro hadd (HM.out.2.trans (hb4.mono HM.out.2.size)))
      clear ho4 hb4 hyl hadd
      go_wp2_with fail
      refine HA.out.1.mono ?_
      rintro e w5 ⟨p5, c5, rfl, ho5, hb5⟩
      have hbb5 : Below w2.heap.size w2 w5 := HS.out.2.1.trans ((HA.out.2.trans (hb5.mono HA.out.2.size)).mono HS.out.2.1.size)
      have ho5' : NatO w2.heap.size w5 p5 c5 (D32 (v * k + y)) := ho5.base (Nat.le_trans HS.out.2.1.size HA.out.2.size)
      have HF := Lib.hid (And.intro ho5' hbb5)
      clear ho5 ho5' hb5 hbb5
      go_wp2_with fail
      go_roundw
      case rel => exact ⟨j + 1, p5, c5, by have := H.out.2.2; omega, by go_num, by rw [HS.out.1], by rw [HS.out.1]; exact HF.out.1, HF.out.2⟩
      case measure => simp [intOf]; omega
    · obtain rfl : j = n := by omega
      have he : l.take j = l := by rw [H.out.2.2, List.take_length]
      rw [he] at hoq ⊢
      have HF := Lib.hid (And.intro (hoq.base HB2.out.1.size) (HB2.out.1.trans (hb.mono HB2.out.1.size)))
      clear hoq hb he
      go_wp2_with fail
      go_ret2
      exact ⟨q, cq, rfl, HF.out.1, HF.out.2⟩
set_option maxRecDepth 100000 in
theorem index_bad (k : Int) (p : Option Addr) (n c : Nat) (l : List Int) (w : World) (A : Nat → Addr) (hr : Roots w A) (hn : n = l.length) (h : IntV w.heap.size w p c l) (i m : Nat) (hc : chkW k l = some (i, m)) :
    Calls Tryd.prog 34 #[.int .i64 k, .slice p n c] w (Err2 w A wordOp i m (.slice none 0 0)) := by
  have hck := check_bad k p n c l w A hr hn h i m hc
  have HCK := Lib.hid hck
  clear h hc hck hr hn
  go_enter Tryd.func34, Tryd.ntmps34
  go_wp2_with fail
  refine HCK.out.mono ?_
  rintro e w1 ⟨b, rfl, hl1, hb1⟩
  have H := Lib.hid (And.intro hl1 hb1)
  clear hl1 hb1
  go_wp2_with fail
  go_ret2
  exact ⟨_, rfl, H.out.1, H.out.2⟩
set_option maxRecDepth 100000 in
theorem index_big (k : Int) (p : Option Addr) (n c : Nat) (l : List Int) (w : World) (A : Nat → Addr) (hr : Roots w A) (hn : n = l.length) (h : IntV w.heap.size w p c l) (hc : chkW k l = none) (h256 : 256 < n) (hn2 : n ≤ 9223372036854775807) :
    Calls Tryd.prog 34 #[.int .i64 k, .slice p n c] w (Err2 w A wordOp 0 4 (.slice none 0 0)) := by
  have hck := check_ok k p n c l w hn h hc
  have HCK := Lib.hid (And.intro hck hr)
  clear h hc hck hr hn
  go_enter Tryd.func34, Tryd.ntmps34
  go_wp2_with fail
  refine HCK.out.1.mono ?_
  rintro e w1 ⟨rfl, hb1⟩
  have H1 := Lib.hid (And.intro hb1 (HCK.out.2.below hb1))
  clear hb1
  go_wp2_with fail
  refine (new_at wordOp 0 4 w1 A H1.out.2 (by omega)).mono ?_
  rintro e w2 ⟨b, rfl, hl1, hb2⟩
  have H := Lib.hid (And.intro hl1 (H1.out.1.trans (hb2.mono H1.out.1.size)))
  clear hl1 hb2
  go_wp2_with fail
  go_ret2
  exact ⟨_, rfl, H.out.1, H.out.2⟩
end Go.Proofs.YthhighljfjeooaaDoor
