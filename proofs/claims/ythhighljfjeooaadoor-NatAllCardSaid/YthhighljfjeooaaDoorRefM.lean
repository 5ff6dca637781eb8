/- Bits of edenref02, Low of package nat. -/
import Derived.Test.YthhighljfjeooaaDoorRefC
import Derived.Laws.Bits64b
namespace Go.Proofs.YthhighljfjeooaaDoor
open Go.RowKit NatM

def BitsRel (w1 : World) (T : Nat) (v4 v5 : Value) (wr : World) : Prop :=
  ∃ (n x : Nat), v4 = .int .i64 (n : Int) ∧ v5 = .int .u32 (x : Int) ∧ x < 65536 ∧ n ≤ T ∧ n + (digs 2 x).length = T ∧ w1 = wr
set_option maxRecDepth 100000 in
set_option maxHeartbeats 2000000 in
theorem bits_ref (p : Option Addr) (c : Nat) (l : List Nat) (w : World) (h : NatV w.heap.size w p c l) (hl : l.length ≤ 1048576) :
    Calls Tryd.prog 22 #[.slice p l.length c] w (Tells (.int .i64 (bits2 (V32 l) : Int)) w) := by
  have HT := Lib.hid (half_any p c l w h hl)
  have hlen := half_len h.ok
  obtain ⟨n, hn⟩ : ∃ n, V32 l = n := ⟨_, rfl⟩
  rw [hn] at HT hlen ⊢
  clear h hn
  go_enter Tryd.func22, Tryd.ntmps22
  go_wp2_with fail
  refine HT.out.mono ?_
  rintro e w1 ⟨p1, c1, rfl, ho1, hb1⟩
  have HO := Lib.hid (And.intro ho1.toV (And.intro hb1 (And.intro (D16_ok n) (And.intro (D16_nrm n) (V16_D16 n)))))
  clear ho1 hb1
  obtain ⟨a, ha⟩ : ∃ a, D16 n = a := ⟨_, rfl⟩
  rw [ha] at HO hlen ⊢
  clear ha
  rcases Nat.eq_zero_or_pos a.length with h0 | h0
  · have hn0 : n = 0 := by
      have := HO.out.2.2.2.2
      rw [List.eq_nil_of_length_eq_zero h0] at this
      exact this.symm
    have hb0 : bits2 0 = 0 := by unfold bits2; rw [digs_zero]; rfl
    have HN := Lib.hid (And.intro hn0 hb0)
    rw [h0]
    clear hn0 hb0 h0
    go_wp2_with fail
    go_ret
    exact ⟨by rw [HN.out.1, HN.out.2]; rfl, HO.out.2.1⟩
  · obtain ⟨b, off, rfl, hb, hc⟩ := HO.out.1.cell (List.length_pos_iff.1 h0)
    obtain ⟨x, hx⟩ := some_get (l := a) (k := a.length - 1) (by omega)
    have hcx := hc (a.length - 1) x hx
    have hxl : x < 65536 := ok_get HO.out.2.2.1 hx
    have htop : bits2 n = 16 * (a.length - 1) + (digs 2 x).length := by
      unfold bits2
      rw [← HO.out.2.2.2.2]
      exact len2_top 16 HO.out.2.2.1 HO.out.2.2.2.1 hx
    have hne : ((a.length : Int) == 0) = false := by rw [beq_eq_false_iff_ne]; omega
    have hbl : (digs 2 x).length ≤ 16 := digs_length_le (by omega) hxl
    obtain ⟨T, hT⟩ : ∃ T, bits2 n = T := ⟨_, rfl⟩
    rw [hT] at htop
    have HTT := Lib.hid hT
    obtain ⟨j, hj⟩ : ∃ j, a.length - 1 = j := ⟨_, rfl⟩
    rw [hj] at hcx htop
    have hj1 : (a.length : Int) - 1 = (j : Int) := by omega
    have hjl : j < a.length := by omega
    have hTl : T ≤ 40000000 := by omega
    have HJ := Lib.hid (And.intro htop hbl)
    clear hc hx htop hbl hT
    go_wp2_with fail
    go_loopw [4, 5] (fun v4 v5 wr => BitsRel w1 T v4 v5 wr) (fun _ v _ => (intOf v).toNat)
    case atStart => exact ⟨16 * j, x, by go_num, rfl, hxl, by have := HJ.out.1; omega, HJ.out.1.symm, rfl⟩
    case round =>
      obtain ⟨m, y, rfl, rfl, hyl, hmT, hm, rfl⟩ := hrel
      rcases Nat.eq_zero_or_pos y with rfl | hy0
      · have hm0 : m = T := by rw [digs_zero] at hm; simpa using hm
        have HM := Lib.hid hm0
        clear hm hm0
        go_wp2_with fail
        go_ret
        exact ⟨by rw [HTT.out, ← HM.out]; rfl, HO.out.2.1⟩
      · have hs := len2_succ hy0
        have hmT2 : m + 1 ≤ T := by omega
        have HS := Lib.hid (show m + 1 + (digs 2 (y / 2)).length = T by omega)
        clear hm hs
        go_wp2_with fail
        go_roundw
        case rel => exact ⟨m + 1, y / 2, by go_num, by go_num, by omega, hmT2, HS.out, rfl⟩
        case measure => simp [intOf]; omega

theorem low_val : ∀ l : List Nat, ok32 l → lowN (V32 l) = V32 (l.take (min l.length 2))
  | [], _ => rfl
  | [x], h => by
    have := okB_head h
    simp [lowN, V32, valB]; omega
  | x :: y :: r, h => by
    have h1 := okB_head h
    have h2 := okB_head (okB_tail h)
    rw [show min (x :: y :: r).length 2 = 2 by simp]
    show (x + 4294967296 * (y + 4294967296 * valB 4294967296 r)) % 18446744073709551616 = x + 4294967296 * (y + 4294967296 * 0)
    omega
def LowAnyRel (w : World) (l : List Nat) (m : Nat) (v3 v8 : Value) (wr : World) : Prop :=
  ∃ (i a : Nat), i ≤ m ∧ v3 = .int .u64 (a : Int) ∧ v8 = .int .i64 (i : Int) ∧ V32 (l.take i) = a ∧ w = wr
set_option maxRecDepth 100000 in
set_option maxHeartbeats 2000000 in
theorem low_any (p : Option Addr) (c : Nat) (l : List Nat) (w : World) (h : NatV w.heap.size w p c l) :
    Calls Tryd.prog 15 #[.slice p l.length c] w (Tells (.int .u64 (lowN (V32 l) : Int)) w) := by
  have hv := low_val l h.ok
  have hle := h.le
  obtain ⟨m, hm⟩ : ∃ m, min l.length 2 = m := ⟨_, rfl⟩
  rw [hm] at hv
  have hmin : min (l.length : Int) 2 = (m : Int) := by omega
  have hml : m ≤ l.length := by omega
  have hm2 : m ≤ 2 := by omega
  have HV := Lib.hid (And.intro hv h)
  clear h hv hm
  go_enter Tryd.func15, Tryd.ntmps15
  go_wp2_with fail
  have HMN := Lib.hid hmin
  clear hmin
  go_loopw [3, 8] (fun v3 v8 wr => LowAnyRel w l m v3 v8 wr) (fun _ v _ => m - (intOf v).toNat)
  case atStart => exact ⟨0, 0, Nat.zero_le _, rfl, rfl, rfl, rfl⟩
  case round =>
    obtain ⟨i, a, hi, rfl, rfl, hva, rfl⟩ := hrel
    by_cases hlt : i < m
    · obtain ⟨x, hx⟩ := some_get (l := l) (k := i) (by omega)
      obtain ⟨b, off, rfl, hb, hc⟩ := HV.out.2.cell (List.length_pos_iff.1 (by omega))
      have hcx := hc i x hx
      have hxl : x < 4294967296 := ok_get HV.out.2.ok hx
      have hst := valB_takeq 4294967296 hx
      have hal := V32_lt (okB_take HV.out.2.ok i)
      rw [hva] at hal
      have hil : i < l.length := by omega
      rcases (show i = 0 ∨ i = 1 by omega) with rfl | rfl
      · have ha0 : a = 0 := by simpa using hal
        subst ha0
        have HS := Lib.hid (And.intro hst hva)
        rw [Nat.add_zero] at hcx
        clear hc hx hst hva hal
        rw [show (((0 : Nat)) : Int) = 0 from rfl]
        go_wp2_with fail
        have e := bits_or_u64_nat 0 x (by omega) (by omega)
        rw [Nat.zero_or] at e
        go_roundw
        case rel => exact ⟨1, x, by omega, by rw [show (0 : Int) = ((0 : Nat) : Int) from rfl, e], rfl, by have h1 := HS.out.1; have h2 := HS.out.2; unfold V32 at *; rw [h1, h2]; simp, rfl⟩
        case measure => simp [intOf]; omega
      · have ha1 : a < 4294967296 := by
          have : (l.take 1).length ≤ 1 := by rw [List.length_take]; omega
          have := Nat.pow_le_pow_right (n := 4294967296) (by omega) this
          omega
        have HS := Lib.hid (And.intro hst hva)
        clear hc hx hst hva hal
        rw [show (((1 : Nat)) : Int) = 1 from rfl]
        go_wp2_with fail
        have e := bits_or_u64_nat a (x * 4294967296) (by omega) (by omega)
        have e2 : a ||| (x * 4294967296) = x * 4294967296 + a := by
          have := Nat.two_pow_add_eq_or_of_lt (i := 32) (b := a) (by omega) x
          rw [Nat.mul_comm] at this
          rw [Nat.or_comm]; exact this.symm
        rw [e2] at e
        go_roundw
        case rel => exact ⟨2, x * 4294967296 + a, by omega, by rw [← e, Int.natCast_mul]; rfl, rfl, by have h1 := HS.out.1; have h2 := HS.out.2; unfold V32 at *; rw [h1, h2]; omega, rfl⟩
        case measure => simp [intOf]; omega
    · obtain rfl : i = m := by omega
      have HE := Lib.hid hva
      clear hva
      go_wp2_with fail
      go_ret
      exact ⟨by rw [HV.out.1, HE.out]; rfl, Below.refl _ _⟩
end Go.Proofs.YthhighljfjeooaaDoor
