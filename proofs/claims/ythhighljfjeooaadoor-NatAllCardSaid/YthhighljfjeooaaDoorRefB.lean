/- The document's own package of numbers by its contracts, second part: Norm, Fits, From, Low, Cmp. -/
import Derived.Test.YthhighljfjeooaaDoorRefA
import Derived.Test.YthhighljfjeooaaDoorNatK
namespace Go.Proofs.YthhighljfjeooaaDoor
open Go.RowKit NatM

theorem half_len {l : List Nat} (h : ok32 l) : (D16 (V32 l)).length ≤ 2 * l.length := by
  have e : V16 (half l) = V32 l := half_val l
  have := D16_le (half_ok h)
  rw [e, half_length] at this
  exact this
theorem digs_le_iff {B : Nat} (hB : 2 ≤ B) (n k : Nat) : (digs B n).length ≤ k ↔ n < B ^ k := by
  constructor
  · intro h
    have h1 := valB_lt (B := B) (by omega) (digs_ok hB n)
    rw [valB_digs hB] at h1
    exact Nat.lt_of_lt_of_le h1 (Nat.pow_le_pow_right (by omega) h)
  · exact digs_length_le hB

set_option maxRecDepth 100000 in
set_option maxHeartbeats 1000000 in
theorem norm_any (p : Option Addr) (c : Nat) (l : List Nat) (w : World) (h : NatV w.heap.size w p c l) (hl : l.length ≤ 1048576) :
    Calls Tryd.prog 89 #[.slice p l.length c] w (NatPost w (V32 l)) := by
  have HT := Lib.hid (half_any p c l w h hl)
  have hlen := half_len h.ok
  obtain ⟨n, hn⟩ : ∃ n, V32 l = n := ⟨_, rfl⟩
  rw [hn] at HT hlen ⊢
  clear h hn
  go_enter Tryd.func89, Tryd.ntmps89
  go_wp2_with fail
  refine HT.out.mono ?_
  rintro e w1 ⟨p1, c1, rfl, ho1, hb1⟩
  have HO := Lib.hid (And.intro ho1 hb1)
  have hw := whole_any p1 c1 (D16 n) w1 ho1.toV (D16_ok n) (by omega)
  rw [V16_D16] at hw
  clear ho1 hb1
  go_wp2_with fail
  refine hw.mono ?_
  rintro e w2 ⟨p2, c2, rfl, ho2, hb2⟩
  have HW := Lib.hid (And.intro ho2 hb2)
  clear hw ho2 hb2
  go_wp2_with fail
  go_ret
  exact ⟨p2, c2, rfl, HW.out.1.base HO.out.2.size, HO.out.2.trans (HW.out.2.mono HO.out.2.size)⟩

/-- is the number less than 2^64? -/
def fitsB (n : Nat) : Bool := decide (n < 18446744073709551616)
set_option maxRecDepth 100000 in
set_option maxHeartbeats 1000000 in
theorem fits_ref (p : Option Addr) (c : Nat) (l : List Nat) (w : World) (h : NatV w.heap.size w p c l) (hl : l.length ≤ 1048576) :
    Calls Tryd.prog 18 #[.slice p l.length c] w (Tells (.bool (fitsB (V32 l))) w) := by
  have HT := Lib.hid (half_any p c l w h hl)
  obtain ⟨n, hn⟩ : ∃ n, V32 l = n := ⟨_, rfl⟩
  rw [hn] at HT ⊢
  have hf : decide ((((D16 n).length : Nat) : Int) ≤ 4) = fitsB n := by
    have := digs_le_iff (B := 65536) (by omega) n 4
    rw [show 65536 ^ 4 = 18446744073709551616 by decide] at this
    unfold fitsB
    rw [decide_eq_decide]
    rw [← this]
    show ((((D16 n).length : Nat) : Int) ≤ 4) ↔ (D16 n).length ≤ 4
    omega
  obtain ⟨k, hk⟩ : ∃ k, (D16 n).length = k := ⟨_, rfl⟩
  rw [hk] at hf
  have HK := Lib.hid (And.intro hk hf)
  clear h hn hk hf
  go_enter Tryd.func18, Tryd.ntmps18
  go_wp2_with fail
  refine HT.out.mono ?_
  rintro e w1 ⟨p1, c1, rfl, ho1, hb1⟩
  have HB := Lib.hid hb1
  rw [HK.out.1]
  clear ho1 hb1
  go_wp2_with fail
  go_ret
  refine ⟨?_, HB.out⟩
  rw [← HK.out.2]
  try rfl
  try simp
set_option maxRecDepth 100000 in
set_option maxHeartbeats 1000000 in
theorem fits_any (p : Option Addr) (c : Nat) (l : List Nat) (w : World) (h : NatV w.heap.size w p c l) :
    Calls Tryd.prog 17 #[.slice p l.length c] w (Tells (.bool (fitsB (V32 l))) w) := by
  have HT := Lib.hid (trim_any p c l w h)
  obtain ⟨n, hn⟩ : ∃ n, V32 l = n := ⟨_, rfl⟩
  rw [hn] at HT ⊢
  have hf : decide ((((D32 n).length : Nat) : Int) ≤ 2) = fitsB n := by
    have := digs_le_iff (B := 4294967296) (by omega) n 2
    rw [show 4294967296 ^ 2 = 18446744073709551616 by decide] at this
    unfold fitsB
    rw [decide_eq_decide]
    rw [← this]
    show ((((D32 n).length : Nat) : Int) ≤ 2) ↔ (D32 n).length ≤ 2
    omega
  obtain ⟨k, hk⟩ : ∃ k, (D32 n).length = k := ⟨_, rfl⟩
  rw [hk] at hf HT
  have HK := Lib.hid hf
  clear h hn hk hf
  go_enter Tryd.func17, Tryd.ntmps17
  go_wp2_with fail
  refine HT.out.mono ?_
  rintro e w1 ⟨rfl, rfl⟩
  go_wp2_with fail
  go_ret
  refine ⟨?_, Below.refl _ _⟩
  rw [← HK.out]
  try rfl
  try simp

def FromRel (B : Nat) (w : World) (n : Nat) (v0 v3 : Value) (wr : World) : Prop :=
  ∃ (x : Nat) (t : List Nat) (p : Option Addr) (cap : Nat), v0 = .int .u64 (x : Int) ∧ v3 = .slice p t.length cap ∧ V16 t + 65536 ^ t.length * x = n ∧ okB 65536 t ∧ NatO B wr p cap t ∧ Below B w wr ∧ t.length ≤ 4
set_option maxRecDepth 100000 in
set_option maxHeartbeats 4000000 in
theorem from_ref (n : Nat) (w : World) (hn : n < 18446744073709551616) :
    Calls Tryd.prog 51 #[.int .u64 (n : Int)] w (NatPost w n) := by
  obtain ⟨i0, hi, hz0, hz1, hz2⟩ := info_parts info32
  go_enter Tryd.func51, Tryd.ntmps51
  go_wp2_with fail
  go_loopw [0, 3] (fun v0 v3 wr => FromRel w.heap.size w n v0 v3 wr) (fun v _ _ => (intOf v).toNat)
  case atStart => exact ⟨n, [], none, 0, rfl, rfl, by simp [V16, valB], okB_nil _, ⟨World.ownsRow_nil _ _ _ _, okB_nil _⟩, Below.refl _ _, by simp⟩
  case round =>
    obtain ⟨x, t, q, cap, rfl, rfl, hv, hok, ho, hb, ht4⟩ := hrel
    have hwB : w.heap.size ≤ wr.heap.size := hb.size
    have hown := ho.own
    by_cases hx0 : 0 < x
    · have htl : t.length < 4 := by
        rcases Nat.lt_or_ge t.length 4 with h | h
        · exact h
        · exfalso
          have h1 : 65536 ^ 4 ≤ 65536 ^ t.length := Nat.pow_le_pow_right (by omega) h
          have h2 : 65536 ^ t.length * 1 ≤ 65536 ^ t.length * x := Nat.mul_le_mul_left _ hx0
          rw [show 65536 ^ 4 = 18446744073709551616 by decide] at h1
          omega
      have hxn : x < 18446744073709551616 := by
        have h1 : 0 < 65536 ^ t.length := Nat.pow_pos (by omega)
        have h2 : 1 * x ≤ 65536 ^ t.length * x := Nat.mul_le_mul_right _ h1
        omega
      have hv2 : V16 (t ++ [x % 65536]) + 65536 ^ (t ++ [x % 65536]).length * (x / 65536) = n := by
        show valB 65536 _ + _ = n
        rw [valB_snoc, List.length_append, List.length_singleton, Nat.pow_succ, Nat.mul_assoc, Nat.add_assoc, ← Nat.mul_add, Nat.mod_add_div]
        exact hv
      have hok2 : okB 65536 (t ++ [x % 65536]) := okB_snoc hok (by omega)
      have HH := Lib.hid (And.intro hv2 (And.intro hok2 (And.intro ho.ok hb)))
      clear hv hok ho hb hv2 hok2
      go_wp2_with (at_builtin; refine wpList_append_own _ rfl _ _ 24 rfl w.heap.size 27 i0 (.int .u32 0) 1 4 Tryd.underlying24 hi hz0 hz1 hz2 rfl (by decide) _ t.length (cells32 t) rfl (hown.alloc _) ⟨wr.heap.size, 0, none⟩ 1 1 _ rfl rfl (cell_one_new _ _ _) ?c2 ?c3 ?c4 ?c5 ?_)
      case c2 => intro u hu; simp at hu; subst hu; rfl
      case c3 => unfold maxLen; omega
      case c4 => omega
      case c5 => simp; omega
      intro v' w1 hown' hgrow _
      rw [show ((x : Int) % 65536) = ((x % 65536 : Nat) : Int) by omega] at hown'
      obtain ⟨q', cap', rfl, ho1⟩ := NatO.snoc (x := x % 65536) hown' HH.out.2.2.1 (by omega)
      have hb1 : Below w.heap.size w w1 := (HH.out.2.2.2.alloc hwB _).grown hgrow (by simp; omega) (fun j hj => (hown.lt j hj).1)
      have HO := Lib.hid (And.intro ho1 hb1)
      clear hown hown' hgrow ho1 hb1
      go_wp2_with fail
      go_roundw
      case rel => exact ⟨x / 65536, t ++ [x % 65536], q', cap', by go_num, rfl, HH.out.1, HH.out.2.1, HO.out.1, HO.out.2, by rw [List.length_append, List.length_singleton]; omega⟩
      case measure => simp [intOf]; omega
    · obtain rfl : x = 0 := by omega
      have hv2 : V16 t = n := by simpa using hv
      have htl : t.length ≤ 4194304 := by omega
      have hw := whole_any q cap t wr ho.toV hok htl
      rw [hv2] at hw
      have HB := Lib.hid hb
      clear hv hok ho hb hv2 hown
      go_wp2_with fail
      refine hw.mono ?_
      rintro e w2 ⟨p2, c2, rfl, ho2, hb2⟩
      have HW := Lib.hid (And.intro ho2 hb2)
      clear hw ho2 hb2
      go_wp2_with fail
      go_ret
      exact ⟨p2, c2, rfl, HW.out.1.base hwB, HB.out.trans (HW.out.2.mono hwB)⟩
end Go.Proofs.YthhighljfjeooaaDoor
