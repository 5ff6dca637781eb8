/- Package nat by its contracts, ninth part: Over, From, Pow, Bits. -/
import Derived.Test.YthhighljfjeooaaDoorNatJ
import Derived.Test.YthhighljfjeooaaDoorNatH
import Derived.Test.YthhighljfjeooaaDoorNatX
import Derived.Test.YthhighljfjeooaaDoorShelf
namespace Go.Proofs.YthhighljfjeooaaDoor
open Go.RowKit Go.Extern.Stop Go.Stop Go.Extern NatM

theorem NatO.laid (w : World) (l : List Nat) (cs : Array Value) (n : Nat) (hn : n = l.length) (hc : cs.toList = cells32 l) (hl : l.length ≤ 1000) (ok : ok32 l) : NatO w.heap.size (w.alloc (.cells cs 27)) (some ⟨w.heap.size, 0, none⟩) n l := by
  have hs : cs.size = l.length := by rw [← Array.length_toList, hc, cells32_length]
  subst hn
  refine ⟨⟨by rw [cells32_length, Nat.mul_one], Or.inr ⟨w.heap.size, l.length, cs, rfl, Nat.le_refl _, heap_newN _ _, Nat.le_refl _, by unfold maxLen; omega, by rw [hs, Nat.mul_one], ?_⟩⟩, ok⟩
  rw [hc, Nat.mul_one, List.take_of_length_le (by rw [cells32_length]; exact Nat.le_refl _)]

/-- quotient, rest and no error -/
def OverPost (w : World) (n d : Nat) (e : Ending) (w' : World) : Prop :=
  ∃ p c, e = .returned (.tuple #[.slice p (D32 (n / d)).length c, .int .u32 ((n % d : Nat) : Int), .nilIface]) ∧ NatO w.heap.size w' p c (D32 (n / d)) ∧ Below w.heap.size w w'
set_option maxRecDepth 100000 in
set_option maxHeartbeats 1000000 in
theorem over_any (p : Option Addr) (c : Nat) (l : List Nat) (d : Nat) (w : World) (h : NatV w.heap.size w p c l) (hl : l.length ≤ 100000) (hd : 0 < d) (hdl : d < 4294967296) :
    Calls Tryd.prog 57 #[.slice p l.length c, .int .u32 (d : Int)] w (OverPost w (V32 l) d) := by
  have H := Lib.hid h
  have hal : (D32 (V32 l)).length ≤ 100000 := Nat.le_trans (D32_le h.ok) hl
  have hd0 : ((d : Int) == 0) = false := by rw [beq_eq_false_iff_ne]; omega
  clear h
  go_enter Tryd.func57, Tryd.ntmps57
  go_wp2_with fail
  refine (trim_any p c l _ H.out).mono ?_
  rintro e w' ⟨rfl, rfl⟩
  go_wp2_with fail
  refine (clone_any p c (D32 (V32 l)) _ H.out.trim (by omega)).mono ?_
  rintro e w2 ⟨p2, c2, rfl, ho, hb2⟩
  have HO := Lib.hid (And.intro ho hb2)
  clear ho hb2
  go_wp2_with fail
  refine (divide_any (B := w.heap.size) p2 c2 (D32 (V32 l)) d _ HO.out.1 hd hdl).mono ?_
  rintro e w3 ⟨rfl, ⟨t, htv, htl, hto⟩, honly⟩
  rw [V32_D32] at htv ⊢
  have hB3 : Below w.heap.size w w3 := by
    refine HO.out.2.trans (honly.below HO.out.2.size fun x hx => ?_)
    rcases Nat.eq_zero_or_pos (D32 (V32 l)).length with h0 | h0
    · rcases own_shape HO.out.1.own with ⟨hv, _, _⟩ | ⟨g, cap, hv, hg, _⟩
      · have : p2 = none := by have h := hv; simp at h; exact h.1
        rw [this] at hx; cases hx
      · have : p2 = some ⟨g, 0, none⟩ := by have h := hv; simp at h; exact h.1
        rw [this] at hx
        have := Option.some.inj hx
        subst this
        exact hg
    · obtain ⟨g, hg, hgb, _⟩ := HO.out.1.shape h0
      rw [hg] at hx
      have := Option.some.inj hx
      subst this
      exact hgb
  have ht := trim_any _ _ t w3 hto.toV
  have hot := hto.trim
  rw [htv] at ht hot
  rw [htl] at ht
  obtain ⟨r, hr⟩ : ∃ r, V32 l % d = r := ⟨_, rfl⟩
  have HR := Lib.hid hr
  have HT := Lib.hid (And.intro ht (And.intro hot hB3))
  rw [hr]
  clear ht hot hB3 hto honly htv htl hr
  go_wp2_with fail
  refine HT.out.1.mono ?_
  rintro e w' ⟨rfl, rfl⟩
  go_wp2_with fail
  go_ret3
  exact ⟨_, _, by rw [HR.out]; rfl, HT.out.2.1, HT.out.2.2⟩

/-- nothing, no rest, and an error -/
def OverErr (w : World) (A : Nat → Addr) (e : Ending) (w' : World) : Prop :=
  ∃ b, e = .returned (.tuple #[.slice none 0 0, .int .u32 0, (Tree.fault b natOp 0 (.leaf (A 3))).val]) ∧ (Tree.fault b natOp 0 (.leaf (A 3))).lies w' ∧ Below w.heap.size w w'
theorem over_zero (p : Option Addr) (n c : Nat) (w : World) (A : Nat → Addr) (hr : Roots w A) :
    Calls Tryd.prog 57 #[.slice p n c, .int .u32 0] w (OverErr w A) := by
  have HR := Lib.hid hr
  clear hr
  go_enter Tryd.func57, Tryd.ntmps57
  go_wp2_with fail
  refine (new_err 0 3 _ A HR.out (by omega)).mono ?_
  rintro e w2 ⟨rfl, hb2, hl2⟩
  have H := Lib.hid (And.intro hl2 hb2)
  clear hl2 hb2
  go_wp2_with fail
  go_ret3
  exact ⟨_, rfl, H.out.1, H.out.2⟩

set_option maxRecDepth 100000 in
theorem from_any (x : Nat) (w : World) (hx : x < 18446744073709551616) :
    Calls Tryd.prog 36 #[.int .u64 (x : Int)] w (NatPost w x) := by
  have ok : ok32 [x % 4294967296, x / 4294967296] := fun y hy => by
    simp only [List.mem_cons, List.not_mem_nil, or_false] at hy
    rcases hy with rfl | rfl <;> omega
  have ho := NatO.laid w [x % 4294967296, x / 4294967296] #[.int .u32 ((x % 4294967296 : Nat) : Int), .int .u32 ((x / 4294967296 : Nat) : Int)] 2 rfl rfl (by simp) ok
  have hv : V32 [x % 4294967296, x / 4294967296] = x := by simp only [V32, valB]; omega
  have ht := trim_any _ _ _ _ ho.toV
  have hot := ho.trim
  rw [hv] at ht hot
  have HB : Hid (Below w.heap.size w (w.alloc (.cells #[.int .u32 ((x % 4294967296 : Nat) : Int), .int .u32 ((x / 4294967296 : Nat) : Int)] 27))) := (Below.refl _ _).alloc (Nat.le_refl _) _
  have HT := Lib.hid (And.intro ht hot)
  clear ok ho hv ht hot
  go_enter Tryd.func36, Tryd.ntmps36
  go_wp2_with fail
  refine HT.out.1.mono ?_
  rintro e w' ⟨rfl, rfl⟩
  go_wp2_with fail
  go_ret
  exact ⟨_, _, rfl, HT.out.2, HB.out⟩

theorem pow_neg (k : Int) (n : Int) (hn : n < 0) (w : World) (A : Nat → Addr) (hr : Roots w A) :
    Calls Tryd.prog 37 #[.int .u32 k, .int .i64 n] w (ErrPost w A 0 3) := by
  have HR := Lib.hid hr
  clear hr
  go_enter Tryd.func37, Tryd.ntmps37
  go_wp2_with fail
  refine (new_err 0 3 _ A HR.out (by omega)).mono ?_
  rintro e w2 ⟨rfl, hb2, hl2⟩
  have H := Lib.hid (And.intro hl2 hb2)
  clear hl2 hb2
  go_wp2_with fail
  go_ret2
  exact ⟨_, rfl, H.out.1, H.out.2⟩
theorem pow_big (k : Int) (n : Int) (hn : 1024 < n) (w : World) (A : Nat → Addr) (hr : Roots w A) :
    Calls Tryd.prog 37 #[.int .u32 k, .int .i64 n] w (ErrPost w A 0 4) := by
  have HR := Lib.hid hr
  have h0 : ¬ n < 0 := by omega
  clear hr
  go_enter Tryd.func37, Tryd.ntmps37
  go_wp2_with fail
  refine (new_err 0 4 _ A HR.out (by omega)).mono ?_
  rintro e w2 ⟨rfl, hb2, hl2⟩
  have H := Lib.hid (And.intro hl2 hb2)
  clear hl2 hb2
  go_wp2_with fail
  go_ret2
  exact ⟨_, rfl, H.out.1, H.out.2⟩

def PowRel (w : World) (k : Nat) (n : Nat) (v6 v15 : Value) (wr : World) : Prop :=
  ∃ (i : Nat) (p : Option Addr) (c : Nat) (t : List Nat), i ≤ n ∧ v15 = .int .i64 (i : Int) ∧ v6 = .slice p t.length c ∧ V32 t = k ^ i ∧ t.length ≤ i + 1 ∧ NatO w.heap.size wr p c t ∧ Below w.heap.size w wr
theorem D32_1 : D32 1 = [1] := D32_of (by decide) (by decide) (by decide)
set_option maxRecDepth 100000 in
set_option maxHeartbeats 1000000 in
theorem pow_any (k n : Nat) (hk : k < 4294967296) (hn : n ≤ 1024) (w : World) :
    Calls Tryd.prog 37 #[.int .u32 (k : Int), .int .i64 (n : Int)] w (OkPost w (k ^ n)) := by
  go_enter Tryd.func37, Tryd.ntmps37
  go_wp2_with fail
  refine (from_any 1 _ (by omega)).mono ?_
  rintro e w1 ⟨p1, c1, rfl, ho1, hb1⟩
  rw [D32_1] at ho1 ⊢
  have H1 := Lib.hid (And.intro ho1 hb1)
  clear ho1 hb1
  go_wp2_with fail
  go_loopw [6, 15] (fun v6 v15 wr => PowRel w k n v6 v15 wr) (fun _ v _ => n - (intOf v).toNat)
  case atStart => exact ⟨0, p1, c1, [1], Nat.zero_le _, rfl, rfl, by rw [Nat.pow_zero]; rfl, by simp, H1.out.1, H1.out.2⟩
  case round =>
    obtain ⟨i, p, c, t, hi, rfl, rfl, hv, hl, ho, hb⟩ := hrel
    have hwB : w.heap.size ≤ wr.heap.size := hb.size
    have HP := Lib.hid (And.intro hv (And.intro ho hb))
    by_cases hlt : i < n
    · clear hv ho hb
      go_wp2_with fail
      refine (extend_any (B := w.heap.size) p c t k 0 _ hwB HP.out.2.1 hk (by omega) (by omega)).mono ?_
      rintro e w2 ⟨p2, c2, t2, rfl, hv2, hl2, _, ho2, hb2⟩
      have H2 := Lib.hid (And.intro hv2 (And.intro ho2 (HP.out.2.2.trans hb2)))
      have hl3 : t2.length ≤ i + 2 := by omega
      clear hv2 ho2 hb2 hl2
      go_wp2_with fail
      go_roundw
      case rel => exact ⟨i + 1, p2, c2, t2, by omega, by go_num, rfl, by rw [H2.out.1, HP.out.1, Nat.pow_succ]; omega, by omega, H2.out.2.1, H2.out.2.2⟩
      case measure => simp [intOf]; omega
    · obtain rfl : i = n := by omega
      have ht := trim_any _ _ t wr ho.toV
      have hot := ho.trim
      rw [hv] at ht hot
      have HT := Lib.hid (And.intro ht hot)
      clear ht hot hv ho hb
      go_wp2_with fail
      refine HT.out.1.mono ?_
      rintro e w' ⟨rfl, rfl⟩
      go_wp2_with fail
      go_ret2
      exact ⟨_, _, rfl, HT.out.2, HP.out.2.2⟩

theorem bitLen_aux : ∀ (f x : Nat), x < 2 ^ f → Lib.bitLenAux f x = (digs 2 x).length
  | 0, x, h => by
    have : x = 0 := by simp at h; exact h
    subst this
    rw [digs_zero]; rfl
  | f + 1, x, h => by
    unfold Lib.bitLenAux
    by_cases h0 : x = 0
    · subst h0; rw [if_pos rfl, digs_zero]; rfl
    · rw [if_neg h0, bitLen_aux f (x / 2) (by rw [Nat.pow_succ] at h; omega), len2_succ (x := x) (by omega)]
theorem bitLen_eq {x : Nat} (h : x < 4294967296) : Lib.bitLen x = (digs 2 x).length := bitLen_aux 64 x (Nat.lt_of_lt_of_le h (by decide))
/-- the number of binary digits -/
def bits2 (n : Nat) : Nat := (digs 2 n).length
set_option maxRecDepth 100000 in
set_option maxHeartbeats 1000000 in
theorem bits_any (p : Option Addr) (c : Nat) (l : List Nat) (w : World) (h : NatV w.heap.size w p c l) (hl : l.length ≤ 100000) :
    Calls Tryd.prog 21 #[.slice p l.length c] w (Tells (.int .i64 (bits2 (V32 l) : Int)) w) := by
  have H := Lib.hid h
  have HT := Lib.hid h.trim
  have hal : (D32 (V32 l)).length ≤ 100000 := Nat.le_trans (D32_le h.ok) hl
  have hac := h.trim.le
  clear h
  obtain ⟨n, hn⟩ : ∃ n, V32 l = n := ⟨_, rfl⟩
  have ht := trim_any p c l w H.out
  rw [hn] at HT hal ht hac ⊢
  obtain ⟨a, ha⟩ : ∃ a, D32 n = a := ⟨_, rfl⟩
  rw [ha] at HT hal ht hac
  have hnr : nrm a := by rw [← ha]; exact D32_nrm n
  have hva : valB 4294967296 a = n := by rw [← ha]; exact V32_D32 n
  have HA := Lib.hid (And.intro hnr hva)
  have HTT := Lib.hid ht
  rcases Nat.eq_zero_or_pos a.length with h0 | h0
  · have hn0 : n = 0 := by
      rw [List.eq_nil_of_length_eq_zero h0] at hva
      exact hva.symm
    have hb0 : bits2 0 = 0 := by unfold bits2; rw [digs_zero]; rfl
    have HN := Lib.hid (And.intro hn0 hb0)
    rw [h0] at ht
    have HT0 := Lib.hid ht
    clear hn ha hnr hva ht h0 hn0 hb0 HTT
    go_enter Tryd.func21, Tryd.ntmps21
    go_wp2_with fail
    refine HT0.out.mono ?_
    rintro e w' ⟨rfl, rfl⟩
    go_wp2_with fail
    go_ret
    exact ⟨by rw [HN.out.1, HN.out.2]; rfl, Below.refl _ _⟩
  · obtain ⟨b, off, rfl, hb, hc⟩ := HT.out.cell (List.length_pos_iff.1 h0)
    obtain ⟨x, hx⟩ := some_get (l := a) (k := a.length - 1) (by omega)
    have hcx := hc (a.length - 1) x hx
    have hxl : x < 4294967296 := ok_get HT.out.ok hx
    have hlen := bitLen_eq hxl
    have htop : bits2 n = 32 * (a.length - 1) + (digs 2 x).length := by
      unfold bits2
      rw [← hva]
      exact len2_top 32 HT.out.ok hnr hx
    have hbl : (digs 2 x).length ≤ 32 := digs_length_le (by omega) hxl
    have ha0 : ((a.length : Int) == 0) = false := by rw [beq_eq_false_iff_ne]; omega
    have hL := (Tryd.bits_Len32 (x : Int) w (by omega) (by omega))
    rw [Int.toNat_natCast, hlen] at hL
    obtain ⟨k, hk⟩ : ∃ k, (digs 2 x).length = k := ⟨_, rfl⟩
    rw [hk] at htop hbl hL
    have HL := Lib.hid (And.intro hL htop)
    clear hn ha hnr hva ht hc hx hlen htop hL hk
    go_enter Tryd.func21, Tryd.ntmps21
    go_wp2_with fail
    refine HTT.out.mono ?_
    rintro e w' ⟨rfl, rfl⟩
    go_wp2_with fail
    refine HL.out.1.mono ?_
    rintro e w' ⟨rfl, rfl⟩
    go_wp2_with fail
    go_ret
    refine ⟨?_, Below.refl _ _⟩
    rw [HL.out.2, show ((32 * (a.length - 1) + k : Nat) : Int) = 32 * ((a.length : Int) - 1) + (k : Int) by omega]
    rfl
end Go.Proofs.YthhighljfjeooaaDoor
