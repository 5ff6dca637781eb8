/- The statements' own tests: awake, normal, long.
Plain mathematics of binary digits; no part of the program.
Package nat by its contracts, ninth part: Over, From, Pow, Bits.
The document's own package of numbers by its contracts, second part: Norm, Fits, From, Low, Cmp.
The document's own package of numbers by its contracts, third part: Cmp, Low.
The document's own package of numbers by its contracts, fourth part: Add, Sum.
The document's own package of numbers by its contracts, fifth part: Sum.
What the statements ask of errors: edenraw.Root, edenraw.New and edenraw.Is, by contracts.
The document's own package of numbers by its contracts, sixth part: Sub.
Package rule by its contracts, second part: Check, smallSize, Small.
Lists of ints: make, slices.Grow of nil, slices.Concat.
Package word by its contracts, second part: Cmp, Back, Turn.
Package word by its contracts, fourth part: Next.
Bytes of texts as numbers, and back.
Package word by its contracts, fifth part: Next where it is refused, Parse.
Package rule by its contracts, third part: Local, Step.
Package rule by its contracts, fourth part: Step.
Package word by its contracts, sixth part: Text. -/
import Derived.Test.YtgdjnohhofbcnaaGreatDoorB2
import Derived.Test.YtgdjnohhofbcnaaGreatDoorB1
import Derived.Deep.RegionWith
import Derived.Deep.DeepCutAuto
import Derived.Deep.LoopGhost
import Derived.Laws.Rows
import Derived.Outline
import Derived.Laws.AppendOwnNone
import Derived.Lib.AppendZerosOnto
import Derived.Lib.Walk
import Derived.Laws.Append
import Derived.Lib.SliceRun
import Derived.Laws.BytesArg
section
namespace Go.Proofs.YtgdjnohhofbcnaaGreatDoor
open Go.RowKit NatM

/-- a slice literal of limbs, just laid -/
theorem NatV.laid {w : World} (l : List Nat) (cs : Array Value) (t : TypeId) (hc : cs.toList = cells32 l) (hl : l.length ≤ 1000) (ok : ok32 l) :
    NatV (w.alloc (.cells cs t)).heap.size (w.alloc (.cells cs t)) (some ⟨w.heap.size, 0, none⟩) l.length l := by
  refine ⟨ok, Nat.le_refl _, by unfold maxLen; omega, (fun h => by cases h), fun _ => ⟨w.heap.size, 0, rfl, by simp, fun j x hx => ?_⟩⟩
  rw [Nat.zero_add, cell_alloc_row, ← Array.getElem?_toList, hc]
  exact cells32_get hx
theorem ok_of {l : List Nat} (h : l.all (fun x => decide (x < 4294967296)) = true) : ok32 l := fun x hx => by simpa using List.all_eq_true.1 h x hx
theorem nrm_of {l : List Nat} (h : (l.getLast? == some 0) = false) : nrm l := fun x hx e => by subst e; rw [hx] at h; simp at h
theorem D32_of {l : List Nat} {n : Nat} (ho : l.all (fun x => decide (x < 4294967296)) = true) (hn : (l.getLast? == some 0) = false) (hv : V32 l = n) : D32 n = l := digs_unique (by omega) (ok_of ho) (nrm_of hn) hv
theorem D10_of {l : List Nat} {n : Nat} (ho : l.all (fun x => decide (x < 10)) = true) (hn : (l.getLast? == some 0) = false) (hv : valB 10 l = n) : digs 10 n = l := digs_unique (by omega) (fun x hx => by simpa using List.all_eq_true.1 ho x hx) (nrm_of hn) hv

theorem nats_eq (p q : Option Addr) (n m c d : Nat) (l : List Nat) (w : World) (hn : n = l.length) (hm : m = l.length) (h : NatV w.heap.size w p c l) (k : NatV w.heap.size w q d l) :
    Calls Tryz.prog 55 #[.slice p n c, .slice q m d] w (Tells (.bool true) w) := by
  subst hn hm
  exact nats_same p q c d l w h k
theorem text_eq (p : Option Addr) (n cap : Nat) (l : List Nat) (w : World) (hn : n = l.length) (h : NatV w.heap.size w p cap l) (hl : l.length ≤ 100000) :
    Calls Tryz.prog 28 #[.slice p n cap] w (Tells (.string (textOf (V32 l))) w) := by
  subst hn
  exact text_any p cap l w h hl
theorem mul_eq (p q : Option Addr) (n k c d : Nat) (l m : List Nat) (w : World) (hn : n = l.length) (hk : k = m.length) (h : NatV w.heap.size w p c l) (h' : NatV w.heap.size w q d m) (hl : l.length ≤ 100000) (hm : m.length ≤ 100000) :
    Calls Tryz.prog 117 #[.slice p n c, .slice q k d] w (NatPost w (V32 l * V32 m)) := by
  subst hn hk
  exact mul_any p q c d l m w h h' hl hm
def bigText : ByteArray := { data := #[52, 50, 57, 52, 57, 54, 55, 50, 57, 54] }
theorem D32_big : D32 4294967296 = [0, 1] := D32_of (by decide) (by decide) (by decide)
theorem D32_15 : D32 15 = [15] := D32_of (by decide) (by decide) (by decide)
theorem text_big : textOf 4294967296 = bigText := by
  unfold textOf decL
  rw [if_neg (by decide), D10_of (l := [6, 9, 2, 7, 6, 9, 4, 9, 2, 4]) (by decide) (by decide) (by decide)]
  rfl
theorem parse_big_none : parseBad (bsOf bigText) = none := by decide +kernel
theorem list_big : (bigText.toList == [52, 50, 57, 52, 57, 54, 55, 50, 57, 54]) = true := by decide +kernel
theorem num_big : numOf (bsOf bigText) = 4294967296 := by decide +kernel


/-- long: is one of them longer than 400 limbs? -/
def longB (L : List Nt) : Bool := L.any fun x => decide (400 < x.2.2.length)
end Go.Proofs.YtgdjnohhofbcnaaGreatDoor
end
section
namespace Go.Proofs.YtgdjnohhofbcnaaGreatDoor.NatM
/-! ### binary digits -/
theorem len2_lt (n : Nat) : n < 2 ^ (digs 2 n).length := by
  have := valB_lt (B := 2) (by omega) (digs_ok (by omega) n)
  rwa [valB_digs (by omega)] at this
theorem len2_ge {n : Nat} (h : 0 < n) : 2 ^ ((digs 2 n).length - 1) ≤ n := by
  have hne : digs 2 n ≠ [] := fun e => by have := (digs_eq_nil (B := 2) (by omega)).1 e; omega
  have := ge_of_nrm (B := 2) (by omega) (digs_nrm (by omega) n) hne
  rwa [valB_digs (by omega)] at this
theorem len2_unique {n k : Nat} (h1 : 2 ^ (k - 1) ≤ n) (h2 : n < 2 ^ k) : (digs 2 n).length = k := by
  have h0 : 0 < n := Nat.lt_of_lt_of_le (Nat.pow_pos (by omega)) h1
  have a := len2_lt n
  have b := len2_ge h0
  rcases Nat.lt_trichotomy (digs 2 n).length k with h | h | h
  · have : 2 ^ (digs 2 n).length ≤ 2 ^ (k - 1) := Nat.pow_le_pow_right (by omega) (by omega)
    omega
  · exact h
  · have : 2 ^ k ≤ 2 ^ ((digs 2 n).length - 1) := Nat.pow_le_pow_right (by omega) (by omega)
    omega
theorem len2_pow (k : Nat) : (digs 2 (2 ^ k)).length = k + 1 := by
  apply len2_unique
  · exact Nat.le_refl _
  · rw [Nat.pow_succ]; have := Nat.pow_pos (n := k) (by omega : 0 < 2); omega
theorem len2_succ {x : Nat} (h : 0 < x) : (digs 2 x).length = 1 + (digs 2 (x / 2)).length := by
  rw [digs_pos (by omega) h, List.length_cons]; omega
/-- The bits of a number are those of its last limb, and b more for each limb below. -/
theorem len2_top (b : Nat) {l : List Nat} (ho : okB (2 ^ b) l) (hn : nrm l) {x : Nat} (hx : l[l.length - 1]? = some x) : (digs 2 (valB (2 ^ b) l)).length = b * (l.length - 1) + (digs 2 x).length := by
  have hl := get_lt hx
  have hx0 : 0 < x := by
    have := hn x (by rw [List.getLast?_eq_getElem?]; exact hx)
    omega
  have h1 := valB_takeq (2 ^ b) hx
  rw [show l.length - 1 + 1 = l.length by omega, List.take_length] at h1
  have h2 := valB_lt (B := 2 ^ b) (Nat.pow_pos (by omega)) (okB_take ho (l.length - 1))
  rw [List.length_take, Nat.min_eq_left (by omega)] at h2
  have h3 := len2_lt x
  have h4 := len2_ge hx0
  have hlen : 0 < (digs 2 x).length := List.length_pos_iff.2 (fun e => by have := (digs_eq_nil (B := 2) (by omega)).1 e; omega)
  have e : (2 ^ b) ^ (l.length - 1) = 2 ^ (b * (l.length - 1)) := (Nat.pow_mul 2 b _).symm
  rw [e] at h1 h2
  apply len2_unique
  · rw [show b * (l.length - 1) + (digs 2 x).length - 1 = b * (l.length - 1) + ((digs 2 x).length - 1) by omega, Nat.pow_add, h1]
    have := Nat.mul_le_mul_left (2 ^ (b * (l.length - 1))) h4
    omega
  · rw [Nat.pow_add, h1]
    have : 2 ^ (b * (l.length - 1)) * (x + 1) ≤ 2 ^ (b * (l.length - 1)) * 2 ^ (digs 2 x).length := Nat.mul_le_mul_left _ h3
    rw [Nat.mul_add] at this
    omega
end Go.Proofs.YtgdjnohhofbcnaaGreatDoor.NatM
end
section
namespace Go.Proofs.YtgdjnohhofbcnaaGreatDoor
open Go.RowKit Go.Extern.Stop Go.Stop Go.Extern NatM

theorem NatO.laid (w : World) (l : List Nat) (cs : Array Value) (n : Nat) (hn : n = l.length) (hc : cs.toList = cells32 l) (hl : l.length ≤ 1000) (ok : ok32 l) : NatO w.heap.size (w.alloc (.cells cs 94)) (some ⟨w.heap.size, 0, none⟩) n l := by
  have hs : cs.size = l.length := by rw [← Array.length_toList, hc, cells32_length]
  subst hn
  refine ⟨⟨by rw [cells32_length, Nat.mul_one], Or.inr ⟨w.heap.size, l.length, cs, rfl, Nat.le_refl _, heap_newN _ _, Nat.le_refl _, by unfold maxLen; omega, by rw [hs, Nat.mul_one], ?_⟩⟩, ok⟩
  rw [hc, Nat.mul_one, List.take_of_length_le (by rw [cells32_length]; exact Nat.le_refl _)]

/-- quotient, rest and no error -/
def OverPost (w : World) (n d : Nat) (e : Ending) (w' : World) : Prop :=
  ∃ p c, e = .returned (.tuple #[.slice p (D32 (n / d)).length c, .int .u32 ((n % d : Nat) : Int), .nilIface]) ∧ NatO w.heap.size w' p c (D32 (n / d)) ∧ Below w.heap.size w w'
set_option maxRecDepth 100000 in
set_option maxHeartbeats 1000000 in
theorem over_any (p : Option Addr) (c : Nat) (l : List Nat) (d : Nat) (w : World) (h : NatV w.heap.size w p c l) (hl : l.length ≤ 100000) (hd : 0 < d) (hdl : d < 4294967296) :
    Calls Tryz.prog 120 #[.slice p l.length c, .int .u32 (d : Int)] w (OverPost w (V32 l) d) := by
  have H := Lib.hid h
  have hal : (D32 (V32 l)).length ≤ 100000 := Nat.le_trans (D32_le h.ok) hl
  have hd0 : ((d : Int) == 0) = false := by rw [beq_eq_false_iff_ne]; omega
  clear h
  go_enter Tryz.func120, Tryz.ntmps120
  go_wp2_with fail
  refine (trim_any p c l _ H.out).mono ?_
  rintro e w' ⟨rfl, rfl⟩
  go_wp2_with fail
  refine (clone_any p c (D32 (V32 l)) _ H.out.trim (by omega)).mono ?_
  rintro e w2 ⟨p2, c2, rfl, ho, hb2⟩
  have HO := Lib.hid (And.intro ho hb2)
  clear ho hb2
  go_wp2_with fail
  refine (divide_any (B := w.heap.size) p2 c2 (D32 (V32 l)) d _ HO.out.1 hd hdl).mono ?_
  rintro e w3 ⟨rfl, ⟨t, htv, htl, hto⟩, honly⟩
  rw [V32_D32] at htv ⊢
  have hB3 : Below w.heap.size w w3 := by
    refine HO.out.2.trans (honly.below HO.out.2.size fun x hx => ?_)
    rcases Nat.eq_zero_or_pos (D32 (V32 l)).length with h0 | h0
    · rcases own_shape HO.out.1.own with ⟨hv, _, _⟩ | ⟨g, cap, hv, hg, _⟩
      · have : p2 = none := by have h := hv; simp at h; exact h.1
        rw [this] at hx; cases hx
      · have : p2 = some ⟨g, 0, none⟩ := by have h := hv; simp at h; exact h.1
        rw [this] at hx
        have := Option.some.inj hx
        subst this
        exact hg
    · obtain ⟨g, hg, hgb, _⟩ := HO.out.1.shape h0
      rw [hg] at hx
      have := Option.some.inj hx
      subst this
      exact hgb
  have ht := trim_any _ _ t w3 hto.toV
  have hot := hto.trim
  rw [htv] at ht hot
  rw [htl] at ht
  obtain ⟨r, hr⟩ : ∃ r, V32 l % d = r := ⟨_, rfl⟩
  have HR := Lib.hid hr
  have HT := Lib.hid (And.intro ht (And.intro hot hB3))
  rw [hr]
  clear ht hot hB3 hto honly htv htl hr
  go_wp2_with fail
  refine HT.out.1.mono ?_
  rintro e w' ⟨rfl, rfl⟩
  go_wp2_with fail
  go_ret3
  exact ⟨_, _, by rw [HR.out]; rfl, HT.out.2.1, HT.out.2.2⟩

/-- nothing, no rest, and an error -/
def OverErr (w : World) (A : Nat → Addr) (e : Ending) (w' : World) : Prop :=
  ∃ b, e = .returned (.tuple #[.slice none 0 0, .int .u32 0, (Tree.fault b natOp 0 (.leaf (A 3))).val]) ∧ (Tree.fault b natOp 0 (.leaf (A 3))).lies w' ∧ Below w.heap.size w w'
theorem over_zero (p : Option Addr) (n c : Nat) (w : World) (A : Nat → Addr) (hr : Roots w A) :
    Calls Tryz.prog 120 #[.slice p n c, .int .u32 0] w (OverErr w A) := by
  have HR := Lib.hid hr
  clear hr
  go_enter Tryz.func120, Tryz.ntmps120
  go_wp2_with fail
  refine (new_err 0 3 _ A HR.out (by omega)).mono ?_
  rintro e w2 ⟨rfl, hb2, hl2⟩
  have H := Lib.hid (And.intro hl2 hb2)
  clear hl2 hb2
  go_wp2_with fail
  go_ret3
  exact ⟨_, rfl, H.out.1, H.out.2⟩

set_option maxRecDepth 100000 in
theorem from_any (x : Nat) (w : World) (hx : x < 18446744073709551616) :
    Calls Tryz.prog 115 #[.int .u64 (x : Int)] w (NatPost w x) := by
  have ok : ok32 [x % 4294967296, x / 4294967296] := fun y hy => by
    simp only [List.mem_cons, List.not_mem_nil, or_false] at hy
    rcases hy with rfl | rfl <;> omega
  have ho := NatO.laid w [x % 4294967296, x / 4294967296] #[.int .u32 ((x % 4294967296 : Nat) : Int), .int .u32 ((x / 4294967296 : Nat) : Int)] 2 rfl rfl (by simp) ok
  have hv : V32 [x % 4294967296, x / 4294967296] = x := by simp only [V32, valB]; omega
  have ht := trim_any _ _ _ _ ho.toV
  have hot := ho.trim
  rw [hv] at ht hot
  have HB : Hid (Below w.heap.size w (w.alloc (.cells #[.int .u32 ((x % 4294967296 : Nat) : Int), .int .u32 ((x / 4294967296 : Nat) : Int)] 94))) := (Below.refl _ _).alloc (Nat.le_refl _) _
  have HT := Lib.hid (And.intro ht hot)
  clear ok ho hv ht hot
  go_enter Tryz.func115, Tryz.ntmps115
  go_wp2_with fail
  refine HT.out.1.mono ?_
  rintro e w' ⟨rfl, rfl⟩
  go_wp2_with fail
  go_ret
  exact ⟨_, _, rfl, HT.out.2, HB.out⟩

theorem pow_neg (k : Int) (n : Int) (hn : n < 0) (w : World) (A : Nat → Addr) (hr : Roots w A) :
    Calls Tryz.prog 118 #[.int .u32 k, .int .i64 n] w (ErrPost w A 0 3) := by
  have HR := Lib.hid hr
  clear hr
  go_enter Tryz.func118, Tryz.ntmps118
  go_wp2_with fail
  refine (new_err 0 3 _ A HR.out (by omega)).mono ?_
  rintro e w2 ⟨rfl, hb2, hl2⟩
  have H := Lib.hid (And.intro hl2 hb2)
  clear hl2 hb2
  go_wp2_with fail
  go_ret2
  exact ⟨_, rfl, H.out.1, H.out.2⟩
theorem pow_big (k : Int) (n : Int) (hn : 1024 < n) (w : World) (A : Nat → Addr) (hr : Roots w A) :
    Calls Tryz.prog 118 #[.int .u32 k, .int .i64 n] w (ErrPost w A 0 4) := by
  have HR := Lib.hid hr
  have h0 : ¬ n < 0 := by omega
  clear hr
  go_enter Tryz.func118, Tryz.ntmps118
  go_wp2_with fail
  refine (new_err 0 4 _ A HR.out (by omega)).mono ?_
  rintro e w2 ⟨rfl, hb2, hl2⟩
  have H := Lib.hid (And.intro hl2 hb2)
  clear hl2 hb2
  go_wp2_with fail
  go_ret2
  exact ⟨_, rfl, H.out.1, H.out.2⟩

def PowRel (w : World) (k : Nat) (n : Nat) (v6 v15 : Value) (wr : World) : Prop :=
  ∃ (i : Nat) (p : Option Addr) (c : Nat) (t : List Nat), i ≤ n ∧ v15 = .int .i64 (i : Int) ∧ v6 = .slice p t.length c ∧ V32 t = k ^ i ∧ t.length ≤ i + 1 ∧ NatO w.heap.size wr p c t ∧ Below w.heap.size w wr
theorem D32_1 : D32 1 = [1] := D32_of (by decide) (by decide) (by decide)
set_option maxRecDepth 100000 in
set_option maxHeartbeats 1000000 in
theorem pow_any (k n : Nat) (hk : k < 4294967296) (hn : n ≤ 1024) (w : World) :
    Calls Tryz.prog 118 #[.int .u32 (k : Int), .int .i64 (n : Int)] w (OkPost w (k ^ n)) := by
  go_enter Tryz.func118, Tryz.ntmps118
  go_wp2_with fail
  refine (from_any 1 _ (by omega)).mono ?_
  rintro e w1 ⟨p1, c1, rfl, ho1, hb1⟩
  rw [D32_1] at ho1 ⊢
  have H1 := Lib.hid (And.intro ho1 hb1)
  clear ho1 hb1
  go_wp2_with fail
  go_loopw [6, 15] (fun v6 v15 wr => PowRel w k n v6 v15 wr) (fun _ v _ => n - (intOf v).toNat)
  case atStart => exact ⟨0, p1, c1, [1], Nat.zero_le _, rfl, rfl, by rw [Nat.pow_zero]; rfl, by simp, H1.out.1, H1.out.2⟩
  case round =>
    obtain ⟨i, p, c, t, hi, rfl, rfl, hv, hl, ho, hb⟩ := hrel
    have hwB : w.heap.size ≤ wr.heap.size := hb.size
    have HP := Lib.hid (And.intro hv (And.intro ho hb))
    by_cases hlt : i < n
    · clear hv ho hb
      go_wp2_with fail
      refine (extend_any (B := w.heap.size) p c t k 0 _ hwB HP.out.2.1 hk (by omega) (by omega)).mono ?_
      rintro e w2 ⟨p2, c2, t2, rfl, hv2, hl2, _, ho2, hb2⟩
      have H2 := Lib.hid (And.intro hv2 (And.intro ho2 (HP.out.2.2.trans hb2)))
      have hl3 : t2.length ≤ i + 2 := by omega
      clear hv2 ho2 hb2 hl2
      go_wp2_with fail
      go_roundw
      case rel => exact ⟨i + 1, p2, c2, t2, by omega, by go_num, rfl, by rw [H2.out.1, HP.out.1, Nat.pow_succ]; omega, by omega, H2.out.2.1, H2.out.2.2⟩
      case measure => simp [intOf]; omega
    · obtain rfl : i = n := by omega
      have ht := trim_any _ _ t wr ho.toV
      have hot := ho.trim
      rw [hv] at ht hot
      have HT := Lib.hid (And.intro ht hot)
      clear ht hot hv ho hb
      go_wp2_with fail
      refine HT.out.1.mono ?_
      rintro e w' ⟨rfl, rfl⟩
      go_wp2_with fail
      go_ret2
      exact ⟨_, _, rfl, HT.out.2, HP.out.2.2⟩

/-- the number of binary digits -/
def bits2 (n : Nat) : Nat := (digs 2 n).length
end Go.Proofs.YtgdjnohhofbcnaaGreatDoor
end
section
namespace Go.Proofs.YtgdjnohhofbcnaaGreatDoor
open Go.RowKit NatM

theorem half_len {l : List Nat} (h : ok32 l) : (D16 (V32 l)).length ≤ 2 * l.length := by
  have e : V16 (half l) = V32 l := half_val l
  have := D16_le (half_ok h)
  rw [e, half_length] at this
  exact this
theorem digs_le_iff {B : Nat} (hB : 2 ≤ B) (n k : Nat) : (digs B n).length ≤ k ↔ n < B ^ k := by
  constructor
  · intro h
    have h1 := valB_lt (B := B) (by omega) (digs_ok hB n)
    rw [valB_digs hB] at h1
    exact Nat.lt_of_lt_of_le h1 (Nat.pow_le_pow_right (by omega) h)
  · exact digs_length_le hB

set_option maxRecDepth 100000 in
set_option maxHeartbeats 1000000 in
theorem norm_any (p : Option Addr) (c : Nat) (l : List Nat) (w : World) (h : NatV w.heap.size w p c l) (hl : l.length ≤ 1048576) :
    Calls Tryz.prog 96 #[.slice p l.length c] w (NatPost w (V32 l)) := by
  have HT := Lib.hid (half_any p c l w h hl)
  have hlen := half_len h.ok
  obtain ⟨n, hn⟩ : ∃ n, V32 l = n := ⟨_, rfl⟩
  rw [hn] at HT hlen ⊢
  clear h hn
  go_enter Tryz.func96, Tryz.ntmps96
  go_wp2_with fail
  refine HT.out.mono ?_
  rintro e w1 ⟨p1, c1, rfl, ho1, hb1⟩
  have HO := Lib.hid (And.intro ho1 hb1)
  have hw := whole_any p1 c1 (D16 n) w1 ho1.toV (D16_ok n) (by omega)
  rw [V16_D16] at hw
  clear ho1 hb1
  go_wp2_with fail
  refine hw.mono ?_
  rintro e w2 ⟨p2, c2, rfl, ho2, hb2⟩
  have HW := Lib.hid (And.intro ho2 hb2)
  clear hw ho2 hb2
  go_wp2_with fail
  go_ret
  exact ⟨p2, c2, rfl, HW.out.1.base HO.out.2.size, HO.out.2.trans (HW.out.2.mono HO.out.2.size)⟩

/-- is the number less than 2^64? -/
def fitsB (n : Nat) : Bool := decide (n < 18446744073709551616)

def FromRel (B : Nat) (w : World) (n : Nat) (v0 v3 : Value) (wr : World) : Prop :=
  ∃ (x : Nat) (t : List Nat) (p : Option Addr) (cap : Nat), v0 = .int .u64 (x : Int) ∧ v3 = .slice p t.length cap ∧ V16 t + 65536 ^ t.length * x = n ∧ okB 65536 t ∧ NatO B wr p cap t ∧ Below B w wr ∧ t.length ≤ 4
set_option maxRecDepth 100000 in
set_option maxHeartbeats 4000000 in
theorem from_ref (n : Nat) (w : World) (hn : n < 18446744073709551616) :
    Calls Tryz.prog 95 #[.int .u64 (n : Int)] w (NatPost w n) := by
  obtain ⟨i0, hi, hz0, hz1, hz2⟩ := info_parts info32
  go_enter Tryz.func95, Tryz.ntmps95
  go_wp2_with fail
  go_loopw [0, 3] (fun v0 v3 wr => FromRel w.heap.size w n v0 v3 wr) (fun v _ _ => (intOf v).toNat)
  case atStart => exact ⟨n, [], none, 0, rfl, rfl, by simp [V16, valB], okB_nil _, ⟨World.ownsRow_nil _ _ _ _, okB_nil _⟩, Below.refl _ _, by simp⟩
  case round =>
    obtain ⟨x, t, q, cap, rfl, rfl, hv, hok, ho, hb, ht4⟩ := hrel
    have hwB : w.heap.size ≤ wr.heap.size := hb.size
    have hown := ho.own
    by_cases hx0 : 0 < x
    · have htl : t.length < 4 := by
        rcases Nat.lt_or_ge t.length 4 with h | h
        · exact h
        · exfalso
          have h1 : 65536 ^ 4 ≤ 65536 ^ t.length := Nat.pow_le_pow_right (by omega) h
          have h2 : 65536 ^ t.length * 1 ≤ 65536 ^ t.length * x := Nat.mul_le_mul_left _ hx0
          rw [show 65536 ^ 4 = 18446744073709551616 by decide] at h1
          omega
      have hxn : x < 18446744073709551616 := by
        have h1 : 0 < 65536 ^ t.length := Nat.pow_pos (by omega)
        have h2 : 1 * x ≤ 65536 ^ t.length * x := Nat.mul_le_mul_right _ h1
        omega
      have hv2 : V16 (t ++ [x % 65536]) + 65536 ^ (t ++ [x % 65536]).length * (x / 65536) = n := by
        show valB 65536 _ + _ = n
        rw [valB_snoc, List.length_append, List.length_singleton, Nat.pow_succ, Nat.mul_assoc, Nat.add_assoc, ← Nat.mul_add, Nat.mod_add_div]
        exact hv
      have hok2 : okB 65536 (t ++ [x % 65536]) := okB_snoc hok (by omega)
      have HH := Lib.hid (And.intro hv2 (And.intro hok2 (And.intro ho.ok hb)))
      clear hv hok ho hb hv2 hok2
      go_wp2_with (at_builtin; refine wpList_append_own _ rfl _ _ 43 rfl w.heap.size 94 i0 (.int .u32 0) 1 4 Tryz.underlying43 hi hz0 hz1 hz2 rfl (by decide) _ t.length (cells32 t) rfl (hown.alloc _) ⟨wr.heap.size, 0, none⟩ 1 1 _ rfl rfl (cell_one_new _ _ _) ?c2 ?c3 ?c4 ?c5 ?_)
      case c2 => intro u hu; simp at hu; subst hu; rfl
      case c3 => unfold maxLen; omega
      case c4 => omega
      case c5 => simp; omega
      intro v' w1 hown' hgrow _
      rw [show ((x : Int) % 65536) = ((x % 65536 : Nat) : Int) by omega] at hown'
      obtain ⟨q', cap', rfl, ho1⟩ := NatO.snoc (x := x % 65536) hown' HH.out.2.2.1 (by omega)
      have hb1 : Below w.heap.size w w1 := (HH.out.2.2.2.alloc hwB _).grown hgrow (by simp; omega) (fun j hj => (hown.lt j hj).1)
      have HO := Lib.hid (And.intro ho1 hb1)
      clear hown hown' hgrow ho1 hb1
      go_wp2_with fail
      go_roundw
      case rel => exact ⟨x / 65536, t ++ [x % 65536], q', cap', by go_num, rfl, HH.out.1, HH.out.2.1, HO.out.1, HO.out.2, by rw [List.length_append, List.length_singleton]; omega⟩
      case measure => simp [intOf]; omega
    · obtain rfl : x = 0 := by omega
      have hv2 : V16 t = n := by simpa using hv
      have htl : t.length ≤ 4194304 := by omega
      have hw := whole_any q cap t wr ho.toV hok htl
      rw [hv2] at hw
      have HB := Lib.hid hb
      clear hv hok ho hb hv2 hown
      go_wp2_with fail
      refine hw.mono ?_
      rintro e w2 ⟨p2, c2, rfl, ho2, hb2⟩
      have HW := Lib.hid (And.intro ho2 hb2)
      clear hw ho2 hb2
      go_wp2_with fail
      go_ret
      exact ⟨p2, c2, rfl, HW.out.1.base hwB, HB.out.trans (HW.out.2.mono hwB)⟩
end Go.Proofs.YtgdjnohhofbcnaaGreatDoor
end
section
namespace Go.Proofs.YtgdjnohhofbcnaaGreatDoor
open Go.RowKit NatM

theorem lt_of_drop16 {a b : List Nat} {i x y : Nat} (ha : okB 65536 a) (hx : a[i]? = some x) (hy : b[i]? = some y) (hd : a.drop (i + 1) = b.drop (i + 1)) (hlt : x < y) : V16 a < V16 b := lt_atq (by omega) ha hx hy hd hlt
theorem cmp_len16 {m n : Nat} (h : (D16 m).length < (D16 n).length) : m < n := digs_length_lt (by omega) h

set_option maxRecDepth 100000 in
set_option maxHeartbeats 2000000 in
theorem cmp_ref (p q : Option Addr) (c d : Nat) (l m : List Nat) (w : World) (h : NatV w.heap.size w p c l) (k : NatV w.heap.size w q d m) (hl : l.length ≤ 1048576) (hm : m.length ≤ 1048576) :
    Calls Tryz.prog 102 #[.slice p l.length c, .slice q m.length d] w (Tells (.int .i64 (cmpN (V32 l) (V32 m))) w) := by
  have H := Lib.hid (And.intro h k)
  have HT := Lib.hid (half_any p c l w h hl)
  have HM := Lib.hid (And.intro hm (And.intro (half_len h.ok) (half_len k.ok)))
  obtain ⟨A, hA⟩ : ∃ A, V32 l = A := ⟨_, rfl⟩
  obtain ⟨B, hB⟩ : ∃ B, V32 m = B := ⟨_, rfl⟩
  have HBB := Lib.hid hB
  rw [hA] at HT HM ⊢
  rw [hB] at HM ⊢
  clear h k hm
  go_enter Tryz.func102, Tryz.ntmps102
  go_wp2_with fail
  refine HT.out.mono ?_
  rintro e w1 ⟨p1, c1, rfl, ho1, hb1⟩
  have HT2 := half_any q d m w1 (H.out.2.next hb1) HM.out.1
  rw [HBB.out] at HT2
  have HO := Lib.hid (And.intro ho1 hb1)
  clear ho1 hb1 hA hB
  go_wp2_with fail
  refine HT2.mono ?_
  rintro e w2 ⟨p2, c2, rfl, ho2, hb2⟩
  have hva : V16 (D16 A) = A := V16_D16 _
  have hvb : V16 (D16 B) = B := V16_D16 _
  have HV2 := Lib.hid (And.intro (HO.out.1.next hb2).toV (And.intro ho2.toV (And.intro (D16_ok A) (And.intro (D16_ok B) (HO.out.2.trans (hb2.mono HO.out.2.size))))))
  clear HT2 ho2 hb2
  have hgt : (D16 B).length < (D16 A).length → B < A := cmp_len16
  have hlt : (D16 A).length < (D16 B).length → A < B := cmp_len16
  have hle := HV2.out.1.le
  have hdle := HV2.out.2.1.le
  have hcap := HV2.out.1.cap
  have hdcap := HV2.out.2.1.cap
  unfold maxLen at hcap hdcap
  obtain ⟨a, ha⟩ : ∃ a, D16 A = a := ⟨_, rfl⟩
  obtain ⟨b, hb⟩ : ∃ b, D16 B = b := ⟨_, rfl⟩
  rw [ha] at HV2 hva hgt hlt hle ⊢
  rw [hb] at HV2 hvb hgt hlt hdle ⊢
  have HL := Lib.hid (And.intro hva (And.intro hvb (And.intro hgt hlt)))
  clear hva hvb hgt hlt ha hb
  rcases Nat.lt_trichotomy a.length b.length with hl' | hl' | hl'
  · have HC := Lib.hid (cmp_lt (HL.out.2.2.2 hl'))
    have h1 : ((a.length : Int) != (b.length : Int)) = true := by simp; omega
    go_wp2_with fail
    go_ret
    exact ⟨by rw [HC.out]; try rfl, HV2.out.2.2.2.2⟩
  · obtain ⟨n, hn⟩ : ∃ n, n = a.length := ⟨_, rfl⟩
    have hn2 : b.length = n := by omega
    rw [← hn, hn2]
    rw [← hn] at hle
    rw [hn2] at hdle
    have HN := Lib.hid (And.intro hn hn2)
    clear hl' hn hn2
    go_wp2_with fail
    go_loopw [7] (fun v wx => ∃ k : Nat, k ≤ n ∧ v = .int .i64 ((k : Int) - 1) ∧ Below w2.heap.size w2 wx ∧ Hid (a.drop k = b.drop k)) (fun v _ => (intOf v + 1).toNat)
    case atStart => exact ⟨n, Nat.le_refl _, rfl, Below.refl _ _, by rw [HN.out.1]; show _ = _; rw [List.drop_length, List.drop_of_length_le]; have := HN.out; omega⟩
    case round =>
      obtain ⟨k, hk, rfl, hbx, hdr⟩ := hrel
      rcases Nat.eq_zero_or_pos k with rfl | hk0
      · have hc : cmpN A B = 0 := by
          have e : a = b := by have := hdr.out; simpa using this
          rw [← HL.out.1, ← HL.out.2.1, e, cmp_eq]
        have HC := Lib.hid hc
        clear hc
        go_wp2_with fail
        go_ret
        exact ⟨by rw [HC.out]; rfl, HV2.out.2.2.2.2.trans (hbx.mono HV2.out.2.2.2.2.size)⟩
      · obtain ⟨j, rfl⟩ : ∃ j, k = j + 1 := ⟨k - 1, by omega⟩
        have e1 : (((j + 1 : Nat) : Int) - 1) = (j : Int) := by omega
        rw [e1]
        have hna : n = a.length := HN.out.1
        have hnb : b.length = n := HN.out.2
        have hne : a ≠ [] := List.length_pos_iff.1 (by omega)
        have hneb : b ≠ [] := List.length_pos_iff.1 (by omega)
        obtain ⟨ba, off, rfl, hba, hca⟩ := (HV2.out.1.below hbx).cell hne
        obtain ⟨bb, off', rfl, hbb, hcb⟩ := (HV2.out.2.1.below hbx).cell hneb
        obtain ⟨x, hx⟩ := some_get (l := a) (k := j) (by omega)
        obtain ⟨y, hy⟩ := some_get (l := b) (k := j) (by omega)
        have h1 := hca j x hx
        have h2 := hcb j y hy
        have HX := Lib.hid (And.intro hx hy)
        clear hca hcb hx hy hne hneb hna hnb e1
        by_cases hxy : x = y
        · subst hxy
          go_wp2_with fail
          go_quiet (fail)
          go_wp2_with fail
          go_quiet (fail)
          go_wp2_with fail
          go_roundw
          case rel => exact ⟨j, by omega, rfl, by first | exact below_drewN hbx _ | exact below_drewN (below_drewN hbx _) _, drop_eqq HX.out.1 HX.out.2 hdr.out⟩
          case measure => simp [intOf]
        · by_cases hlt : x < y
          · have hd : decide (x < y) = true := by simp; omega
            have hc : cmpN A B = -1 := by
              rw [← HL.out.1, ← HL.out.2.1, cmp_lt (lt_of_drop16 HV2.out.2.2.1 HX.out.1 HX.out.2 hdr.out hlt)]
            have HC := Lib.hid hc
            clear hc
            go_wp2_with fail
            go_quiet (fail)
            go_wp2_with fail
            go_ret
            exact ⟨by rw [HC.out]; rfl, HV2.out.2.2.2.2.trans ((below_drewN hbx _).mono HV2.out.2.2.2.2.size)⟩
          · have hgt : y < x := by omega
            have hd : decide (x < y) = false := by simp; omega
            have hd2 : decide (y < x) = true := by simp; omega
            have hc : cmpN A B = 1 := by
              rw [← HL.out.1, ← HL.out.2.1, cmp_gt (lt_of_drop16 HV2.out.2.2.2.1 HX.out.2 HX.out.1 hdr.out.symm hgt)]
            have HC := Lib.hid hc
            clear hc
            go_wp2_with fail
            go_quiet (fail)
            go_wp2_with fail
            go_quiet (fail)
            go_wp2_with fail
            go_ret
            exact ⟨by rw [HC.out]; rfl, by first | exact HV2.out.2.2.2.2.trans ((below_drewN hbx _).mono HV2.out.2.2.2.2.size) | exact HV2.out.2.2.2.2.trans ((below_drewN (below_drewN hbx _) _).mono HV2.out.2.2.2.2.size)⟩
  · have HC := Lib.hid (cmp_gt (HL.out.2.2.1 hl'))
    have h1 : ((a.length : Int) != (b.length : Int)) = true := by simp; omega
    have h2 : decide (a.length < b.length) = false := by simp; omega
    go_wp2_with fail
    go_ret
    exact ⟨by rw [HC.out]; try rfl, HV2.out.2.2.2.2⟩

/-- modulo 2^64 -/
def lowN (n : Nat) : Nat := n % 18446744073709551616
theorem low16 {n : Nat} : V16 ((D16 n).take 4) = lowN n := by
  have hv : V16 (D16 n) = n := V16_D16 n
  have h1 := valB_lt (B := 65536) (by omega) (okB_take (D16_ok n) 4)
  rcases Nat.lt_or_ge (D16 n).length 4 with h | h
  · rw [List.take_of_length_le (by omega)] at h1 ⊢
    have h2 : 65536 ^ (D16 n).length ≤ 65536 ^ 4 := Nat.pow_le_pow_right (by omega) (by omega)
    rw [show 65536 ^ 4 = 18446744073709551616 by decide] at h2
    change V16 (D16 n) < _ at h1
    rw [hv] at h1 ⊢
    unfold lowN
    omega
  · have hs := valB_split 65536 (D16 n) 4 h
    rw [List.length_take, Nat.min_eq_left h, show 65536 ^ 4 = 18446744073709551616 by decide] at h1
    rw [show 65536 ^ 4 = 18446744073709551616 by decide] at hs
    change V16 (D16 n) = V16 ((D16 n).take 4) + _ at hs
    change V16 ((D16 n).take 4) < _ at h1
    rw [hv] at hs
    unfold lowN
    omega
/-- x, read so far from the top digit down to place j of the lowest four -/
structure LowInv (n j x : Nat) : Prop where
  le : j ≤ 4
  val : x = V16 (((D16 n).take 4).drop j)
theorem LowInv.lt {n j x : Nat} (h : LowInv n j x) : x < 65536 ^ (4 - j) := by
  have h1 := valB_lt (B := 65536) (by omega) (okB_drop (okB_take (D16_ok n) 4) j)
  rw [h.val]
  refine Nat.lt_of_lt_of_le h1 (Nat.pow_le_pow_right (by omega) ?_)
  rw [List.length_drop, List.length_take]; omega
theorem LowInv.start (n : Nat) : LowInv n 4 0 := ⟨Nat.le_refl _, by rw [List.drop_of_length_le (by rw [List.length_take]; omega)]; rfl⟩
theorem LowInv.step {n j x y : Nat} (h : LowInv n (j + 1) x) (hy : (D16 n)[j]? = some y) : LowInv n j (x * 65536 + y) := by
  have hj := h.le
  refine ⟨by omega, ?_⟩
  have hy' : ((D16 n).take 4)[j]? = some y := by rw [List.getElem?_take, if_pos (by omega)]; exact hy
  have := valB_dropq 65536 hy'
  show _ = valB 65536 _
  rw [this, h.val]
  show V16 _ * 65536 + y = y + 65536 * V16 _
  omega
theorem LowInv.over {n j x : Nat} (h : LowInv n (j + 1) x) (hj : (D16 n).length ≤ j) : LowInv n j (x * 65536) := by
  have hle := h.le
  have e : x = 0 := by rw [h.val, List.drop_of_length_le (by rw [List.length_take]; omega)]; rfl
  refine ⟨by omega, ?_⟩
  rw [List.drop_of_length_le (by rw [List.length_take]; omega), e]; rfl
theorem LowInv.done {n x : Nat} (h : LowInv n 0 x) : x = lowN n := by rw [h.val, List.drop_zero, low16]

def LowRel (n : Nat) (w2 : World) (v4 v5 : Value) (wr : World) : Prop :=
  ∃ (j x : Nat), v5 = .int .i64 ((j : Int) - 1) ∧ v4 = .int .u64 (x : Int) ∧ LowInv n j x ∧ w2 = wr
end Go.Proofs.YtgdjnohhofbcnaaGreatDoor
end
section
namespace Go.Proofs.YtgdjnohhofbcnaaGreatDoor
open Go.RowKit NatM

/-- two lists of digits, added so far up to place i -/
structure SInv (a b : List Nat) (i c : Nat) (out : List Nat) : Prop where
  len : out.length = i
  ok : okB 65536 out
  car : c ≤ 1
  val : V16 out + 65536 ^ i * c = V16 (a.take i) + V16 (b.take i)
  bnd : i ≤ max a.length b.length + 1
theorem SInv.start (a b : List Nat) : SInv a b 0 0 [] := ⟨rfl, okB_nil _, by omega, by simp [V16, valB], by omega⟩
theorem SInv.stop {a b : List Nat} {i c : Nat} {out : List Nat} (ha : okB 65536 a) (hb : okB 65536 b) (h : SInv a b i c out) (hi : max a.length b.length < i) : c = 0 := by
  have hv := h.val
  rw [List.take_of_length_le (by omega), List.take_of_length_le (by omega)] at hv
  have h1 := valB_lt (B := 65536) (by omega) ha
  have h2 := valB_lt (B := 65536) (by omega) hb
  have h3 : 65536 ^ a.length ≤ 65536 ^ (i - 1) := Nat.pow_le_pow_right (by omega) (by omega)
  have h4 : 65536 ^ b.length ≤ 65536 ^ (i - 1) := Nat.pow_le_pow_right (by omega) (by omega)
  have h5 : 65536 ^ i = 65536 * 65536 ^ (i - 1) := by rw [Nat.mul_comm, ← Nat.pow_succ]; congr 1; omega
  rcases Nat.eq_zero_or_pos c with h0 | h0
  · exact h0
  · exfalso
    have h6 : 65536 ^ i * 1 ≤ 65536 ^ i * c := Nat.mul_le_mul_left _ h0
    change V16 a < _ at h1
    change V16 b < _ at h2
    omega
theorem SInv.step {a b : List Nat} {i c : Nat} {out : List Nat} (ha : okB 65536 a) (hb : okB 65536 b) (h : SInv a b i c out) (hgo : i < a.length ∨ i < b.length ∨ 0 < c) :
    SInv a b (i + 1) ((c + limbAt a i + limbAt b i) / 65536) (out ++ [(c + limbAt a i + limbAt b i) % 65536]) := by
  have hv := h.val
  have hl := h.len
  have hc := h.car
  have hst := h.stop ha hb
  have hx := limb_lt (B := 65536) (by omega) ha i
  have hy := limb_lt (B := 65536) (by omega) hb i
  refine ⟨by rw [List.length_append, List.length_singleton, hl], okB_snoc h.ok (by omega), by omega, ?_, ?_⟩
  · show valB 65536 _ + _ = valB 65536 _ + valB 65536 _
    rw [valB_snoc, valB_take_limb, valB_take_limb, hl, Nat.pow_succ, Nat.mul_assoc, Nat.add_assoc, ← Nat.mul_add, Nat.mod_add_div, Nat.mul_add, Nat.mul_add]
    change V16 out + _ = (V16 _ + _) + (V16 _ + _)
    omega
  · have hb := h.bnd
    rcases Nat.lt_or_ge (max a.length b.length) i with h1 | h1
    · have := hst h1
      omega
    · omega
theorem SInv.done {a b : List Nat} {i : Nat} {out : List Nat} (h : SInv a b i 0 out) (ha : a.length ≤ i) (hb : b.length ≤ i) : V16 out = V16 a + V16 b := by
  have hv := h.val
  rw [List.take_of_length_le ha, List.take_of_length_le hb] at hv
  omega
theorem ok16_32 {l : List Nat} (h : okB 65536 l) : ok32 l := fun x hx => Nat.lt_of_lt_of_le (h x hx) (by omega)

def AddRel (B : Nat) (w : World) (a b : List Nat) (v7 v8 v9 : Value) (wr : World) : Prop :=
  ∃ (i c : Nat) (t : List Nat) (p : Option Addr) (cap : Nat), v7 = .slice p t.length cap ∧ v8 = .int .u32 (c : Int) ∧ v9 = .int .i64 (i : Int) ∧ SInv a b i c t ∧ NatO B wr p cap t ∧ Below B w wr

set_option maxRecDepth 100000 in
set_option maxHeartbeats 4000000 in
theorem add_ref (p q : Option Addr) (c d : Nat) (l m : List Nat) (w : World) (h : NatV w.heap.size w p c l) (k : NatV w.heap.size w q d m) (hl : l.length ≤ 1048576) (hm : m.length ≤ 1048576) :
    Calls Tryz.prog 93 #[.slice p l.length c, .slice q m.length d] w (NatPost w (V32 l + V32 m)) := by
  obtain ⟨i0, hi, hz0, hz1, hz2⟩ := info_parts info32
  have H := Lib.hid (And.intro h k)
  have HT := Lib.hid (half_any p c l w h hl)
  have HM := Lib.hid hm
  have hal := half_len h.ok
  have hbl := half_len k.ok
  obtain ⟨A, hA⟩ : ∃ A, V32 l = A := ⟨_, rfl⟩
  obtain ⟨B, hB⟩ : ∃ B, V32 m = B := ⟨_, rfl⟩
  have HBB := Lib.hid hB
  rw [hA] at HT hal ⊢
  rw [hB] at hbl ⊢
  have hal2 : (D16 A).length ≤ 2097152 := by omega
  have hbl2 : (D16 B).length ≤ 2097152 := by omega
  clear h k hm hal hbl hl
  go_enter Tryz.func93, Tryz.ntmps93
  go_wp2_with fail
  refine HT.out.mono ?_
  rintro e w1 ⟨p1, c1, rfl, ho1, hb1⟩
  have HT2 := half_any q d m w1 (H.out.2.next hb1) HM.out
  rw [HBB.out] at HT2
  have HO := Lib.hid (And.intro ho1 hb1)
  clear ho1 hb1 hA hB
  go_wp2_with fail
  refine HT2.mono ?_
  rintro e w2 ⟨p2, c2, rfl, ho2, hb2⟩
  have hva : V16 (D16 A) = A := V16_D16 _
  have hvb : V16 (D16 B) = B := V16_D16 _
  have HV2 := Lib.hid (And.intro (HO.out.1.next hb2).toV (And.intro ho2.toV (And.intro (D16_ok A) (And.intro (D16_ok B) (HO.out.2.trans (hb2.mono HO.out.2.size))))))
  clear HT2 ho2 hb2
  obtain ⟨a, ha⟩ : ∃ a, D16 A = a := ⟨_, rfl⟩
  obtain ⟨b, hb⟩ : ∃ b, D16 B = b := ⟨_, rfl⟩
  rw [ha] at HV2 hva hal2 ⊢
  rw [hb] at HV2 hvb hbl2 ⊢
  have HL := Lib.hid (And.intro hva hvb)
  clear hva hvb ha hb
  have hws := HV2.out.2.2.2.2.size
  go_wp2_with fail
  go_loopw [7, 8, 9] (fun v7 v8 v9 wr => AddRel w2.heap.size w2 a b v7 v8 v9 wr) (fun _ _ v _ => max a.length b.length + 2 - (intOf v).toNat)
  case atStart => exact ⟨0, 0, [], none, 0, rfl, rfl, rfl, SInv.start a b, NatO.nothing _ _, Below.refl _ _⟩
  case round =>
    obtain ⟨i, c, t, p', cap, rfl, rfl, rfl, hS, ho, hbx⟩ := hrel
    have hwB : w2.heap.size ≤ wr.heap.size := hbx.size
    have hil := hS.bnd
    have htl := hS.len
    have hc1 := hS.car
    by_cases hgo : i < a.length ∨ i < b.length ∨ 0 < c
    · have hst := hS.step HV2.out.2.2.1 HV2.out.2.2.2.1 hgo
      have hxl := limb_lt (B := 65536) (by omega) HV2.out.2.2.1 i
      have hyl := limb_lt (B := 65536) (by omega) HV2.out.2.2.2.1 i
      obtain ⟨x, hx⟩ : ∃ x, limbAt a i = x := ⟨_, rfl⟩
      obtain ⟨y, hy⟩ : ∃ y, limbAt b i = y := ⟨_, rfl⟩
      rw [hx, hy] at hst
      rw [hx] at hxl
      rw [hy] at hyl
      have HX := Lib.hid (And.intro hx hy)
      have HS := Lib.hid (And.intro hst (And.intro ho hbx))
      have hown := ho.own
      have HTL := Lib.hid htl
      have htm : t.length ≤ 2097153 := by omega
      clear hx hy hst ho hbx hS htl
      rcases (show i < a.length ∨ (¬ i < a.length ∧ i < b.length) ∨ (¬ i < a.length ∧ ¬ i < b.length ∧ 0 < c) by omega) with hg | ⟨hg, hg2⟩ | ⟨hg, hg2, hg3⟩
      all_goals
        clear hgo
        go_upto_if 33 with fail
        go_cut [8] (fun v8 wx => v8 = .int .u32 ((c + x : Nat) : Int) ∧ wr = wx)
        case first =>
          by_cases hia : i < a.length
          · first
              | exact absurd hia hg
              | (obtain ⟨bl, off, rfl, hlt, hc⟩ := (HV2.out.1.below HS.out.2.2).cell (List.length_pos_iff.1 (by omega))
                 obtain ⟨x', hx'⟩ := some_get hia
                 have hcl := hc i x' hx'
                 have hxx : x' = x := by rw [← HX.out.1, limb_some hx']
                 subst hxx
                 clear hc hx'
                 go_wp2_with fail
                 go_meet
                 exact ⟨by go_num, rfl⟩)
          · have hx0 : x = 0 := by rw [← HX.out.1, limb_none (by omega)]
            subst hx0
            first
              | exact absurd hg hia
              | (go_wp2_with fail
                 go_meet
                 exact ⟨rfl, rfl⟩)
        case rest =>
          obtain ⟨rfl, rfl⟩ := hcut
          go_upto_if 43 with fail
          go_cut [8] (fun v8 wx => v8 = .int .u32 ((c + x + y : Nat) : Int) ∧ wr = wx)
          case first =>
            by_cases hia : i < b.length
            · first
                | exact absurd hia hg2
                | (obtain ⟨bl, off, rfl, hlt, hc⟩ := (HV2.out.2.1.below HS.out.2.2).cell (List.length_pos_iff.1 (by omega))
                   obtain ⟨x', hx'⟩ := some_get hia
                   have hcl := hc i x' hx'
                   have hxx : x' = y := by rw [← HX.out.2, limb_some hx']
                   subst hxx
                   clear hc hx'
                   go_wp2_with fail
                   go_meet
                   exact ⟨by go_num, rfl⟩)
            · have hx0 : y = 0 := by rw [← HX.out.2, limb_none (by omega)]
              subst hx0
              first
                | exact absurd hg2 hia
                | (go_wp2_with fail
                   go_meet
                   exact ⟨rfl, rfl⟩)
          case rest =>
            obtain ⟨rfl, rfl⟩ := hcut
            obtain ⟨u, hu⟩ : ∃ u, c + x + y = u := ⟨_, rfl⟩
            rw [hu] at HS ⊢
            have hul : u < 131072 := by omega
            clear hu
            go_wp2_with (at_builtin; refine wpList_append_own _ rfl _ _ 43 rfl w2.heap.size 94 i0 (.int .u32 0) 1 4 Tryz.underlying43 hi hz0 hz1 hz2 rfl (by decide) _ t.length (cells32 t) rfl (hown.alloc _) ⟨wr.heap.size, 0, none⟩ 1 1 _ rfl rfl (cell_one_new _ _ _) ?c2 ?c3 ?c4 ?c5 ?_)
            case c2 => intro u hu; simp at hu; subst hu; rfl
            case c3 => unfold maxLen; omega
            case c4 => omega
            case c5 => simp; omega
            intro v' w3 hown' hgrow _
            rw [show ((u : Int) % 65536) = ((u % 65536 : Nat) : Int) by omega] at hown'
            obtain ⟨q', cap', rfl, ho1⟩ := NatO.snoc (x := u % 65536) hown' HS.out.2.1.ok (by omega)
            have hb1 : Below w2.heap.size w2 w3 := (HS.out.2.2.alloc hwB _).grown hgrow (by simp; omega) (fun j hj => (hown.lt j hj).1)
            have HO2 := Lib.hid (And.intro ho1 hb1)
            clear hown hown' hgrow ho1 hb1
            go_wp2_with fail
            go_roundw
            case rel => exact ⟨i + 1, u / 65536, t ++ [u % 65536], q', cap', rfl, by go_num, by go_num, HS.out.1, HO2.out.1, HO2.out.2⟩
            case measure => simp [intOf]; omega
    · have hia : a.length ≤ i := by omega
      have hib : b.length ≤ i := by omega
      obtain rfl : c = 0 := by omega
      have hd := hS.done hia hib
      have hw := whole_any p' cap t wr ho.toV hS.ok (by omega)
      rw [hd, HL.out.1, HL.out.2] at hw
      have HB := Lib.hid hbx
      clear hd hS ho hbx hgo htl hil
      go_wp2_with fail
      refine hw.mono ?_
      rintro e w4 ⟨p4, c4, rfl, ho4, hb4⟩
      have HW := Lib.hid (And.intro ho4 hb4)
      have hz := Nat.le_trans hws hwB
      clear hw ho4 hb4
      go_wp2_with fail
      go_ret
      exact ⟨p4, c4, rfl, HW.out.1.base hz, HV2.out.2.2.2.2.trans ((HB.out.mono hws).trans (HW.out.2.mono hz))⟩

end Go.Proofs.YtgdjnohhofbcnaaGreatDoor
end
section
namespace Go.Proofs.YtgdjnohhofbcnaaGreatDoor
open Go.RowKit NatM

def SumRefRel (w : World) (L : List Nt) (v3 v4 : Value) (wr : World) : Prop :=
  ∃ (k : Nat) (p : Option Addr) (cap : Nat), k ≤ L.length ∧ v4 = .int .i64 (k : Int) ∧ v3 = .slice p (D32 (sumV (L.take k))).length cap ∧ NatO w.heap.size wr p cap (D32 (sumV (L.take k))) ∧ Below w.heap.size w wr
end Go.Proofs.YtgdjnohhofbcnaaGreatDoor
end
section
namespace Go.Proofs.YtgdjnohhofbcnaaGreatDoor
open Go.RowKit Go.Extern.Stop Go.Stop Go.Extern

theorem Root_any (n : Int) (w : World) (A : Nat → Addr) (hr : Roots w A) :
    Calls Tryz.prog 44 #[.int .i64 n] w fun e w' => e = .returned (.iface 212 (.pointer (some (A (known n))))) ∧ w = w' := by
  have r0 : w.cell? ⟨11, 0, none⟩ = some (.iface 212 (.pointer (some (A 0)))) := hr.var 0 (by decide)
  have r1 : w.cell? ⟨0, 0, none⟩ = some (.iface 212 (.pointer (some (A 1)))) := hr.var 1 (by decide)
  have r2 : w.cell? ⟨1, 0, none⟩ = some (.iface 212 (.pointer (some (A 2)))) := hr.var 2 (by decide)
  have r3 : w.cell? ⟨2, 0, none⟩ = some (.iface 212 (.pointer (some (A 3)))) := hr.var 3 (by decide)
  have r4 : w.cell? ⟨3, 0, none⟩ = some (.iface 212 (.pointer (some (A 4)))) := hr.var 4 (by decide)
  have r5 : w.cell? ⟨4, 0, none⟩ = some (.iface 212 (.pointer (some (A 5)))) := hr.var 5 (by decide)
  have r6 : w.cell? ⟨5, 0, none⟩ = some (.iface 212 (.pointer (some (A 6)))) := hr.var 6 (by decide)
  have r7 : w.cell? ⟨6, 0, none⟩ = some (.iface 212 (.pointer (some (A 7)))) := hr.var 7 (by decide)
  have r8 : w.cell? ⟨7, 0, none⟩ = some (.iface 212 (.pointer (some (A 8)))) := hr.var 8 (by decide)
  have r9 : w.cell? ⟨8, 0, none⟩ = some (.iface 212 (.pointer (some (A 9)))) := hr.var 9 (by decide)
  have r10 : w.cell? ⟨9, 0, none⟩ = some (.iface 212 (.pointer (some (A 10)))) := hr.var 10 (by decide)
  have r11 : w.cell? ⟨10, 0, none⟩ = some (.iface 212 (.pointer (some (A 11)))) := hr.var 11 (by decide)
  clear hr
  rcases (by omega : n = 1 ∨ n = 2 ∨ n = 3 ∨ n = 4 ∨ n = 5 ∨ n = 6 ∨ n = 7 ∨ n = 8 ∨ n = 9 ∨ n = 10 ∨ n = 11 ∨ n < 1 ∨ 11 < n) with rfl | rfl | rfl | rfl | rfl | rfl | rfl | rfl | rfl | rfl | rfl | h | h
  all_goals
    go_enter Tryz.func44, Tryz.ntmps44
    go_wp2
    go_ret
  iterate 11 exact ⟨rfl, rfl⟩
  · exact ⟨by rw [show known n = 0 by unfold known; rw [if_neg (by omega)]]; rfl, rfl⟩
  · exact ⟨by rw [show known n = 0 by unfold known; rw [if_neg (by omega)]]; rfl, rfl⟩

/-- errors.As where a Fault is found. -/
theorem errorsAs_hit (t : Tree) (b : Nat) (w : World) (g : Nat) (ht : t.first = some b) (hl : t.lies w) (hs : Slot w g) (hT : TypeVar w) :
    Calls Tryz.prog 45 #[t.val, .iface 87 (.pointer (some ⟨g, 0, none⟩))] w fun e w' => e = .returned (.bool true) ∧ Below g w w' ∧ w'.cell? ⟨g, 0, none⟩ = some (.pointer (some ⟨b, 0, none⟩)) := by
  refine (errorsAs t w g hl hs hT).mono ?_
  rintro e w' (⟨h1, _⟩ | ⟨b', h1, h2, h3, h4, _⟩)
  · rw [ht] at h1; cases h1
  · obtain rfl := Option.some.inj (ht.symm.trans h1)
    exact ⟨h2, h3, h4⟩

/-- Faults one within another, and then an errorString. -/
def chainT : List (Nat × ByteArray × Int) → Addr → Tree
  | [], a => .leaf a
  | (b, op, pl) :: r, a => .fault b op pl (chainT r a)
theorem chain_hits (a : Addr) : ∀ bs : List (Nat × ByteArray × Int), (chainT bs a).hits 212 a = true
  | [] => by simp [chainT, Tree.hits]
  | (b, op, pl) :: r => by
    have ih := chain_hits a r
    simp only [chainT, Tree.hits, ih, Bool.or_true]
theorem chain_held (a : Addr) (bs : List (Nat × ByteArray × Int)) : (chainT bs a).isNil = false := by cases bs <;> rfl

/-- What an Err says of packages and places: two slices that read the list. -/
structure WantV (w : World) (po pa : Option Addr) (co ca : Nat) (L : List (ByteArray × Int)) : Prop where
  ops : L ≠ [] → ∃ b off, po = some ⟨b, off, none⟩ ∧ b < w.heap.size ∧ ∀ (j : Nat) (x : ByteArray × Int), L[j]? = some x → w.cell? ⟨b, off + j, none⟩ = some (.string x.1)
  ats : L ≠ [] → ∃ b off, pa = some ⟨b, off, none⟩ ∧ b < w.heap.size ∧ ∀ (j : Nat) (x : ByteArray × Int), L[j]? = some x → w.cell? ⟨b, off + j, none⟩ = some (.int .i64 x.2)
  leo : L.length ≤ co
  lea : L.length ≤ ca
  capo : co ≤ maxLen
  capa : ca ≤ maxLen
theorem WantV.below {w w' : World} {po pa : Option Addr} {co ca : Nat} {L : List (ByteArray × Int)} (hb : Below w.heap.size w w') (h : WantV w po pa co ca L) : WantV w' po pa co ca L :=
  ⟨fun hn => by
    obtain ⟨b, off, hp, hlt, hc⟩ := h.ops hn
    exact ⟨b, off, hp, Nat.lt_of_lt_of_le hlt hb.size, fun j x hx => (hb.cell (p := ⟨b, off + j, none⟩) hlt).trans (hc j x hx)⟩, fun hn => by
    obtain ⟨b, off, hp, hlt, hc⟩ := h.ats hn
    exact ⟨b, off, hp, Nat.lt_of_lt_of_le hlt hb.size, fun j x hx => (hb.cell (p := ⟨b, off + j, none⟩) hlt).trans (hc j x hx)⟩, h.leo, h.lea, h.capo, h.capa⟩

theorem cell_alloc_at (w : World) (cs : Array Value) (t : TypeId) (n j : Nat) (hn : w.heap.size = n) : (w.alloc (.cells cs t)).cell? ⟨n, j, none⟩ = cs[j]? := by
  subst hn
  exact cell_of_row _ _ _ cs t (0, 0) (heap_alloc_new w _)

def RawNewPost (w : World) (op : ByteArray) (pl n : Int) (e : Ending) (w' : World) : Prop :=
  ∃ po pa, e = .returned (.agg #[.int .i64 n, .slice po 1 1, .slice pa 1 1]) ∧ WantV w' po pa 1 1 [(op, pl)] ∧ Below w.heap.size w w'
theorem raw_new (op : ByteArray) (pl n : Int) (w : World) :
    Calls Tryz.prog 38 #[.string op, .int .i64 pl, .int .i64 n] w (RawNewPost w op pl n) := by
  go_enter Tryz.func38, Tryz.ntmps38
  go_wp2_with fail
  refine bodyPost_ret (v := .agg #[.int .i64 n, .slice (some ⟨w.heap.size + 1, 0, none⟩) 1 1, .slice (some ⟨w.heap.size + 1 + 1, 0, none⟩) 1 1]) (by simp [results, Tryz.results38, go_sem]) rfl ⟨_, _, rfl, ⟨fun _ => ⟨_, _, rfl, by simp, fun j x hx => ?_⟩, fun _ => ⟨_, _, rfl, by simp, fun j x hx => ?_⟩, Nat.le_refl _, Nat.le_refl _, by decide, by decide⟩, ?_⟩
  · match j, hx with
    | 0, hx =>
      simp at hx
      subst hx
      show World.cell? _ ⟨w.heap.size + 1, 0, none⟩ = _
      rw [World.cell?_alloc_lt _ _ ⟨w.heap.size + 1, 0, none⟩ (by simp), cell_alloc_at _ _ _ _ _ (by simp)]
      rfl
  · match j, hx with
    | 0, hx =>
      simp at hx
      subst hx
      show World.cell? _ ⟨w.heap.size + 1 + 1, 0, none⟩ = _
      rw [cell_alloc_at _ _ _ _ _ (by simp)]
      rfl
  · exact (((Below.refl _ _).alloc (Nat.le_refl _) _).alloc (by simp) _).alloc (by simp; omega) _

def TruePost (w : World) (e : Ending) (w' : World) : Prop := e = .returned (.bool true) ∧ Below w.heap.size w w'

theorem Is_none (po pa : Option Addr) (no na co ca : Nat) (w : World) :
    Calls Tryz.prog 11 #[.nilIface, .agg #[.int .i64 0, .slice po no co, .slice pa na ca]] w (TruePost w) := by
  go_enter Tryz.func11, Tryz.ntmps11
  go_wp2_with fail
  go_ret
  exact ⟨rfl, (Below.refl _ _).alloc (Nat.le_refl _) _⟩

theorem chain_lies_drop {w : World} (a : Addr) : ∀ (j : Nat) {bs : List (Nat × ByteArray × Int)}, (chainT bs a).lies w → j ≤ bs.length → (chainT (bs.drop j) a).lies w
  | 0, _, h, _ => h
  | j + 1, (b, op, pl) :: r, h, hj => by
    have h' : (Tree.fault b op pl (chainT r a)).lies w := h
    exact chain_lies_drop a j (bs := r) h'.2.1 (by simpa using hj)
  | j + 1, [], _, hj => by simp at hj

def ChainRel (w wb : World) (bs : List (Nat × ByteArray × Int)) (a : Addr) (gk : Nat) (v0 v5 : Value) (wr : World) : Prop :=
  ∃ j : Nat, j ≤ bs.length ∧ v0 = (chainT (bs.drop j) a).val ∧ v5 = .int .i64 (j : Int) ∧ Below wb.heap.size wb wr ∧ Below w.heap.size w wr ∧ bs.length - j ≤ gk

set_option maxRecDepth 100000 in
set_option maxHeartbeats 8000000 in
theorem Is_chain (bs : List (Nat × ByteArray × Int)) (k : Nat) (hk : 1 ≤ k ∧ k ≤ 11) (po pa : Option Addr) (n ko ka : Nat) (w : World) (A : Nat → Addr) (hr : Roots w A) (hT : TypeVar w) (hl : (chainT bs (A k)).lies w) (hw : WantV w po pa ko ka (bs.map Prod.snd)) (hn : n = bs.length) :
    Calls Tryz.prog 11 #[(chainT bs (A k)).val, .agg #[.int .i64 (k : Int), .slice po n ko, .slice pa n ka]] w (TruePost w) := by
  subst hn
  have hkn : known (k : Int) = k := by unfold known; rw [if_pos (by omega)]; rfl
  have hn1 := eql_isNil (chainT bs (A k))
  have hn2 := guard_isNil (chainT bs (A k))
  rw [chain_held] at hn1
  have hleo : bs.length ≤ ko := by have := hw.leo; rwa [List.length_map] at this
  have hlea : bs.length ≤ ka := by have := hw.lea; rwa [List.length_map] at this
  have hcapo := hw.capo
  have hcapa := hw.capa
  unfold maxLen at hcapo hcapa
  have hB1 : Below w.heap.size w (w.alloc (.cells #[.int .i64 (k : Int), .slice po bs.length ko, .slice pa bs.length ka] 32)) := (Below.refl _ _).alloc (Nat.le_refl _) _
  have hk0 : ((k : Int) == 0) = false := by rw [beq_eq_false_iff_ne]; omega
  have HH := Lib.hid (And.intro hr (And.intro hT (And.intro hl (And.intro hw hkn))))
  have HB1 := Lib.hid hB1
  clear hr hT hl hw hkn hB1
  go_enter Tryz.func11, Tryz.ntmps11
  go_wp2_with fail
  refine (Root_any (k : Int) _ A (HH.out.1.below HB1.out)).mono ?_
  rintro e w' ⟨rfl, rfl⟩
  rw [HH.out.2.2.2.2]
  go_wp2_with fail
  refine (errorsIs (chainT bs (A k)) _ 212 (A k) (Tree.lies_below HB1.out (t := chainT bs (A k)) HH.out.2.2.1) ((HH.out.1.below HB1.out).there k hk.2) (Or.inl rfl)).mono ?_
  rintro e w2 ⟨rfl, hb2⟩
  rw [chain_hits]
  obtain ⟨wb, hwb⟩ : ∃ wb, w.alloc (.cells #[.int .i64 (k : Int), .slice po bs.length ko, .slice pa bs.length ka] 32) = wb := ⟨_, rfl⟩
  have hbs : wb.heap.size = w.heap.size + 1 := by rw [← hwb]; simp
  have hc0 : wb.cell? ⟨w.heap.size, 0, none⟩ = some (.int .i64 (k : Int)) := by rw [← hwb]; simp
  have hc1 : wb.cell? ⟨w.heap.size, 1, none⟩ = some (.slice po bs.length ko) := by rw [← hwb]; simp
  have hc2 : wb.cell? ⟨w.heap.size, 2, none⟩ = some (.slice pa bs.length ka) := by rw [← hwb]; simp
  have HC := Lib.hid (And.intro hc0 (And.intro hc1 (And.intro hc2 hbs)))
  rw [hwb] at HB1 hb2
  have HW2 := Lib.hid (And.intro hb2 (HB1.out.trans (hb2.mono (by rw [hbs]; omega))))
  clear hc0 hc1 hc2 hbs hwb hb2 hn1 hn2
  go_wp2_with fail
  go_loopg [0, 5] bs.length (fun gk v0 v5 wr => ChainRel w wb bs (A k) gk v0 v5 wr)
  case atStart => exact ⟨0, Nat.zero_le _, rfl, rfl, HW2.out.1, HW2.out.2, by omega⟩
  case round =>
    obtain ⟨j, hj, rfl, rfl, hbb, hbw, hgk⟩ := hrel
    have hgB : w.heap.size < wr.heap.size := by have := hbb.size; have := HC.out.2.2.2; omega
    have hgb1 : w.heap.size < wb.heap.size := by have := HC.out.2.2.2; omega
    have hr1 : wr.cell? ⟨w.heap.size, 1, none⟩ = some (.slice po bs.length ko) := (hbb.cell (p := ⟨w.heap.size, 1, none⟩) hgb1).trans HC.out.2.1
    have HBB := Lib.hid (And.intro hbb hbw)
    by_cases hlt : j < bs.length
    · obtain ⟨x, hx⟩ : ∃ x, bs[j]? = some x := ⟨_, List.getElem?_eq_getElem hlt⟩
      obtain ⟨b, op, pl⟩ := x
      have hdr : bs.drop j = (b, op, pl) :: bs.drop (j + 1) := by
        obtain ⟨h1, h2⟩ := List.getElem?_eq_some_iff.1 hx
        rw [List.drop_eq_getElem_cons h1, h2]
      have hlj := chain_lies_drop (A k) j (Tree.lies_below hbw (t := chainT bs (A k)) HH.out.2.2.1) (Nat.le_of_lt hlt)
      rw [hdr] at hlj ⊢
      have hlj : (Tree.fault b op pl (chainT (bs.drop (j + 1)) (A k))).lies wr := hlj
      have hv : (chainT ((b, op, pl) :: bs.drop (j + 1)) (A k)).val = .iface 85 (.pointer (some ⟨b, 0, none⟩)) := rfl
      rw [hv]
      obtain ⟨rest, hrest⟩ : ∃ rest, chainT (bs.drop (j + 1)) (A k) = rest := ⟨_, rfl⟩
      rw [hrest] at hlj
      have hbl : b < wr.heap.size := heap_lt hlj.1
      have c0 : wr.cell? ⟨b, 0, none⟩ = some (.string op) := by simp [World.cell?, hlj.1]
      have c1 : wr.cell? ⟨b, 1, none⟩ = some (.int .i64 pl) := by simp [World.cell?, hlj.1]
      have c2 : wr.cell? ⟨b, 2, none⟩ = some rest.val := by simp [World.cell?, hlj.1]
      have hmx : (bs.map Prod.snd)[j]? = some (op, pl) := by rw [List.getElem?_map, hx]; rfl
      have hne : bs.map Prod.snd ≠ [] := by intro e; rw [e] at hmx; simp at hmx
      have hWr := HH.out.2.2.2.1.below hbw
      obtain ⟨bo, oo, rfl, hbo, hco⟩ := hWr.ops hne
      obtain ⟨ba, oa, rfl, hba, hca⟩ := hWr.ats hne
      have co := hco j _ hmx
      have ca := hca j _ hmx
      have hr2 : wr.cell? ⟨w.heap.size, 2, none⟩ = some (.slice (some ⟨ba, oa, none⟩) bs.length ka) := (hbb.cell (p := ⟨w.heap.size, 2, none⟩) hgb1).trans HC.out.2.2.1
      have HF := Lib.hid (And.intro c0 (And.intro c1 (And.intro c2 (And.intro hlj hrest))))
      have HG := Lib.hid (And.intro hr1 (And.intro hr2 (And.intro co ca)))
      have HTr := Lib.hid (HH.out.2.1.below hbw)
      clear hx hdr hv hrest c0 c1 c2 hmx hne hWr hco hca hr2 co ca hlj hbb hbw
      go_upto_region 9 with fail
      go_cut [60] (fun v wx => v = .bool false ∧ Below wr.heap.size wr wx ∧ wx.cell? ⟨wr.heap.size, 0, none⟩ = some (.pointer (some ⟨b, 0, none⟩)))
      case first =>
        have hd : Below wr.heap.size wr (wr.alloc (.cells #[.pointer none] 85)).drew := ((Below.refl _ _).alloc (Nat.le_refl _) _).drew
        have hdl := Tree.lies_below hd (t := .fault b op pl rest) HF.out.2.2.2.1
        have hsl : Slot (wr.alloc (.cells #[.pointer none] 85)).drew wr.heap.size := ⟨by simp, ⟨.pointer none, by simp⟩, by simp⟩
        have HD := Lib.hid (And.intro hdl hsl)
        clear hdl hsl hr1
        go_region_with (first
          | (go_at_call 45; refine (errorsAs_hit (.fault b op pl rest) b _ wr.heap.size rfl ?_ ?_ ?_).mono ?_; exact HD.out.1; exact HD.out.2; exact HTr.out.below hd; rintro e w' ⟨rfl, hbx, k3⟩; have hb' := hd.trans hbx; have k0 := (hb'.cell (p := ⟨b, 0, none⟩) hbl).trans HF.out.1; have k1 := (hb'.cell (p := ⟨b, 1, none⟩) hbl).trans HF.out.2.1; have m1 := (hb'.cell (p := ⟨w.heap.size, 1, none⟩) hgB).trans HG.out.1; have m2 := (hb'.cell (p := ⟨w.heap.size, 2, none⟩) hgB).trans HG.out.2.1; have m3 := (hb'.cell (p := ⟨bo, oo + j, none⟩) hbo).trans HG.out.2.2.1; have m4 := (hb'.cell (p := ⟨ba, oa + j, none⟩) hba).trans HG.out.2.2.2))
        all_goals (go_wp2_with fail; go_meet; exact ⟨rfl, by assumption, by assumption⟩)
      case rest =>
        obtain ⟨rfl, hbx, k3⟩ := hcut
        have k2 := (hbx.cell (p := ⟨b, 2, none⟩) hbl).trans HF.out.2.2.1
        have HX := Lib.hid hbx
        clear hbx hr1
        go_wp2_with fail
        go_roundg (bs.length - (j + 1))
        case rel => exact ⟨j + 1, by omega, by rw [HF.out.2.2.2.2], by go_num, HBB.out.1.trans (HX.out.mono HBB.out.1.size), HBB.out.2.trans (HX.out.mono HBB.out.2.size), Nat.le_refl _⟩
        case measure => omega
    · obtain rfl : j = bs.length := by omega
      have hd : (chainT (bs.drop bs.length) (A k)).val = .iface 212 (.pointer (some (A k))) := by rw [List.drop_length]; rfl
      rw [hd]
      have hr0 : wr.cell? ⟨w.heap.size, 0, none⟩ = some (.int .i64 (k : Int)) := (hbb.cell (p := ⟨w.heap.size, 0, none⟩) hgb1).trans HC.out.1
      have hA := eql_hit wr 212 (A k) (Or.inl rfl)
      clear hd hbb hbw
      go_wp2_with fail
      refine (Root_any (k : Int) _ A (HH.out.1.below HBB.out.2)).mono ?_
      rintro e w' ⟨rfl, rfl⟩
      rw [HH.out.2.2.2.2]
      go_wp2_with fail
      go_ret
      exact ⟨rfl, HBB.out.2⟩
end Go.Proofs.YtgdjnohhofbcnaaGreatDoor
end
section
namespace Go.Proofs.YtgdjnohhofbcnaaGreatDoor
open Go.RowKit NatM

/-- a number of edenref02 that is refused: no number, and the error's number k at place pl of package nat -/
def RefErr (w : World) (pl k : Int) (v : Value) (w' : World) : Prop :=
  ∃ po pa, v = .agg #[.int .i64 k, .slice po 1 1, .slice pa 1 1] ∧ WantV w' po pa 1 1 [(natOp, pl)] ∧ Below w.heap.size w w'
def RefErr2 (w : World) (pl k : Int) (e : Ending) (w' : World) : Prop := ∃ v, e = .returned (.tuple #[.slice none 0 0, v]) ∧ RefErr w pl k v w'
def noErr : Value := .agg #[.int .i64 0, .slice none 0 0, .slice none 0 0]
def RefOk2 (w : World) (n : Nat) (e : Ending) (w' : World) : Prop :=
  ∃ p c, e = .returned (.tuple #[.slice p (D32 n).length c, noErr]) ∧ NatO w.heap.size w' p c (D32 n) ∧ Below w.heap.size w w'

/-- an Err of one package is made: its two slices are new memory -/
def RawFresh (w : World) (op : ByteArray) (pl n : Int) (e : Ending) (w' : World) : Prop :=
  ∃ g g', e = .returned (.agg #[.int .i64 n, .slice (some ⟨g, 0, none⟩) 1 1, .slice (some ⟨g', 0, none⟩) 1 1]) ∧ (w.heap.size ≤ g ∧ g < w'.heap.size ∧ w.heap.size ≤ g' ∧ g' < w'.heap.size) ∧ w'.cell? ⟨g, 0, none⟩ = some (.string op) ∧ w'.cell? ⟨g', 0, none⟩ = some (.int .i64 pl) ∧ Below w.heap.size w w'
theorem raw_fresh (op : ByteArray) (pl n : Int) (w : World) :
    Calls Tryz.prog 38 #[.string op, .int .i64 pl, .int .i64 n] w (RawFresh w op pl n) := by
  go_enter Tryz.func38, Tryz.ntmps38
  go_wp2_with fail
  refine bodyPost_ret (v := .agg #[.int .i64 n, .slice (some ⟨w.heap.size + 1, 0, none⟩) 1 1, .slice (some ⟨w.heap.size + 1 + 1, 0, none⟩) 1 1]) (by simp [results, Tryz.results38, go_sem]) rfl ⟨_, _, rfl, ⟨by omega, by simp, by omega, by simp⟩, ?_, ?_, ?_⟩
  · show World.cell? _ ⟨w.heap.size + 1, 0, none⟩ = _
    rw [World.cell?_alloc_lt _ _ ⟨w.heap.size + 1, 0, none⟩ (by simp), cell_alloc_at _ _ _ _ _ (by simp)]
    rfl
  · show World.cell? _ ⟨w.heap.size + 1 + 1, 0, none⟩ = _
    rw [cell_alloc_at _ _ _ _ _ (by simp)]
    rfl
  · exact (((Below.refl _ _).alloc (Nat.le_refl _) _).alloc (by simp) _).alloc (by simp; omega) _
theorem WantV.one {w : World} {g g' : Nat} {op : ByteArray} {pl : Int} (hg : g < w.heap.size) (hg' : g' < w.heap.size) (h : w.cell? ⟨g, 0, none⟩ = some (.string op)) (h' : w.cell? ⟨g', 0, none⟩ = some (.int .i64 pl)) : WantV w (some ⟨g, 0, none⟩) (some ⟨g', 0, none⟩) 1 1 [(op, pl)] :=
  ⟨fun _ => ⟨g, 0, rfl, hg, fun j x hx => by
    match j, hx with
    | 0, hx => simp at hx; subst hx; exact h⟩, fun _ => ⟨g', 0, rfl, hg', fun j x hx => by
    match j, hx with
    | 0, hx => simp at hx; subst hx; exact h'⟩, Nat.le_refl _, Nat.le_refl _, by decide, by decide⟩
/-- the three cells of a result of type Err are set -/
def put3 (w : World) (h : Nat) (a b c : Value) : World := ((w.setCell ⟨h, 0, none⟩ a).setCell ⟨h, 1, none⟩ b).setCell ⟨h, 2, none⟩ c
theorem put3_size (w : World) (h : Nat) (a b c : Value) : (put3 w h a b c).heap.size = w.heap.size := by simp [put3]
theorem put3_cell (w : World) (h : Nat) (a b c : Value) (p : Addr) (hp : p.block ≠ h) : (put3 w h a b c).cell? p = w.cell? p := by
  unfold put3
  have e : ∀ (u : World) (x : Addr) (v : Value), x.block = h → (u.setCell x v).cell? p = u.cell? p := fun u x v hx => World.cell?_of_block (heap_setCell_other u x p.block v (by rw [hx]; exact hp))
  rw [e _ _ _ rfl, e _ _ _ rfl, e _ _ _ rfl]
theorem put3_below {B h : Nat} {w0 w : World} (hb : Below B w0 w) (hB : B ≤ h) (a b c : Value) : Below B w0 (put3 w h a b c) := ((hb.setCell hB _).setCell hB _).setCell hB _
theorem NatO.put3 {base h : Nat} {w : World} {p : Option Addr} {c : Nat} {l : List Nat} (ho : NatO base w p c l) (hh : h < base) (a b d : Value) : NatO base (put3 w h a b d) p c l :=
  ⟨ownsRow_setCell_below (ownsRow_setCell_below (ownsRow_setCell_below ho.own (a := ⟨h, 0, none⟩) hh a) (a := ⟨h, 1, none⟩) hh b) (a := ⟨h, 2, none⟩) hh d, ho.ok⟩
/-- where the three cells of a result lie -/
structure Err3 (w : World) (h : Nat) (a b c : Value) : Prop where
  heap : w.heap[h]? = some (.cells #[a, b, c] 32 (0, 0))
theorem Err3.new (w : World) : Err3 (w.alloc (.cells #[.int .i64 0, .slice none 0 0, .slice none 0 0] 32)) w.heap.size (.int .i64 0) (.slice none 0 0) (.slice none 0 0) := ⟨heap_alloc_new w _⟩
theorem Err3.next {w w' : World} {h : Nat} {a b c : Value} (hb : Below w.heap.size w w') (k : Err3 w h a b c) : Err3 w' h a b c := ⟨by rw [hb.block _ (heap_ltN k.heap)]; exact k.heap⟩
theorem Err3.facts {w : World} {h : Nat} {a b c : Value} (k : Err3 w h a b c) : (w.frozen? ⟨h, 0, none⟩ = false ∧ w.frozen? ⟨h, 1, none⟩ = false ∧ w.frozen? ⟨h, 2, none⟩ = false) ∧ w.cell? ⟨h, 0, none⟩ = some a ∧ w.cell? ⟨h, 1, none⟩ = some b ∧ w.cell? ⟨h, 2, none⟩ = some c := by
  have hh := k.heap
  exact ⟨⟨by simp [World.frozen?, hh], by simp [World.frozen?, hh], by simp [World.frozen?, hh]⟩, cell_of_row w h 0 _ _ _ hh, cell_of_row w h 1 _ _ _ hh, cell_of_row w h 2 _ _ _ hh⟩

end Go.Proofs.YtgdjnohhofbcnaaGreatDoor
end
section
namespace Go.Proofs.YtgdjnohhofbcnaaGreatDoor
open Go.RowKit Go.Extern.Stop Go.Stop Go.Extern WordM RuleM

/-- a rule in a block of its own -/
structure Rul3 (w : World) (h : Nat) (a b c : Value) : Prop where
  heap : w.heap[h]? = some (.cells #[a, b, c] 24 (0, 0))
theorem Rul3.new (w : World) (a b c : Value) : Rul3 (w.alloc (.cells #[a, b, c] 24)) w.heap.size a b c := ⟨heap_newN w _⟩
theorem Rul3.next {w w' : World} {h : Nat} {a b c : Value} (hb : Below w.heap.size w w') (k : Rul3 w h a b c) : Rul3 w' h a b c := ⟨(hb.block h (heap_ltN k.heap)).trans k.heap⟩
theorem Rul3.lt {w : World} {h : Nat} {a b c : Value} (k : Rul3 w h a b c) : h < w.heap.size := heap_ltN k.heap
theorem Rul3.facts {w : World} {h : Nat} {a b c : Value} (k : Rul3 w h a b c) : (w.frozen? ⟨h, 0, none⟩ = false ∧ w.frozen? ⟨h, 1, none⟩ = false ∧ w.frozen? ⟨h, 2, none⟩ = false) ∧ w.cell? ⟨h, 0, none⟩ = some a ∧ w.cell? ⟨h, 1, none⟩ = some b ∧ w.cell? ⟨h, 2, none⟩ = some c :=
  ⟨⟨by simp [World.frozen?, k.heap], by simp [World.frozen?, k.heap], by simp [World.frozen?, k.heap]⟩, cell_of_row w h 0 _ _ _ k.heap, cell_of_row w h 1 _ _ _ k.heap, cell_of_row w h 2 _ _ _ k.heap⟩

theorem strayN_ok {k : Nat} {l : List Int} (h : okW k l) : strayN k l = l.length := by
  unfold strayN
  rw [bad_none.2 h]; rfl
theorem strayN_bad {k : Int} {l : List Int} {i : Nat} (h : l.findIdx? (badAt k) = some i) : strayN k l = i := by
  unfold strayN
  rw [h]; rfl
theorem strayN_lt {k : Int} {l : List Int} {i : Nat} (h : l.findIdx? (badAt k) = some i) : i < l.length := by
  obtain ⟨hil, _⟩ := List.findIdx?_eq_some_iff_getElem.1 h
  exact hil

set_option maxRecDepth 100000 in
set_option maxHeartbeats 1000000 in
theorem rcheck_ok (k r : Nat) (p : Option Addr) (n c : Nat) (t : List Int) (w : World) (hn : n = t.length) (h : IntV w.heap.size w p c t) (ho : OkR k r t) :
    Calls Tryz.prog 25 #[.agg #[.int .i64 (k : Int), .int .i64 (r : Int), .slice p n c]] w (Tells .nilIface w) := by
  have h1 := ho.k1
  have h4 := ho.k4
  have h3 := ho.r3
  obtain ⟨S, hS⟩ : ∃ S, k ^ (2 * r + 1) = S := ⟨_, rfl⟩
  have hsz := size_ok k r
  rw [hS] at hsz
  have hnS : n = S := by rw [hn, ho.len, hS]
  have hst := strayN_ok ho.ok
  rw [← hn] at hst
  have hSle := pow_le (r := r) h4 h3
  rw [hS] at hSle
  subst hnS
  have H := Lib.hid (And.intro h (And.intro hn (And.intro hsz hst)))
  clear h hn ho hS hsz hst
  go_enter Tryz.func25, Tryz.ntmps25
  go_wp2_with fail
  obtain ⟨w0, hw0⟩ : ∃ w0, w0 = w.alloc (.cells #[.int .i64 (k : Int), .int .i64 (r : Int), .slice p n c] 24) := ⟨_, rfl⟩
  have hb0 : Below w.heap.size w w0 := by rw [hw0]; exact (Below.refl _ _).alloc (Nat.le_refl _) _
  have hE0 : Rul3 w0 w.heap.size (.int .i64 (k : Int)) (.int .i64 (r : Int)) (.slice p n c) := by rw [hw0]; exact Rul3.new w _ _ _
  rw [← hw0]
  obtain ⟨⟨hf0, hf1, hf2⟩, hc0, hc1, hc2⟩ := hE0.facts
  have HE := Lib.hid (And.intro hE0 hb0)
  clear hw0 hE0 hb0
  go_wp2_with fail
  refine (H.out.2.2.1 w0 h1 h4 h3).mono ?_
  rintro e w1 ⟨rfl, rfl⟩
  go_wp2_with fail
  refine (stray_any (k : Int) p n c t w0 H.out.2.1 (H.out.1.next HE.out.2)).mono ?_
  rintro e w1 ⟨rfl, rfl⟩
  rw [H.out.2.2.2]
  go_wp2_with fail
  go_ret
  exact ⟨rfl, HE.out.2⟩

set_option maxRecDepth 100000 in
set_option maxHeartbeats 1000000 in
theorem rcheck_bad (k r : Int) (p : Option Addr) (n c : Nat) (t : List Int) (w : World) (A : Nat → Addr) (hr : Roots w A) (hn : n = t.length) (h : IntV w.heap.size w p c t) (i : Nat) (hc : chkR k r t = some i) :
    Calls Tryz.prog 25 #[.agg #[.int .i64 k, .int .i64 r, .slice p n c]] w (Err1 w A ruleOp i 1) := by
  have hle := h.le
  have hcap := h.cap
  unfold maxLen at hcap
  have hn63 : n ≤ 9223372036854775807 := by omega
  have start : ∀ (w0 : World), w0 = w.alloc (.cells #[.int .i64 k, .int .i64 r, .slice p n c] 24) → Below w.heap.size w w0 ∧ Rul3 w0 w.heap.size (.int .i64 k) (.int .i64 r) (.slice p n c) := fun w0 hw0 =>
    ⟨by rw [hw0]; exact (Below.refl _ _).alloc (Nat.le_refl _) _, by rw [hw0]; exact Rul3.new w _ _ _⟩
  have ST := Lib.hid start
  clear start hle hcap
  unfold chkR at hc
  split at hc
  · obtain rfl := Option.some.inj hc
    rename_i hk
    have HR := Lib.hid hr
    clear h hn hc hr
    rcases (by omega : k < 1 ∨ (¬ k < 1 ∧ 4 < k)) with h1 | ⟨h1, h2⟩
    all_goals
      clear hk
      go_enter Tryz.func25, Tryz.ntmps25
      go_wp2_with fail
      obtain ⟨w0, hw0⟩ : ∃ w0, w0 = w.alloc (.cells #[.int .i64 k, .int .i64 r, .slice p n c] 24) := ⟨_, rfl⟩
      rw [← hw0]
      obtain ⟨hb0, hE0⟩ := ST.out w0 hw0
      obtain ⟨⟨hf0, hf1, hf2⟩, hc0, hc1, hc2⟩ := hE0.facts
      have HE := Lib.hid (And.intro hE0 hb0)
      clear hw0 hE0 hb0
      go_wp2_with fail
      refine (new_at ruleOp 0 1 w0 A (HR.out.below HE.out.2) (by omega)).mono ?_
      rintro e w1 ⟨b, rfl, hl1, hb1⟩
      have H := Lib.hid (And.intro hl1 (HE.out.2.trans (hb1.mono HE.out.2.size)))
      clear hl1 hb1
      go_wp2_with fail
      go_ret
      exact ⟨_, rfl, H.out.1, H.out.2⟩
  · rename_i hk
    have h1 : ¬ k < 1 := by omega
    have h4 : ¬ 4 < k := by omega
    split at hc
    · obtain rfl := Option.some.inj hc
      rename_i hrr
      have HR := Lib.hid (And.intro hr hrr)
      clear h hn hc hr hk hrr
      go_enter Tryz.func25, Tryz.ntmps25
      go_wp2_with fail
      obtain ⟨w0, hw0⟩ : ∃ w0, w0 = w.alloc (.cells #[.int .i64 k, .int .i64 r, .slice p n c] 24) := ⟨_, rfl⟩
      rw [← hw0]
      obtain ⟨hb0, hE0⟩ := ST.out w0 hw0
      obtain ⟨⟨hf0, hf1, hf2⟩, hc0, hc1, hc2⟩ := hE0.facts
      have HE := Lib.hid (And.intro hE0 hb0)
      clear hw0 hE0 hb0
      go_wp2_with fail
      refine (size_bad k r w0 A (HR.out.1.below HE.out.2) (Or.inr HR.out.2)).mono ?_
      rintro e w1 ⟨b1, rfl, _, hb1⟩
      have H1 := Lib.hid (HE.out.2.trans (hb1.mono HE.out.2.size))
      clear hb1
      go_wp2_with fail
      refine (new_at ruleOp 1 1 w1 A (HR.out.1.below H1.out) (by omega)).mono ?_
      rintro e w2 ⟨b, rfl, hl2, hb2⟩
      have H := Lib.hid (And.intro hl2 (H1.out.trans (hb2.mono H1.out.size)))
      clear hl2 hb2
      go_wp2_with fail
      go_ret
      exact ⟨_, rfl, H.out.1, H.out.2⟩
    · rename_i hrr
      obtain ⟨K, rfl⟩ : ∃ K : Nat, k = K := ⟨k.toNat, by omega⟩
      obtain ⟨R, rfl⟩ : ∃ R : Nat, r = R := ⟨r.toNat, by omega⟩
      have hk1 : 1 ≤ K := by omega
      have hk4 : K ≤ 4 := by omega
      have hr3 : R ≤ 3 := by omega
      obtain ⟨S, hS⟩ : ∃ S, K ^ (2 * R + 1) = S := ⟨_, rfl⟩
      have hsz := size_ok K R
      rw [hS] at hsz
      have hSle := pow_le (r := R) hk4 hr3
      rw [hS] at hSle
      rw [Int.toNat_natCast, Int.toNat_natCast, hS] at hc
      split at hc
      · obtain rfl := Option.some.inj hc
        rename_i hlen
        have HR := Lib.hid (And.intro hr hsz)
        have hnS : ¬ (n : Int) = (S : Int) := by omega
        have hnS' : ((n : Int) == (S : Int)) = false := by simpa using hnS
        clear h hn hc hr hk hrr hS hsz hlen
        go_enter Tryz.func25, Tryz.ntmps25
        go_wp2_with fail
        obtain ⟨w0, hw0⟩ : ∃ w0, w0 = w.alloc (.cells #[.int .i64 (K : Int), .int .i64 (R : Int), .slice p n c] 24) := ⟨_, rfl⟩
        rw [← hw0]
        obtain ⟨hb0, hE0⟩ := ST.out w0 hw0
        obtain ⟨⟨hf0, hf1, hf2⟩, hc0, hc1, hc2⟩ := hE0.facts
        have HE := Lib.hid (And.intro hE0 hb0)
        clear hw0 hE0 hb0
        go_wp2_with fail
        refine (HR.out.2 w0 hk1 hk4 hr3).mono ?_
        rintro e w1 ⟨rfl, rfl⟩
        go_wp2_with fail
        refine (new_at ruleOp 2 1 w0 A (HR.out.1.below HE.out.2) (by omega)).mono ?_
        rintro e w2 ⟨b, rfl, hl2, hb2⟩
        have H := Lib.hid (And.intro hl2 (HE.out.2.trans (hb2.mono HE.out.2.size)))
        clear hl2 hb2
        go_wp2_with fail
        go_ret
        exact ⟨_, rfl, H.out.1, H.out.2⟩
      · rename_i hlen
        obtain ⟨j, hj, rfl⟩ := Option.map_eq_some_iff.1 hc
        have hjl := strayN_lt hj
        have hst := strayN_bad hj
        have hnS : n = S := by omega
        have hjn : j < n := by omega
        subst hnS
        have H := Lib.hid (And.intro h (And.intro hn (And.intro hsz (And.intro hst hr))))
        clear h hn hc hr hk hrr hS hsz hlen hj hst hjl
        go_enter Tryz.func25, Tryz.ntmps25
        go_wp2_with fail
        obtain ⟨w0, hw0⟩ : ∃ w0, w0 = w.alloc (.cells #[.int .i64 (K : Int), .int .i64 (R : Int), .slice p n c] 24) := ⟨_, rfl⟩
        rw [← hw0]
        obtain ⟨hb0, hE0⟩ := ST.out w0 hw0
        obtain ⟨⟨hf0, hf1, hf2⟩, hc0, hc1, hc2⟩ := hE0.facts
        have HE := Lib.hid (And.intro hE0 hb0)
        clear hw0 hE0 hb0
        go_wp2_with fail
        refine (H.out.2.2.1 w0 hk1 hk4 hr3).mono ?_
        rintro e w1 ⟨rfl, rfl⟩
        go_wp2_with fail
        refine (stray_any (K : Int) p n c t w0 H.out.2.1 (H.out.1.next HE.out.2)).mono ?_
        rintro e w1 ⟨rfl, rfl⟩
        rw [H.out.2.2.2.1]
        go_wp2_with fail
        refine (new_at ruleOp (3 + (j : Int)) 1 w0 A (H.out.2.2.2.2.below HE.out.2) (by omega)).mono ?_
        rintro e w2 ⟨b, rfl, hl2, hb2⟩
        have HF := Lib.hid (And.intro hl2 (HE.out.2.trans (hb2.mono HE.out.2.size)))
        clear hl2 hb2
        go_wp2_with fail
        go_ret
        exact ⟨_, rfl, by have := HF.out.1; rwa [show ((3 + j : Nat) : Int) = 3 + (j : Int) by push_cast; rfl], HF.out.2⟩

theorem small_size_ok (k r : Nat) (w : World) (h1 : 1 ≤ k) (h4 : k ≤ 4) (h3 : r ≤ 3) (hs : k ^ (2 * r + 1) ≤ 256) :
    Calls Tryz.prog 34 #[.int .i64 (k : Int), .int .i64 (r : Int)] w (SizeOk w (k ^ (2 * r + 1))) := by
  have hsz := size_ok k r w h1 h4 h3
  obtain ⟨S, hS⟩ : ∃ S, k ^ (2 * r + 1) = S := ⟨_, rfl⟩
  rw [hS] at hs hsz ⊢
  have H := Lib.hid hsz
  clear hsz hS
  go_enter Tryz.func34, Tryz.ntmps34
  go_wp2_with fail
  refine H.out.mono ?_
  rintro e w1 ⟨rfl, rfl⟩
  go_wp2_with fail
  go_ret2
  exact ⟨rfl, rfl⟩
theorem small_size_big (k r : Nat) (w : World) (A : Nat → Addr) (hr : Roots w A) (h1 : 1 ≤ k) (h4 : k ≤ 4) (h3 : r ≤ 3) (hs : 256 < k ^ (2 * r + 1)) :
    Calls Tryz.prog 34 #[.int .i64 (k : Int), .int .i64 (r : Int)] w (Err2 w A ruleOp 0 4 (.int .i64 0)) := by
  have hsz := size_ok k r w h1 h4 h3
  have hle := pow_le h4 h3
  obtain ⟨S, hS⟩ : ∃ S, k ^ (2 * r + 1) = S := ⟨_, rfl⟩
  rw [hS] at hs hsz hle
  have H := Lib.hid (And.intro hsz hr)
  clear hsz hS hr
  go_enter Tryz.func34, Tryz.ntmps34
  go_wp2_with fail
  refine H.out.1.mono ?_
  rintro e w1 ⟨rfl, rfl⟩
  go_wp2_with fail
  refine (new_at ruleOp 0 4 w A H.out.2 (by omega)).mono ?_
  rintro e w2 ⟨b, rfl, hl2, hb2⟩
  have HF := Lib.hid (And.intro hl2 hb2)
  clear hl2 hb2
  go_wp2_with fail
  go_ret2
  exact ⟨_, rfl, HF.out.1, HF.out.2⟩
theorem small_size_bad (k r : Int) (w : World) (A : Nat → Addr) (hr : Roots w A) (h : (k < 1 ∨ 4 < k) ∨ r < 0 ∨ 3 < r) :
    Calls Tryz.prog 34 #[.int .i64 k, .int .i64 r] w (Err2 w A ruleOp 0 3 (.int .i64 0)) := by
  have H := Lib.hid (size_bad k r w A hr h)
  clear h hr
  go_enter Tryz.func34, Tryz.ntmps34
  go_wp2_with fail
  refine H.out.mono ?_
  rintro e w1 ⟨b, rfl, hl1, hb1⟩
  have HF := Lib.hid (And.intro hl1 hb1)
  clear hl1 hb1
  go_wp2_with fail
  go_ret2
  exact ⟨_, rfl, HF.out.1, HF.out.2⟩

/-- the fault of a rule that ought to be small: the place and the number -/
def chkS (k r : Int) (t : List Int) : Option (Nat × Nat) := match chkR k r t with
  | some i => some (i, 1)
  | none => if 256 < t.length then some (0, 4) else none
theorem chkS_none {k r : Int} {t : List Int} (h : chkS k r t = none) : ∃ K R : Nat, k = K ∧ r = R ∧ OkR K R t ∧ t.length ≤ 256 := by
  unfold chkS at h
  split at h
  · cases h
  · rename_i hn
    obtain ⟨K, R, h1, h2, h3⟩ := chkR_none hn
    split at h
    · cases h
    · exact ⟨K, R, h1, h2, h3, by omega⟩
theorem chkS_ok {K R : Nat} {t : List Int} (h : OkR K R t) (hl : t.length ≤ 256) : chkS K R t = none := by
  unfold chkS
  rw [chkR_ok h]
  simp only []
  rw [if_neg (by omega)]

set_option maxRecDepth 100000 in
set_option maxHeartbeats 1000000 in
theorem small_ok (k r : Nat) (p : Option Addr) (n c : Nat) (t : List Int) (w : World) (hn : n = t.length) (h : IntV w.heap.size w p c t) (ho : OkR k r t) (hs : t.length ≤ 256) :
    Calls Tryz.prog 86 #[.agg #[.int .i64 (k : Int), .int .i64 (r : Int), .slice p n c]] w (Tells .nilIface w) := by
  have H := Lib.hid (And.intro h (And.intro hn (And.intro ho hs)))
  clear h hn ho hs
  go_enter Tryz.func86, Tryz.ntmps86
  go_wp2_with fail
  obtain ⟨w0, hw0⟩ : ∃ w0, w0 = w.alloc (.cells #[.int .i64 (k : Int), .int .i64 (r : Int), .slice p n c] 24) := ⟨_, rfl⟩
  have hb0 : Below w.heap.size w w0 := by rw [hw0]; exact (Below.refl _ _).alloc (Nat.le_refl _) _
  have hE0 : Rul3 w0 w.heap.size (.int .i64 (k : Int)) (.int .i64 (r : Int)) (.slice p n c) := by rw [hw0]; exact Rul3.new w _ _ _
  rw [← hw0]
  obtain ⟨⟨hf0, hf1, hf2⟩, hc0, hc1, hc2⟩ := hE0.facts
  have HE := Lib.hid (And.intro hE0 hb0)
  clear hw0 hE0 hb0
  go_wp2_with fail
  refine (rcheck_ok k r p n c t w0 H.out.2.1 (H.out.1.next HE.out.2) H.out.2.2.1).mono ?_
  rintro e w1 ⟨rfl, hb1⟩
  have H1 := Lib.hid (And.intro (HE.out.1.next hb1) (HE.out.2.trans (hb1.mono HE.out.2.size)))
  clear hb1 hf0 hf1 hf2 hc0 hc1 hc2
  obtain ⟨⟨hf0, hf1, hf2⟩, hc0, hc1, hc2⟩ := H1.out.1.facts
  go_wp2_with fail
  refine (small_size_ok k r w1 H.out.2.2.1.k1 H.out.2.2.1.k4 H.out.2.2.1.r3 (by rw [← H.out.2.2.1.len]; exact H.out.2.2.2)).mono ?_
  rintro e w2 ⟨rfl, rfl⟩
  go_wp2_with fail
  go_ret
  exact ⟨rfl, H1.out.2⟩
set_option maxRecDepth 100000 in
set_option maxHeartbeats 1000000 in
theorem small_bad (k r : Int) (p : Option Addr) (n c : Nat) (t : List Int) (w : World) (A : Nat → Addr) (hr : Roots w A) (hn : n = t.length) (h : IntV w.heap.size w p c t) (i m : Nat) (hc : chkS k r t = some (i, m)) :
    Calls Tryz.prog 86 #[.agg #[.int .i64 k, .int .i64 r, .slice p n c]] w (Err1 w A ruleOp i m) := by
  unfold chkS at hc
  have start : ∀ (w0 : World), w0 = w.alloc (.cells #[.int .i64 k, .int .i64 r, .slice p n c] 24) → Below w.heap.size w w0 ∧ Rul3 w0 w.heap.size (.int .i64 k) (.int .i64 r) (.slice p n c) := fun w0 hw0 =>
    ⟨by rw [hw0]; exact (Below.refl _ _).alloc (Nat.le_refl _) _, by rw [hw0]; exact Rul3.new w _ _ _⟩
  have ST := Lib.hid start
  clear start
  split at hc
  · obtain ⟨rfl, rfl⟩ := Prod.mk.inj (Option.some.inj hc)
    rename_i hcr
    have H := Lib.hid (And.intro h (And.intro hn (And.intro hr hcr)))
    clear h hn hr hcr hc
    go_enter Tryz.func86, Tryz.ntmps86
    go_wp2_with fail
    obtain ⟨w0, hw0⟩ : ∃ w0, w0 = w.alloc (.cells #[.int .i64 k, .int .i64 r, .slice p n c] 24) := ⟨_, rfl⟩
    rw [← hw0]
    obtain ⟨hb0, hE0⟩ := ST.out w0 hw0
    obtain ⟨⟨hf0, hf1, hf2⟩, hc0, hc1, hc2⟩ := hE0.facts
    have HE := Lib.hid (And.intro hE0 hb0)
    clear hw0 hE0 hb0
    go_wp2_with fail
    refine (rcheck_bad k r p n c t w0 A (H.out.2.2.1.below HE.out.2) H.out.2.1 (H.out.1.next HE.out.2) _ H.out.2.2.2).mono ?_
    rintro e w1 ⟨b, rfl, hl1, hb1⟩
    have HF := Lib.hid (And.intro hl1 (HE.out.2.trans (hb1.mono HE.out.2.size)))
    clear hl1 hb1
    go_wp2_with fail
    go_ret
    exact ⟨_, rfl, HF.out.1, HF.out.2⟩
  · split at hc
    · obtain ⟨rfl, rfl⟩ := Prod.mk.inj (Option.some.inj hc)
      rename_i hcr hbig
      obtain ⟨K, R, rfl, rfl, ho⟩ := chkR_none hcr
      have H := Lib.hid (And.intro h (And.intro hn (And.intro hr (And.intro ho hbig))))
      clear h hn hr hcr hc ho hbig
      go_enter Tryz.func86, Tryz.ntmps86
      go_wp2_with fail
      obtain ⟨w0, hw0⟩ : ∃ w0, w0 = w.alloc (.cells #[.int .i64 (K : Int), .int .i64 (R : Int), .slice p n c] 24) := ⟨_, rfl⟩
      rw [← hw0]
      obtain ⟨hb0, hE0⟩ := ST.out w0 hw0
      obtain ⟨⟨hf0, hf1, hf2⟩, hc0, hc1, hc2⟩ := hE0.facts
      have HE := Lib.hid (And.intro hE0 hb0)
      clear hw0 hE0 hb0
      go_wp2_with fail
      refine (rcheck_ok K R p n c t w0 H.out.2.1 (H.out.1.next HE.out.2) H.out.2.2.2.1).mono ?_
      rintro e w1 ⟨rfl, hb1⟩
      have H1 := Lib.hid (And.intro (HE.out.1.next hb1) (HE.out.2.trans (hb1.mono HE.out.2.size)))
      clear hb1 hf0 hf1 hf2 hc0 hc1 hc2
      obtain ⟨⟨hf0, hf1, hf2⟩, hc0, hc1, hc2⟩ := H1.out.1.facts
      go_wp2_with fail
      refine (small_size_big K R w1 A (H.out.2.2.1.below H1.out.2) H.out.2.2.2.1.k1 H.out.2.2.2.1.k4 H.out.2.2.2.1.r3 (by rw [← H.out.2.2.2.1.len]; exact H.out.2.2.2.2)).mono ?_
      rintro e w2 ⟨b, rfl, hl2, hb2⟩
      have HF := Lib.hid (And.intro hl2 (H1.out.2.trans (hb2.mono H1.out.2.size)))
      clear hl2 hb2
      go_wp2_with fail
      go_ret
      exact ⟨_, rfl, HF.out.1, HF.out.2⟩
    · cases hc
end Go.Proofs.YtgdjnohhofbcnaaGreatDoor
end
section
namespace Go.Proofs.YtgdjnohhofbcnaaGreatDoor
open Go.RowKit

theorem madeI_list (v : Value) (n : Nat) : (madeCells #[v] n).toList = List.replicate n v := by
  unfold madeCells
  rw [Array.toList_map, Array.toList_range]
  apply List.ext_getElem
  · simp
  · intro i h1 h2
    simp [Nat.mod_one]
theorem makeI (n : Nat) (hn : n ≤ 17592186044000) (w : World) :
    (Instr.makeSlice 22 (.int .i64 (n : Int)) (.int .i64 (n : Int))).run Tryz.prog w = .ok (.slice (some ⟨w.heap.size, 0, none⟩) n n) (w.alloc (.cells (madeCells #[.int .i64 0] n) 3)) := by
  obtain ⟨i0, hi, hz0, hz1, hz2⟩ := info_parts infoI
  have h := run_make (P := Tryz.prog) w 22 3 i0 (.int .i64 0) Tryz.underlying22 hi hz0 .i64 .i64 n n (by omega) (by omega) (by rw [hz2]; omega) (by omega)
  rw [hz1] at h
  simpa [Value.cells] using h
theorem IntO.made (w : World) (n : Nat) (hn : n ≤ 17592186044000) : IntO w.heap.size (w.alloc (.cells (madeCells #[.int .i64 0] n) 3)) (some ⟨w.heap.size, 0, none⟩) n (List.replicate n 0) := by
  refine ⟨by simp [cI], Or.inr ⟨w.heap.size, n, madeCells #[.int .i64 0] n, by rw [List.length_replicate], Nat.le_refl _, heap_newN _ _, by rw [List.length_replicate]; exact Nat.le_refl _, by unfold maxLen; omega, by rw [size_madeCells, Nat.mul_one], ?_⟩⟩
  rw [madeI_list, List.length_replicate, Nat.mul_one, List.take_of_length_le (by simp)]
  simp [cI]

/-- a slice of no element, with room -/
def RoomPost (w : World) (e : Ending) (w' : World) : Prop := ∃ p c, e = .returned (.slice p 0 c) ∧ IntO w.heap.size w' p c [] ∧ Below w.heap.size w w'
set_option maxRecDepth 100000 in
set_option maxHeartbeats 2000000 in
theorem growI_nil (n : Nat) (w : World) (hn : n ≤ 17592186044000) :
    Calls Tryz.prog 153 #[.slice none 0 0, .int .i64 (n : Int)] w (RoomPost w) := by
  obtain ⟨i0, hi, hz0, hz1, hz2⟩ := info_parts infoI
  rcases Nat.eq_zero_or_pos n with rfl | h0
  · show Calls Tryz.prog 153 #[.slice none 0 0, .int .i64 0] w (RoomPost w)
    go_enter Tryz.func153, Tryz.ntmps153
    go_wp2_with fail
    go_ret
    exact ⟨none, 0, rfl, IntO.nothing _ _, Below.refl _ _⟩
  · have hold : (Builtin.firstCells i0.size 0 (.slice none 0 0)).run Tryz.prog w.drew = .ok #[] w.drew := run_firstCells_none (w := w.drew) i0.size 0 0 0
    have hrz : ∀ ty, (Builtin.append_ #[22, 3] ty #[.slice none 0 0, .int .i64 (n : Int)]).run Tryz.prog w = _ := fun ty =>
      Lib.run_append_grow_zeros w 22 3 ty 3 i0 (.int .i64 0) .i64 .i64 Tryz.underlying22 Tryz.underlying3 hi hz0 none 0 0 [] hold n h0 (by rw [hz1]; omega) (by omega) (by omega) (by rw [hz2]; omega)
        (growslice_fits (by omega) (by rw [hz2]; omega))
    have hGn : n ≤ grownCap w (0 + n) 0 3 := by have := grownCap_ge w (0 + n) 0 3; omega
    have hG := grownCap_le_maxLen w (0 + n) 0 3 (by unfold maxLen; omega)
    obtain ⟨G, hGe⟩ : ∃ G, G = grownCap w (0 + n) 0 3 := ⟨_, rfl⟩
    rw [← hGe] at hrz hGn hG
    rw [Nat.zero_add] at hrz
    have hG63 := hG
    unfold maxLen at hG63
    have HG := Lib.hid hG
    have hpos : ¬ ((n : Int) < 0) := by omega
    have hpos2 : (0 : Int) < (n : Int) := by omega
    clear hold hGe hG
    go_enter Tryz.func153, Tryz.ntmps153
    go_wp2_with (at_builtin; refine Lib.wpList_append_run _ rfl _ _ _ _ rfl _ _ rfl rfl _ _ (hrz _) ?_)
    go_ret
    refine ⟨_, _, rfl, ⟨by simp [cI], Or.inr ⟨w.heap.size, G, _, rfl, Nat.le_refl _, heap_newN _ _, Nat.zero_le _, HG.out, ?_, by simp [cI]⟩⟩, (Below.refl _ _).drew.alloc (by simp) _⟩
    simp [Builtin.zeroCells]
    omega

/-! ### several lists -/
abbrev Sl := Option Addr × Nat × List Int
def Sl.val (x : Sl) : Value := .slice x.1 x.2.2.length x.2.1
/-- A slice of slices of ints below B: it reads L, and each of them reads. -/
structure SlsV (B : Nat) (w : World) (p : Option Addr) (c : Nat) (L : List Sl) : Prop where
  le : L.length ≤ c
  cap : c ≤ maxLen
  each : ∀ x : Sl, x ∈ L → IntV B w x.1 x.2.1 x.2.2
  cell : L ≠ [] → ∃ b off, p = some ⟨b, off, none⟩ ∧ b < B ∧ ∀ (j : Nat) (x : Sl), L[j]? = some x → w.cell? ⟨b, off + j, none⟩ = some x.val
theorem SlsV.below {B : Nat} {w w' : World} {p : Option Addr} {c : Nat} {L : List Sl} (hb : Below B w w') (h : SlsV B w p c L) : SlsV B w' p c L :=
  ⟨h.le, h.cap, fun x hx => (h.each x hx).below hb, fun hn => by
    obtain ⟨b, off, hp, hlt, hc⟩ := h.cell hn
    exact ⟨b, off, hp, hlt, fun j x hx => (hb.cell (p := ⟨b, off + j, none⟩) hlt).trans (hc j x hx)⟩⟩
theorem SlsV.mono {B B' : Nat} {w : World} {p : Option Addr} {c : Nat} {L : List Sl} (hB : B ≤ B') (h : SlsV B w p c L) : SlsV B' w p c L :=
  ⟨h.le, h.cap, fun x hx => (h.each x hx).mono hB, fun hn => by
    obtain ⟨b, off, hp, hlt, hc⟩ := h.cell hn
    exact ⟨b, off, hp, by omega, hc⟩⟩
theorem SlsV.next {w w' : World} {p : Option Addr} {c : Nat} {L : List Sl} (hb : Below w.heap.size w w') (h : SlsV w.heap.size w p c L) : SlsV w'.heap.size w' p c L := (h.below hb).mono hb.size
/-- a literal of slices, just laid -/
theorem SlsV.laid {w : World} (L : List Sl) (cs : Array Value) (t : TypeId) (hc : cs.toList = L.map Sl.val) (hl : L.length ≤ 1000) (h : ∀ x : Sl, x ∈ L → IntV w.heap.size w x.1 x.2.1 x.2.2) :
    SlsV (w.alloc (.cells cs t)).heap.size (w.alloc (.cells cs t)) (some ⟨w.heap.size, 0, none⟩) L.length L := by
  have hb : Below w.heap.size w (w.alloc (.cells cs t)) := (Below.refl _ _).alloc (Nat.le_refl _) _
  refine ⟨Nat.le_refl _, by unfold maxLen; omega, fun x hx => (h x hx).next hb, fun _ => ⟨w.heap.size, 0, rfl, by simp, fun j x hx => ?_⟩⟩
  rw [Nat.zero_add, cell_alloc_row, ← Array.getElem?_toList, hc, List.getElem?_map, hx]; rfl
def flat (L : List Sl) : List Int := (L.map (·.2.2)).flatten
def sumL (L : List Sl) : Nat := (L.map (·.2.2.length)).sum
theorem flat_length (L : List Sl) : (flat L).length = sumL L := by unfold flat sumL; rw [List.length_flatten, List.map_map]; rfl
theorem flat_snoc {L : List Sl} {j : Nat} {x : Sl} (h : L[j]? = some x) : flat (L.take (j + 1)) = flat (L.take j) ++ x.2.2 := by
  unfold flat
  rw [List.take_add_one, h]; simp
theorem sum_snoc {L : List Sl} {j : Nat} {x : Sl} (h : L[j]? = some x) : sumL (L.take (j + 1)) = sumL (L.take j) + x.2.2.length := by
  unfold sumL
  rw [List.take_add_one, h]; simp
theorem sum_take_le (L : List Sl) (j : Nat) : sumL (L.take j) ≤ sumL L := by
  conv => rhs; rw [← List.take_append_drop j L]
  unfold sumL
  rw [List.map_append, List.sum_append]
  exact Nat.le_add_right _ _
def ConcatRel (w : World) (L : List Sl) (v6 v27 : Value) (wr : World) : Prop :=
  ∃ (j : Nat) (p : Option Addr) (c : Nat), j ≤ L.length ∧ v27 = .int .i64 (j : Int) ∧ v6 = .slice p (flat (L.take j)).length c ∧ IntO w.heap.size wr p c (flat (L.take j)) ∧ Below w.heap.size w wr

set_option maxRecDepth 100000 in
set_option maxHeartbeats 4000000 in
theorem concatI (q : Option Addr) (n c : Nat) (L : List Sl) (w : World) (hn : n = L.length) (h : SlsV w.heap.size w q c L) (hs : sumL L ≤ 17592186044000) :
    Calls Tryz.prog 123 #[.slice q n c] w (IntPost w (flat L)) := by
  obtain ⟨i0, hi, hz0, hz1, hz2⟩ := info_parts infoI
  have hle := h.le
  have hcap := h.cap
  unfold maxLen at hcap
  have hnc : n ≤ c := by omega
  have H := Lib.hid (And.intro h (And.intro hn hs))
  clear h hn hs hle
  go_enter Tryz.func123, Tryz.ntmps123
  go_wp2_with fail
  go_loop [3, 11] (fun v3 v11 => ∃ (j s : Nat), j ≤ n ∧ v11 = .int .i64 (j : Int) ∧ v3 = .int .i64 (s : Int) ∧ Hid (s = sumL (L.take j))) (fun _ v => n - (intOf v).toNat)
  case atStart => exact ⟨0, 0, Nat.zero_le _, rfl, rfl, rfl⟩
  case round =>
    obtain ⟨j, s, hj, rfl, rfl, hsj⟩ := hrel
    have hsl : s ≤ 17592186044000 := by have := hsj.out; have := sum_take_le L j; have := H.out.2.2; omega
    by_cases hlt : j < n
    · have hnl := H.out.2.1
      obtain ⟨x, hx⟩ : ∃ x, L[j]? = some x := ⟨_, List.getElem?_eq_getElem (by omega)⟩
      obtain ⟨b, off, rfl, hb, hc⟩ := H.out.1.cell (by rintro rfl; simp at hx)
      have hcx := hc j x hx
      have hst := sum_snoc hx
      have hlx : s + x.2.2.length ≤ 17592186044000 := by
        have := hsj.out; have := sum_take_le L (j + 1); have := H.out.2.2; omega
      obtain ⟨xa, xc, xl⟩ := x
      replace hcx : w.cell? ⟨b, off + j, none⟩ = some (.slice xa xl.length xc) := hcx
      replace hlx : s + xl.length ≤ 17592186044000 := hlx
      have HS := Lib.hid hst
      have hneg : ¬ ((s : Int) + (xl.length : Int) < 0) := by omega
      clear hc hx hst hnl
      go_wp2_with fail
      go_round
      case rel => exact ⟨j + 1, s + xl.length, by omega, by go_num, by go_num, by show _ = _; rw [HS.out, hsj.out]⟩
      case measure => simp [intOf]; omega
    · obtain rfl : j = n := by omega
      have hse : s = sumL L := by rw [hsj.out, H.out.2.1, List.take_length]
      have HSE := Lib.hid hse
      clear hse
      go_wp2_with fail
      refine (growI_nil s w hsl).mono ?_
      rintro e w1 ⟨p1, c1, rfl, ho1, hb1⟩
      have HB1 := Lib.hid (And.intro ho1 hb1)
      clear ho1 hb1 hsj
      go_wp2_with fail
      go_loopw [6, 27] (fun v6 v27 wr => ConcatRel w L v6 v27 wr) (fun _ v _ => j - (intOf v).toNat)
      case atStart => exact ⟨0, p1, c1, Nat.zero_le _, rfl, rfl, HB1.out.1, HB1.out.2⟩
      case round =>
        obtain ⟨i, p, cp, hi', rfl, rfl, ho, hb⟩ := hrel
        have hwB : w.heap.size ≤ wr.heap.size := hb.size
        by_cases hlt2 : i < j
        · have hnl := H.out.2.1
          obtain ⟨x, hx⟩ : ∃ x, L[i]? = some x := ⟨_, List.getElem?_eq_getElem (by omega)⟩
          have hxm := (H.out.1.below hb).each x (List.mem_of_getElem? hx)
          obtain ⟨b, off, rfl, hbq, hc⟩ := (H.out.1.below hb).cell (by rintro rfl; simp at hx)
          have hcx := hc i x hx
          have hfs := flat_snoc hx
          have htot : (flat (L.take i)).length + x.2.2.length ≤ 17592186044000 := by
            have h1 := flat_length (L.take (i + 1))
            have h2 := sum_take_le L (i + 1)
            rw [hfs, List.length_append] at h1
            have := H.out.2.2; omega
          obtain ⟨xa, xc, xl⟩ := x
          replace hcx : wr.cell? ⟨b, off + i, none⟩ = some (.slice xa xl.length xc) := hcx
          replace hxm : IntV w.heap.size wr xa xc xl := hxm
          replace hfs : flat (L.take (i + 1)) = flat (L.take i) ++ xl := hfs
          replace htot : (flat (L.take i)).length + xl.length ≤ 17592186044000 := htot
          obtain ⟨r, hr⟩ : ∃ r, flat (L.take i) = r := ⟨_, rfl⟩
          rw [hr] at ho hfs htot ⊢
          obtain ⟨rn, hrn⟩ : ∃ rn, r.length = rn := ⟨_, rfl⟩
          have hown : wr.ownsRow w.heap.size 3 1 (.slice p rn cp) rn (cI r) := by rw [← hrn]; exact ho
          rw [hrn] at htot ⊢
          have HS := Lib.hid (And.intro hfs (And.intro hb (And.intro hrn hxm)))
          have HX := Lib.hid (hxm.cell)
          have hxle := hxm.le
          have hxnil := hxm.nil
          clear hc hx hfs hr ho hrn hb hnl
          rcases xa with _ | a
          · have hxc := hxnil rfl
            subst hxc
            have hl0 : xl = [] := List.eq_nil_of_length_eq_zero (by omega)
            subst hl0
            clear hxnil hxm
            replace hcx : wr.cell? ⟨b, off + i, none⟩ = some (.slice none 0 0) := hcx
            go_wp2_with (at_builtin; refine wpList_append_own_none rfl _ _ 22 rfl w.heap.size 3 i0 1 Tryz.underlying22 hi _ rn (cI r) rfl hown rfl ?_)
            have HO := Lib.hid hown
            clear hown
            go_wp2_with fail
            go_roundw
            case rel =>
              have e := HS.out.1
              rw [List.append_nil] at e
              exact ⟨i + 1, p, cp, by have := H.out.2.1; omega, by go_num, by rw [e, HS.out.2.2.1], by rw [e]; unfold IntO; rw [HS.out.2.2.1]; exact HO.out, HS.out.2.1⟩
            case measure => simp [intOf]; omega
          · have hnews : ∀ j u, (cI xl)[j]? = some u → wr.cell? (a.add j) = some u := fun j u hj => by
              unfold cI at hj
              rw [List.getElem?_map] at hj
              obtain ⟨x, hx, rfl⟩ := Option.map_eq_some_iff.1 hj
              obtain ⟨b', off', ha, _, hcc⟩ := HX.out (by rintro rfl; simp at hx)
              obtain rfl : a = ⟨b', off', none⟩ := by simpa using ha
              rw [add_off]
              exact hcc j x hx
            have HN := Lib.hid hnews
            clear hxnil hnews hxm
            go_wp2_with (at_builtin; refine wpList_append_own _ rfl _ _ 22 rfl w.heap.size 3 i0 (.int .i64 0) 1 8 Tryz.underlying22 hi hz0 hz1 hz2 rfl (by decide) _ rn (cI r) rfl hown a xl.length xc (cI xl) rfl ?c0 ?c1 ?c2 ?c3 ?c4 ?c5 ?_)
            case c0 => simp [cI]
            case c1 => exact HN.out
            case c2 =>
              intro u hu
              unfold cI at hu
              obtain ⟨x, _, rfl⟩ := List.mem_map.1 hu
              rfl
            case c3 => unfold maxLen; omega
            case c4 => omega
            case c5 => exact hwB
            intro v' w1 hown' hgrow _
            rw [← cI_app] at hown'
            have hlen : rn + xl.length = (r ++ xl).length := by rw [List.length_append, HS.out.2.2.1]
            rw [hlen] at hown'
            obtain ⟨p2, c2, rfl, ho2⟩ := IntO.slice_own hown'
            have hb2 : Below w.heap.size w w1 := HS.out.2.1.grown hgrow hwB (fun j hj => (hown.lt j hj).1)
            have HO := Lib.hid (And.intro ho2 hb2)
            clear hown hown' hgrow ho2 hb2 hlen
            go_wp2_with fail
            go_roundw
            case rel => exact ⟨i + 1, p2, c2, by have := H.out.2.1; omega, by go_num, by rw [HS.out.1], by rw [HS.out.1]; exact HO.out.1, HO.out.2⟩
            case measure => simp [intOf]; omega
        · obtain rfl : i = j := by have := H.out.2.1; omega
          have he : flat (L.take i) = flat L := by rw [H.out.2.1, List.take_length]
          have HE := Lib.hid (And.intro he (And.intro ho hb))
          clear he ho hb
          go_wp2_with fail
          go_ret
          exact ⟨p, cp, by rw [HE.out.1]; rfl, by rw [← HE.out.1]; exact HE.out.2.1, HE.out.2.2⟩
end Go.Proofs.YtgdjnohhofbcnaaGreatDoor
end
section
namespace Go.Proofs.YtgdjnohhofbcnaaGreatDoor
open Go.RowKit WordM

theorem cmp_w (p q : Option Addr) (n m c d : Nat) (l k : List Int) (w : World) (hn : n = l.length) (hm : m = k.length) (h : IntV w.heap.size w p c l) (h' : IntV w.heap.size w q d k) :
    Calls Tryz.prog 48 #[.slice p n c, .slice q m d] w fun e w' => e = .returned (.int .i64 (cmpW l k)) ∧ w = w' := by
  by_cases hlen : l.length = k.length
  · have hc := scompare_any p q n m c d l k w hn (hm.trans hlen.symm) hlen h h'
    have hnm : n = m := by omega
    subst hnm
    have hw : cmpW l k = lexC l k := cmpW_len hlen
    have H := Lib.hid (And.intro hc hw)
    clear hc hw h h' hlen hn hm
    go_enter Tryz.func48, Tryz.ntmps48
    go_wp2_with fail
    refine H.out.1.mono ?_
    rintro e w' ⟨rfl, rfl⟩
    go_wp2_with fail
    go_ret
    exact ⟨by rw [H.out.2]; rfl, rfl⟩
  · have hc := compare_any (n : Int) (m : Int) w
    have hw : cmpW l k = cmpInt (n : Int) (m : Int) := by
      unfold cmpW cmpInt
      subst hn hm
      by_cases h1 : l.length < k.length
      · rw [if_pos h1, if_pos (by omega)]
      · rw [if_neg h1, if_pos (by omega), if_neg (by omega), if_pos (by omega)]
    have hne : ((n : Int) == (m : Int)) = false := by rw [beq_eq_false_iff_ne]; omega
    have hne2 : ((n : Int) != (m : Int)) = true := by rw [bne_iff_ne]; omega
    have H := Lib.hid (And.intro hc hw)
    clear hc hw h h' hlen hn hm
    go_enter Tryz.func48, Tryz.ntmps48
    go_wp2_with fail
    refine H.out.1.mono ?_
    rintro e w' ⟨rfl, rfl⟩
    go_wp2_with fail
    go_ret
    exact ⟨by rw [H.out.2]; rfl, rfl⟩

theorem IntPost.under {w W : World} {l : List Int} {e : Ending} {w' : World} (hb : Below w.heap.size w W) (h : IntPost W l e w') : IntPost w l e w' := by
  obtain ⟨p, c, he, ho, hb'⟩ := h
  exact ⟨p, c, he, ho.base hb.size, hb.trans (hb'.mono hb.size)⟩
theorem reverseI_none (w : World) : Calls Tryz.prog 122 #[.slice none 0 0] w fun e w' => e = .returned (.tuple #[]) ∧ w = w' := by
  go_enter Tryz.func122, Tryz.ntmps122
  go_wp2_with fail
  go_loop [2, 3] (fun v2 v3 => v2 = .int .i64 0 ∧ v3 = .int .i64 (-1)) (fun _ _ => 0)
  case atStart => exact ⟨rfl, rfl⟩
  case round =>
    obtain ⟨rfl, rfl⟩ := hrel
    go_wp2_with fail
    go_end0
    exact ⟨rfl, rfl⟩
set_option maxHeartbeats 1000000 in
theorem back_any (p : Option Addr) (n c : Nat) (l : List Int) (w : World) (hn : n = l.length) (h : IntV w.heap.size w p c l) (hl : l.length ≤ 17592186044000) :
    Calls Tryz.prog 64 #[.slice p n c] w (IntPost w l.reverse) := by
  subst hn
  have hc := cloneI_any p c l w h hl
  have HC := Lib.hid hc
  clear hc h
  go_enter Tryz.func64, Tryz.ntmps64
  go_wp2_with fail
  refine HC.out.mono ?_
  rintro e w1 ⟨p1, c1, rfl, ho1, hb1⟩
  rcases own_shape ho1 with ⟨hv, h0, _⟩ | ⟨g, cap, hv, hg, hglt, hcc, hm, hcl, _⟩
  · obtain ⟨rfl, hl0, rfl⟩ := by simpa using hv
    subst hl0
    have HB := Lib.hid hb1
    clear ho1 hb1 h0 hv
    go_wp2_with fail
    refine (reverseI_none _).mono ?_
    rintro e w' ⟨rfl, rfl⟩
    go_wp2_with fail
    go_ret
    exact ⟨none, 0, rfl, IntO.nothing _ _, HB.out⟩
  · obtain ⟨rfl, rfl⟩ : p1 = some ⟨g, 0, none⟩ ∧ c1 = cap := by simpa using hv
    have HB := Lib.hid (And.intro hb1 hg)
    have hr := reverseI_any w.heap.size g c1 l w1 (by omega) ho1
    clear ho1 hb1 hg hcl hv
    go_wp2_with fail
    refine hr.mono ?_
    rintro e w2 ⟨rfl, ho2, hgr⟩
    have hb2 : Below w.heap.size w w2 := HB.out.1.grown hgr HB.out.1.size (fun j hj => by obtain rfl := Option.some.inj hj; exact HB.out.2)
    have HO := Lib.hid (And.intro ho2 hb2)
    clear ho2 hgr hb2 hr
    go_wp2_with fail
    go_ret
    exact ⟨some ⟨g, 0, none⟩, c1, by rw [List.length_reverse]; rfl, by unfold IntO; rw [List.length_reverse]; exact HO.out.1, HO.out.2⟩

/-- how far a turn goes -/
def turnN (l : List Int) (z : Int) : Nat := (z % (l.length : Int)).toNat
def turnW (l : List Int) (z : Int) : List Int := rot l (turnN l z)
theorem turnW_length (l : List Int) (z : Int) : (turnW l z).length = l.length := rot_length _ _
set_option maxRecDepth 100000 in
set_option maxHeartbeats 4000000 in
theorem turn_any (p : Option Addr) (n c : Nat) (l : List Int) (z : Int) (w : World) (hn : n = l.length) (h : IntV w.heap.size w p c l) (hl : l.length ≤ 17592186044000) :
    Calls Tryz.prog 66 #[.slice p n c, .int .i64 z] w (IntPost w (turnW l z)) := by
  have hle := h.le
  have hcap := h.cap
  unfold maxLen at hcap
  rcases Nat.eq_zero_or_pos n with h0 | h0
  · have hl0 : l = [] := List.eq_nil_of_length_eq_zero (by omega)
    subst hl0 h0
    clear h hle
    clear hn hl
    go_enter Tryz.func66, Tryz.ntmps66
    go_wp2_with fail
    go_ret
    exact ⟨none, 0, rfl, IntO.nothing _ _, Below.refl _ _⟩
  · obtain ⟨b, off, rfl, hb, hc⟩ := h.cell (by rintro rfl; simp at hn; omega)
    obtain ⟨t, ht⟩ : ∃ t, turnN l z = t := ⟨_, rfl⟩
    have htn : t < n := by
      rw [← ht, hn]
      unfold turnN
      have h1 := Int.emod_lt_of_pos z (show (0 : Int) < (l.length : Int) by omega)
      have h2 := Int.emod_nonneg z (show (l.length : Int) ≠ 0 by omega)
      omega
    have htz : z % (n : Int) = (t : Int) := by
      rw [← ht, hn]
      unfold turnN
      have h2 := Int.emod_nonneg z (show (l.length : Int) ≠ 0 by omega)
      omega
    have hrot : rot l t = l.drop t ++ l.take t := (rot_drop (by omega)).symm
    have hnz : ((n : Int) == 0) = false := by rw [beq_eq_false_iff_ne]; omega
    have hnc : n ≤ c := by omega
    have hnl : n ≤ 17592186044000 := by omega
    obtain ⟨r, hr⟩ : ∃ r, z.tmod (n : Int) = r := ⟨_, rfl⟩
    have hrt : (r < 0 ∧ r + (n : Int) = (t : Int)) ∨ (¬ r < 0 ∧ r = (t : Int)) := by
      have e := @Int.tmod_eq_emod z (n : Int)
      have hlo : -(n : Int) < r := by rw [← hr]; exact Int.lt_tmod_of_pos z (by omega)
      rw [hr, htz] at e
      split at e <;> omega
    have hsum : ∀ W : World, Below w.heap.size w W → w.heap.size < W.heap.size → (∀ j, W.cell? ⟨w.heap.size, j, none⟩ = (#[.slice (some ⟨b, off + t, none⟩) (n - t) (c - t), .slice (some ⟨b, off, none⟩) t c] : Array Value)[j]?) → Calls Tryz.prog 123 #[.slice (some ⟨w.heap.size, 0, none⟩) 2 2] W (IntPost w (turnW l z)) := fun W hbW hs hcs => by
      have e : turnW l z = flat [(some ⟨b, off + t, none⟩, c - t, l.drop t), (some ⟨b, off, none⟩, c, l.take t)] := by
        unfold turnW flat
        rw [ht, hrot]
        simp
      rw [e]
      have hd1 : (l.drop t).length = n - t := by rw [List.length_drop, hn]
      have hd2 : (l.take t).length = t := by rw [List.length_take]; omega
      refine (concatI _ 2 2 [(some ⟨b, off + t, none⟩, c - t, l.drop t), (some ⟨b, off, none⟩, c, l.take t)] _ rfl ⟨Nat.le_refl _, by unfold maxLen; omega, ?_, fun _ => ⟨_, 0, rfl, hs, ?_⟩⟩ ?_).mono fun e w' h => IntPost.under hbW h
      · have hv := h.next hbW
        intro x hx
        rcases List.mem_cons.1 hx with rfl | hx
        · exact hv.drop t (by omega)
        · obtain rfl := List.mem_singleton.1 hx
          exact hv.take t
      · intro j x hx
        rw [Nat.zero_add, hcs]
        match j, hx with
        | 0, hx => obtain rfl := Option.some.inj hx; simp [Sl.val, hd1]
        | 1, hx => obtain rfl := Option.some.inj hx; simp [Sl.val, hd2]
      · unfold sumL
        simp
        omega
    have HS := Lib.hid hsum
    have ht0 : (0 : Int) ≤ (t : Int) := by omega
    have htn2 : (t : Int) ≤ (n : Int) := by omega
    have hnc2 : (n : Int) ≤ (c : Int) := by omega
    have htc : ¬ (c : Int) = (t : Int) := by omega
    have htc2 : ¬ c = t := by omega
    clear hsum ht htz hrot hn hc h hle hb
    rcases hrt with ⟨hr0, hrt⟩ | ⟨hr0, rfl⟩
    all_goals
      go_enter Tryz.func66, Tryz.ntmps66
      go_wp2_with fail
      go_region_with (first
        | (go_at_call 123; refine (HS.out _ (by (repeat' (first | exact Below.refl _ _ | refine Below.drew ?_ | refine below_drewN ?_ _ | refine Below.alloc ?_ ?_ _ | (simp; done) | (simp; omega)))) (by simp) (by intro j; simp)).mono ?_; rintro e w1 ⟨p1, c1, rfl, ho1, hb1⟩))
      all_goals
        have HO := Lib.hid (And.intro ho1 hb1)
        clear ho1 hb1
        go_wp2_with fail
        go_ret
        exact ⟨p1, c1, rfl, HO.out.1, HO.out.2⟩
end Go.Proofs.YtgdjnohhofbcnaaGreatDoor
end
section
namespace Go.Proofs.YtgdjnohhofbcnaaGreatDoor
open Go.RowKit Go.Extern.Stop Go.Stop Go.Extern WordM

/-- the word behind it, and no error -/
def NextOk (w : World) (k : Nat) (l : List Int) (e : Ending) (w' : World) : Prop := ∃ x, IsNext k l x ∧ IntOk w x e w'

theorem set_mid {l : List Int} {i : Nat} {y v : Int} (h : l[i]? = some y) (n : Nat) (z : Int) : (l.take (i + 1) ++ List.replicate n z).set i v = l.take i ++ v :: List.replicate n z := by
  have hi := ltI h
  have e : l.take (i + 1) = l.take i ++ [y] := by rw [List.take_add_one, h]; rfl
  rw [e, List.append_assoc, List.set_append_right _ _ (by rw [List.length_take]; omega), List.length_take, Nat.min_eq_left (by omega), Nat.sub_self]
  rfl
theorem take_rep {l : List Int} {i n : Nat} {y z : Int} (h : l[i]? = some y) (e : l = l.take (i + 1) ++ List.replicate n z) : l = l.take i ++ y :: List.replicate n z := by
  have e2 : l.take (i + 1) = l.take i ++ [y] := by rw [List.take_add_one, h]; rfl
  rw [e2, List.append_assoc] at e
  exact e
def NextRel (w : World) (k : Nat) (l : List Int) (p : Option Addr) (c : Nat) (v : Value) (wr : World) : Prop :=
  ∃ j : Nat, j ≤ l.length ∧ v = .int .i64 ((j : Int) - 1) ∧ l = l.take j ++ List.replicate (l.length - j) ((k : Int) - 1) ∧ IntO w.heap.size wr p c (l.take j ++ List.replicate (l.length - j) 0) ∧ Below w.heap.size w wr
set_option maxRecDepth 100000 in
set_option maxHeartbeats 4000000 in
theorem next_any (k : Nat) (p : Option Addr) (n c : Nat) (l : List Int) (w : World) (hn : n = l.length) (h : IntV w.heap.size w p c l) (hc : chkW k l = none) (hlast : l.length < 4096 ∨ l ≠ List.replicate l.length ((k : Int) - 1)) :
    Calls Tryz.prog 46 #[.int .i64 (k : Int), .slice p n c] w (NextOk w k l) := by
  obtain ⟨i0, hi, hz0, hz1, hz2⟩ := info_parts infoI
  have hck := check_ok (k : Int) p n c l w hn h hc
  obtain ⟨k', hk', h1, h4, hl, ho⟩ := chkW_none hc
  obtain rfl : k = k' := by omega
  have H := Lib.hid (And.intro h (And.intro ho (And.intro hn hlast)))
  have hn4 : n ≤ 4096 := by omega
  have HCK := Lib.hid hck
  clear h hc hl ho hck hlast hk' hn
  go_enter Tryz.func46, Tryz.ntmps46
  go_wp2_with fail
  refine HCK.out.mono ?_
  rintro e w1 ⟨rfl, hb1⟩
  have hcl := cloneI_any p c l w1 (H.out.1.next hb1) (by have := H.out.2.2.1; omega)
  rw [← H.out.2.2.1] at hcl
  have HB1 := Lib.hid (And.intro hb1 hcl)
  clear hb1 hcl
  go_wp2_with fail
  refine HB1.out.2.mono ?_
  rintro e w2 ⟨p2, c2, rfl, ho2, hb2⟩
  have hb02 : Below w.heap.size w w2 := HB1.out.1.trans (hb2.mono HB1.out.1.size)
  have ho02 := ho2.base HB1.out.1.size
  have hlen := H.out.2.2.1
  obtain ⟨L, hL⟩ : ∃ L, l.length = L := ⟨_, rfl⟩
  have hLn : L = n := by omega
  rw [hL, hLn]
  have HO := Lib.hid (And.intro hb02 ho02)
  clear hb2 ho2 hb02 ho02 hlen hL hLn
  go_wp2_with fail
  go_loopw [8] (fun v wr => NextRel w k l p2 c2 v wr) (fun v _ => (intOf v + 1).toNat)
  case atStart =>
    have hlen := H.out.2.2.1
    exact ⟨l.length, Nat.le_refl _, by rw [hlen], by simp, by simp; exact HO.out.2, HO.out.1⟩
  case round =>
    obtain ⟨j, hj, rfl, hw2, ho, hb⟩ := hrel
    have hlen := H.out.2.2.1
    have hleng : (l.take j ++ List.replicate (l.length - j) (0 : Int)).length = n := by simp; omega
    rcases Nat.eq_zero_or_pos j with rfl | hj0
    · -- all were k - 1
      have hl4 : ((n : Int) == 4096) = false := by
        rw [beq_eq_false_iff_ne]
        intro e
        rcases H.out.2.2.2 with h1 | h1
        · omega
        · apply h1
          rw [List.take_zero, List.nil_append, Nat.sub_zero] at hw2
          exact hw2
      have hx : l.take 0 ++ List.replicate (l.length - 0) (0 : Int) = List.replicate n 0 := by rw [List.take_zero, List.nil_append, Nat.sub_zero, hlen]
      rw [hx] at ho
      have hown : wr.ownsRow w.heap.size 3 1 (.slice p2 n c2) n (cI (List.replicate n 0)) := by
        unfold IntO at ho
        rwa [List.length_replicate] at ho
      have hwB : w.heap.size ≤ wr.heap.size := hb.size
      have HX := Lib.hid (And.intro hw2 hb)
      clear ho hx hw2 hb hlen hleng
      go_wp2_with (at_builtin; refine wpList_append_own _ rfl _ _ 22 rfl w.heap.size 3 i0 (.int .i64 0) 1 8 Tryz.underlying22 hi hz0 hz1 hz2 rfl (by decide) _ n (cI (List.replicate n 0)) rfl (hown.alloc _) ⟨wr.heap.size, 0, none⟩ 1 1 [.int .i64 0] rfl rfl (cell_one_new _ _ _) ?c2 ?c3 ?c4 ?c5 ?_)
      case c2 => intro u hu; simp at hu; subst hu; rfl
      case c3 => unfold maxLen; omega
      case c4 => omega
      case c5 => simp; omega
      intro v' w3 hown' hgrow _
      have hxs : cI (List.replicate n 0) ++ [Value.int .i64 0] = cI (List.replicate (n + 1) 0) := by
        rw [List.replicate_succ', cI_app]; rfl
      rw [hxs] at hown'
      have hown2 : w3.ownsRow w.heap.size 3 1 v' (List.replicate (n + 1) (0 : Int)).length (cI (List.replicate (n + 1) 0)) := by rw [List.length_replicate]; exact hown'
      obtain ⟨p3, c3, rfl, ho3⟩ := IntO.slice_own hown2
      have hb3 : Below w.heap.size w w3 := (HX.out.2.alloc hwB _).grown hgrow (by simp; omega) (fun j hj => (hown.lt j hj).1)
      have HF := Lib.hid (And.intro ho3 hb3)
      clear hown hown' hgrow ho3 hb3 hxs hown2
      go_wp2_with fail
      go_ret2
      refine ⟨List.replicate (n + 1) 0, Or.inr ⟨?_, by rw [H.out.2.2.1]⟩, p3, c3, rfl, HF.out.1, HF.out.2⟩
      have e := HX.out.1
      rwa [List.take_zero, List.nil_append, Nat.sub_zero] at e
    · obtain ⟨i, rfl⟩ : ∃ i, j = i + 1 := ⟨j - 1, by omega⟩
      have e1 : (((i + 1 : Nat) : Int) - 1) = (i : Int) := by omega
      rw [e1]
      obtain ⟨y, hy⟩ := getI (l := l) (k := i) (by omega)
      have hyo := H.out.2.1 y (List.mem_of_getElem? hy)
      have hyx : (l.take (i + 1) ++ List.replicate (l.length - (i + 1)) (0 : Int))[i]? = some y := by
        rw [List.getElem?_append_left (by rw [List.length_take]; omega), List.getElem?_take, if_pos (by omega), hy]
      have hset := fun v => set_mid (v := v) hy (l.length - (i + 1)) 0
      have hrep := take_rep hy hw2
      obtain ⟨xs, hxs⟩ : ∃ xs, l.take (i + 1) ++ List.replicate (l.length - (i + 1)) (0 : Int) = xs := ⟨_, rfl⟩
      rw [hxs] at ho hleng hyx
      simp only [hxs] at hset
      have hown : wr.ownsRow w.heap.size 3 1 (.slice p2 n c2) n (cI xs) := by
        unfold IntO at ho
        rwa [hleng] at ho
      rcases own_shape hown with ⟨hv, h0, _⟩ | ⟨g, cap, hv, hg, hglt, hcc, hm, hcel, _⟩
      · omega
      obtain ⟨rfl, rfl⟩ : p2 = some ⟨g, 0, none⟩ ∧ c2 = cap := by simpa using hv
      have hin : i < n := by omega
      have hcx : wr.cell? ⟨g, i, none⟩ = some (.int .i64 y) := (hcel i hin).trans (cI_get hyx)
      have hfx : wr.frozen? ⟨g, i, none⟩ = false := hown.frozenAt i
      have hnc2 : n ≤ c2 := hcc
      have hc2m : c2 ≤ 9223372036854775807 := by unfold maxLen at hm; omega
      by_cases hyk : y < (k : Int) - 1
      · obtain ⟨s1, t1⟩ := hown.stored i (.int .i64 (y + 1))
        rw [← cI_set, hset] at s1
        have hb1 : Below w.heap.size w (wr.setCell ⟨g, i, none⟩ (.int .i64 (y + 1))) := hb.setCell (p := ⟨g, i, none⟩) hg _
        have HS := Lib.hid (And.intro s1 (And.intro hb1 (And.intro hy (And.intro hrep hyk))))
        have hyw : y + 1 ≤ 4 := by omega
        have hy0 : 0 ≤ y := hyo.1
        clear ho hown hcel hv hset hxs s1 t1 hb1 hb hw2 hy hrep hyx hleng hlen hyo e1 hcc hm
        go_wp2_with fail
        go_ret2
        have e3 : l.length - (i + 1) = l.length - 1 - i := by omega
        refine ⟨l.take i ++ (y + 1) :: List.replicate (l.length - (i + 1)) 0, Or.inl ⟨i, y, HS.out.2.2.1, HS.out.2.2.2.2, by rw [← e3]; exact HS.out.2.2.2.1, by rw [e3]⟩, some ⟨g, 0, none⟩, c2, ?_, ?_, HS.out.2.1⟩
        · have : (l.take i ++ (y + 1) :: List.replicate (l.length - (i + 1)) 0).length = n := by simp; have := H.out.2.2.1; omega
          rw [this]; rfl
        · unfold IntO
          have : (l.take i ++ (y + 1) :: List.replicate (l.length - (i + 1)) 0).length = n := by simp; have := H.out.2.2.1; omega
          rw [this]; exact HS.out.1
      · obtain rfl : y = (k : Int) - 1 := by omega
        obtain ⟨s1, t1⟩ := hown.stored i (.int .i64 0)
        rw [← cI_set, hset] at s1
        have hb1 : Below w.heap.size w (wr.setCell ⟨g, i, none⟩ (.int .i64 0)) := hb.setCell (p := ⟨g, i, none⟩) hg _
        have HS := Lib.hid (And.intro s1 (And.intro hb1 (And.intro hy hrep)))
        clear ho hown hcel hv hset hxs s1 t1 hb1 hb hw2 hy hrep hyx hleng hlen hyo e1 hcc hm hyk
        go_wp2_with fail
        go_roundw
        case rel =>
          have e3 : l.length - i = l.length - (i + 1) + 1 := by have := H.out.2.2.1; omega
          refine ⟨i, by have := H.out.2.2.1; omega, rfl, by rw [e3, List.replicate_succ]; exact HS.out.2.2.2, ?_, HS.out.2.1⟩
          rw [e3, List.replicate_succ]
          unfold IntO
          have : (l.take i ++ 0 :: List.replicate (l.length - (i + 1)) (0 : Int)).length = n := by simp; have := H.out.2.2.1; omega
          rw [this]; exact HS.out.1
        case measure => simp [intOf]
end Go.Proofs.YtgdjnohhofbcnaaGreatDoor
end
section
namespace Go.Proofs.YtgdjnohhofbcnaaGreatDoor
open Go.RowKit NatM

theorem bsOf_strOfNums {l : List Nat} (h : ∀ x ∈ l, x < 256) : bsOf (strOfNums (l.map fun (d : Nat) => (d : Int))) = l := by
  unfold bsOf
  rw [strOfNums_data, List.map_map, List.map_map]
  conv => rhs; rw [← List.map_id l]
  apply List.map_congr_left
  intro x hx
  have := h x hx
  simp [UInt8.toNat_ofNat']
  omega
theorem strOfNums_bsOf (s : ByteArray) : strOfNums ((bsOf s).map fun (d : Nat) => (d : Int)) = s := by
  have h : (strOfNums ((bsOf s).map fun (d : Nat) => (d : Int))).data.toList = s.data.toList := by
    rw [strOfNums_data]
    unfold bsOf
    rw [List.map_map, List.map_map]
    conv => rhs; rw [← List.map_id s.data.toList]
    apply List.map_congr_left
    intro x _
    simp
  cases s with
  | mk d =>
    have := congrArg List.toArray h
    simp at this
    exact congrArg ByteArray.mk this
end Go.Proofs.YtgdjnohhofbcnaaGreatDoor
end
section
namespace Go.Proofs.YtgdjnohhofbcnaaGreatDoor
open Go.RowKit Go.Extern.Stop Go.Stop Go.Extern WordM NatM

set_option maxRecDepth 100000 in
set_option maxHeartbeats 4000000 in
theorem next_bad (k : Int) (p : Option Addr) (n c : Nat) (l : List Int) (w : World) (A : Nat → Addr) (hr : Roots w A) (hn : n = l.length) (h : IntV w.heap.size w p c l) (i m : Nat) (hc : chkW k l = some (i, m)) :
    Calls Tryz.prog 46 #[.int .i64 k, .slice p n c] w (Err2 w A wordOp i m (.slice none 0 0)) := by
  have hck := check_bad k p n c l w A hr hn h i m hc
  have HCK := Lib.hid hck
  clear h hc hck hr hn
  go_enter Tryz.func46, Tryz.ntmps46
  go_wp2_with fail
  refine HCK.out.mono ?_
  rintro e w1 ⟨b, rfl, hl1, hb1⟩
  have H := Lib.hid (And.intro hl1 hb1)
  clear hl1 hb1
  go_wp2_with fail
  go_ret2
  exact ⟨_, rfl, H.out.1, H.out.2⟩

/-- a text's digits as symbols -/
def sW (s : ByteArray) : List Int := (bsOf s).map fun (b : Nat) => (b : Int) - 48
theorem sW_length (s : ByteArray) : (sW s).length = s.size := by unfold sW; rw [List.length_map, bsOf_length]
theorem sW_get {s : ByteArray} {k : Nat} (h : k < s.size) : (sW s)[k]? = some ((s[k].toNat : Int) - 48) := by
  unfold sW
  rw [List.getElem?_map, bsOf_get h]; rfl
/-- of a text that is refused the number is 6 in place of 2 -/
def code6 (m : Nat) : Nat := if m = 2 then 6 else m

def ParseWRel (w : World) (n : Nat) (l : List Int) (p : Option Addr) (c : Nat) (J : Nat) (v : Value) (wr : World) : Prop :=
  ∃ j : Nat, j ≤ J ∧ v = .int .i64 (j : Int) ∧ IntO w.heap.size wr p c (l.take j ++ List.replicate (n - j) 0) ∧ Below w.heap.size w wr
theorem put_next {l : List Int} {j n : Nat} {x : Int} (h : l[j]? = some x) (hj : j < n) : (l.take j ++ List.replicate (n - j) 0).set j x = l.take (j + 1) ++ List.replicate (n - (j + 1)) 0 := by
  have hl := ltI h
  rw [List.set_append_right _ _ (by rw [List.length_take]; omega), List.length_take, Nat.min_eq_left (by omega), Nat.sub_self, List.take_add_one, h]
  obtain ⟨m, hm⟩ : ∃ m, n - j = m + 1 := ⟨n - j - 1, by omega⟩
  rw [hm, show n - (j + 1) = m by omega, List.replicate_succ]
  simp
theorem mid_len {l : List Int} {j n : Nat} (hl : j ≤ l.length) (hj : j ≤ n) : (l.take j ++ List.replicate (n - j) (0 : Int)).length = n := by simp; omega

set_option maxRecDepth 100000 in
set_option maxHeartbeats 4000000 in
theorem parseW_ok (k : Int) (s : ByteArray) (w : World) (hc : chkW k (sW s) = none) :
    Calls Tryz.prog 47 #[.int .i64 k, .string s] w (IntOk w (sW s)) := by
  obtain ⟨k, rfl, h1, h4, hl, ho⟩ := chkW_none hc
  rw [sW_length] at hl
  have H := Lib.hid ho
  have hmk := makeI s.size (by omega) w
  clear hc ho
  go_enter Tryz.func47, Tryz.ntmps47
  go_wp2_with fail
  refine (alpha_yes _ _ (by omega) (by omega)).mono ?_
  rintro e w' ⟨rfl, rfl⟩
  go_wp2_with fail
  have ho0 := IntO.made w s.size (by omega)
  have hb0 : Below w.heap.size w (w.alloc (.cells (madeCells #[.int .i64 0] s.size) 3)) := (Below.refl _ _).alloc (Nat.le_refl _) _
  have HO := Lib.hid (And.intro ho0 hb0)
  clear hmk ho0 hb0
  go_loopw [21] (fun v wr => ParseWRel w s.size (sW s) (some ⟨w.heap.size, 0, none⟩) s.size s.size v wr) (fun v _ => s.size - (intOf v).toNat)
  case atStart => exact ⟨0, Nat.zero_le _, rfl, by simpa using HO.out.1, HO.out.2⟩
  case round =>
    obtain ⟨j, hj, rfl, ho, hb⟩ := hrel
    have hlen := mid_len (l := sW s) (j := j) (n := s.size) (by rw [sW_length]; exact hj) hj
    by_cases hlt : j < s.size
    · have hx := sW_get hlt
      have hxo := H.out _ (List.mem_of_getElem? hx)
      obtain ⟨x, hxx⟩ : ∃ x, (s[j].toNat : Int) - 48 = x := ⟨_, rfl⟩
      rw [hxx] at hx hxo
      have hput := put_next hx hlt
      obtain ⟨xs, hxs⟩ : ∃ xs, (sW s).take j ++ List.replicate (s.size - j) (0 : Int) = xs := ⟨_, rfl⟩
      rw [hxs] at ho hlen hput
      have hown : wr.ownsRow w.heap.size 3 1 (.slice (some ⟨w.heap.size, 0, none⟩) s.size s.size) s.size (cI xs) := by
        unfold IntO at ho
        rwa [hlen] at ho
      obtain ⟨y, hy⟩ := getI (l := xs) (k := j) (by omega)
      have hcy : wr.cell? ⟨w.heap.size, j, none⟩ = some (.int .i64 y) := (hown.cellAt j (by omega)).trans (cI_get hy)
      have hfy : wr.frozen? ⟨w.heap.size, j, none⟩ = false := hown.frozenAt j
      obtain ⟨s1, t1⟩ := hown.stored j (.int .i64 x)
      rw [← cI_set, hput] at s1
      have hb1 : Below w.heap.size w (wr.setCell ⟨w.heap.size, j, none⟩ (.int .i64 x)) := hb.setCell (p := ⟨w.heap.size, j, none⟩) (Nat.le_refl _) _
      have hlen1 := mid_len (l := sW s) (j := j + 1) (n := s.size) (by rw [sW_length]; omega) (by omega)
      have HS := Lib.hid (And.intro s1 (And.intro hb1 hlen1))
      have hx0 : ¬ x < 0 := by omega
      have hxk : ¬ (k : Int) ≤ x := by omega
      clear ho hown hput hxs s1 t1 hb1 hb hy hx hlen hlen1 hxo
      go_wp2_with fail
      go_roundw
      case rel => exact ⟨j + 1, by omega, by go_num, by unfold IntO; rw [HS.out.2.2]; exact HS.out.1, HS.out.2.1⟩
      case measure => simp [intOf]; omega
    · obtain rfl : j = s.size := by omega
      have he : (sW s).take s.size ++ List.replicate (s.size - s.size) (0 : Int) = sW s := by
        rw [Nat.sub_self, List.replicate_zero, List.append_nil, ← sW_length, List.take_length]
      rw [he] at ho
      have HF := Lib.hid (And.intro ho hb)
      clear ho hb he hlen
      go_wp2_with fail
      go_ret2
      exact ⟨_, _, by rw [sW_length]; rfl, HF.out.1, HF.out.2⟩

set_option maxRecDepth 100000 in
set_option maxHeartbeats 4000000 in
theorem parseW_bad (k : Int) (s : ByteArray) (w : World) (A : Nat → Addr) (hr : Roots w A) (hsz : s.size ≤ maxLen) (i m : Nat) (hc : chkW k (sW s) = some (i, m)) :
    Calls Tryz.prog 47 #[.int .i64 k, .string s] w (Err2 w A wordOp i (code6 m) (.slice none 0 0)) := by
  unfold chkW at hc
  rw [sW_length] at hc
  unfold maxLen at hsz
  split at hc
  · obtain ⟨rfl, rfl⟩ := Prod.mk.inj (Option.some.inj hc)
    have HR := Lib.hid hr
    clear hr hc
    go_enter Tryz.func47, Tryz.ntmps47
    go_wp2_with fail
    refine (alpha_no _ _ (by omega)).mono ?_
    rintro e w' ⟨rfl, rfl⟩
    go_wp2_with fail
    refine (new_at wordOp 0 3 _ A HR.out (by omega)).mono ?_
    rintro e w1 ⟨b, rfl, hl1, hb1⟩
    have H := Lib.hid (And.intro hl1 hb1)
    clear hl1 hb1
    go_wp2_with fail
    go_ret2
    exact ⟨_, rfl, H.out.1, H.out.2⟩
  · split at hc
    · obtain ⟨rfl, rfl⟩ := Prod.mk.inj (Option.some.inj hc)
      have HR := Lib.hid hr
      have hk1 : 1 ≤ k := by omega
      have hk4 : k ≤ 4 := by omega
      clear hr hc
      go_enter Tryz.func47, Tryz.ntmps47
      go_wp2_with fail
      refine (alpha_yes _ _ hk1 hk4).mono ?_
      rintro e w' ⟨rfl, rfl⟩
      go_wp2_with fail
      refine (new_at wordOp 0 4 _ A HR.out (by omega)).mono ?_
      rintro e w1 ⟨b, rfl, hl1, hb1⟩
      have H := Lib.hid (And.intro hl1 hb1)
      clear hl1 hb1
      go_wp2_with fail
      go_ret2
      exact ⟨_, rfl, H.out.1, H.out.2⟩
    · obtain ⟨i', hi, he⟩ := Option.map_eq_some_iff.1 hc
      obtain ⟨rfl, rfl⟩ := Prod.mk.inj he
      obtain ⟨hil, hbad, hall⟩ := List.findIdx?_eq_some_iff_getElem.1 hi
      rw [sW_length] at hil
      have hs4 : s.size ≤ 4096 := by omega
      have hk1 : 1 ≤ k := by omega
      have hk4 : k ≤ 4 := by omega
      have H := Lib.hid (And.intro hr (And.intro hbad hall))
      have hmk := makeI s.size (by omega) w
      clear hr hc hi he hbad hall
      go_enter Tryz.func47, Tryz.ntmps47
      go_wp2_with fail
      refine (alpha_yes _ _ hk1 hk4).mono ?_
      rintro e w' ⟨rfl, rfl⟩
      go_wp2_with fail
      have ho0 := IntO.made w s.size (by omega)
      have hb0 : Below w.heap.size w (w.alloc (.cells (madeCells #[.int .i64 0] s.size) 3)) := (Below.refl _ _).alloc (Nat.le_refl _) _
      have HO := Lib.hid (And.intro ho0 hb0)
      clear hmk ho0 hb0
      go_loopw [21] (fun v wr => ParseWRel w s.size (sW s) (some ⟨w.heap.size, 0, none⟩) s.size i' v wr) (fun v _ => s.size - (intOf v).toNat)
      case atStart => exact ⟨0, Nat.zero_le _, rfl, by simpa using HO.out.1, HO.out.2⟩
      case round =>
        obtain ⟨j, hj, rfl, ho, hb⟩ := hrel
        have hlen := mid_len (l := sW s) (j := j) (n := s.size) (by rw [sW_length]; omega) (by omega)
        have hlt : j < s.size := by omega
        have hx := sW_get hlt
        have hbd : s[j].toNat < 256 := UInt8.toNat_lt _
        obtain ⟨x, hxx⟩ : ∃ x, (s[j].toNat : Int) - 48 = x := ⟨_, rfl⟩
        rw [hxx] at hx
        have hput := put_next hx hlt
        obtain ⟨xs, hxs⟩ : ∃ xs, (sW s).take j ++ List.replicate (s.size - j) (0 : Int) = xs := ⟨_, rfl⟩
        rw [hxs] at ho hlen hput
        have hown : wr.ownsRow w.heap.size 3 1 (.slice (some ⟨w.heap.size, 0, none⟩) s.size s.size) s.size (cI xs) := by
          unfold IntO at ho
          rwa [hlen] at ho
        obtain ⟨y, hy⟩ := getI (l := xs) (k := j) (by omega)
        have hcy : wr.cell? ⟨w.heap.size, j, none⟩ = some (.int .i64 y) := (hown.cellAt j (by omega)).trans (cI_get hy)
        have hfy : wr.frozen? ⟨w.heap.size, j, none⟩ = false := hown.frozenAt j
        obtain ⟨s1, t1⟩ := hown.stored j (.int .i64 x)
        rw [← cI_set, hput] at s1
        have hb1 : Below w.heap.size w (wr.setCell ⟨w.heap.size, j, none⟩ (.int .i64 x)) := hb.setCell (p := ⟨w.heap.size, j, none⟩) (Nat.le_refl _) _
        have hlen1 := mid_len (l := sW s) (j := j + 1) (n := s.size) (by rw [sW_length]; omega) (by omega)
        have HS := Lib.hid (And.intro s1 (And.intro hb1 (And.intro hlen1 hx)))
        clear ho hown hput hxs s1 t1 hb1 hb hy hx hlen hlen1
        by_cases hji : j < i'
        · have hg := H.out.2.2 j hji
          have hgx : (sW s)[j]'(by rw [sW_length]; exact hlt) = x := by
            have e := HS.out.2.2.2
            rw [List.getElem?_eq_getElem (by rw [sW_length]; exact hlt)] at e
            exact Option.some.inj e
          rw [hgx] at hg
          unfold badAt at hg
          simp at hg
          have hx0 : ¬ x < 0 := by omega
          have hxk : ¬ k ≤ x := by omega
          clear hg hgx
          go_wp2_with fail
          go_roundw
          case rel => exact ⟨j + 1, by omega, by go_num, by unfold IntO; rw [HS.out.2.2.1]; exact HS.out.1, HS.out.2.1⟩
          case measure => simp [intOf]; omega
        · obtain rfl : j = i' := by omega
          have hg := H.out.2.1
          have hgx : (sW s)[j]'(by rw [sW_length]; exact hlt) = x := by
            have e := HS.out.2.2.2
            rw [List.getElem?_eq_getElem (by rw [sW_length]; exact hlt)] at e
            exact Option.some.inj e
          rw [hgx] at hg
          unfold badAt at hg
          simp at hg
          clear hgx
          rcases Int.lt_or_le x 0 with hx1 | hx1
          · clear hg
            go_wp2_with fail
            refine (new_at wordOp j 6 _ A (H.out.1.below HS.out.2.1) (by omega)).mono ?_
            rintro e w1 ⟨b, rfl, hl1, hb1⟩
            have HF := Lib.hid (And.intro hl1 (HS.out.2.1.trans (hb1.mono HS.out.2.1.size)))
            clear hl1 hb1
            go_wp2_with fail
            go_ret2
            exact ⟨_, rfl, HF.out.1, HF.out.2⟩
          · have hx2 : k ≤ x := by omega
            have hx3 : ¬ x < 0 := by omega
            clear hg
            go_wp2_with fail
            refine (new_at wordOp j 6 _ A (H.out.1.below HS.out.2.1) (by omega)).mono ?_
            rintro e w1 ⟨b, rfl, hl1, hb1⟩
            have HF := Lib.hid (And.intro hl1 (HS.out.2.1.trans (hb1.mono HS.out.2.1.size)))
            clear hl1 hb1
            go_wp2_with fail
            go_ret2
            exact ⟨_, rfl, HF.out.1, HF.out.2⟩
end Go.Proofs.YtgdjnohhofbcnaaGreatDoor
end
section
namespace Go.Proofs.YtgdjnohhofbcnaaGreatDoor
open Go.RowKit Go.Extern.Stop Go.Stop Go.Extern WordM RuleM

/-- where Local refuses: the place and the number -/
def chkL (k r : Int) (t w : List Int) : Option (Nat × Nat) := match chkR k r t with
  | some i => some (i, 1)
  | none => if (w.length : Int) ≠ 2 * r + 1 then some (0, 3) else (w.findIdx? (badAt k)).map fun i => (i, 2)
/-- where Step refuses: the place and the number -/
def chkT (k r : Int) (t w : List Int) : Option (Nat × Nat) := match chkR k r t with
  | some i => some (i, 1)
  | none => if 4096 < w.length then some (0, 4) else (w.findIdx? (badAt k)).map fun i => (i, 2)
theorem chkL_none {k r : Int} {t w : List Int} (h : chkL k r t w = none) : ∃ K R : Nat, k = K ∧ r = R ∧ OkR K R t ∧ w.length = 2 * R + 1 ∧ okW K w := by
  unfold chkL at h
  split at h
  · cases h
  · rename_i hn
    obtain ⟨K, R, rfl, rfl, h3⟩ := chkR_none hn
    split at h
    · cases h
    · rw [Option.map_eq_none_iff, bad_none] at h
      exact ⟨K, R, rfl, rfl, h3, by omega, h⟩
theorem chkT_none {k r : Int} {t w : List Int} (h : chkT k r t w = none) : ∃ K R : Nat, k = K ∧ r = R ∧ OkR K R t ∧ w.length ≤ 4096 ∧ okW K w := by
  unfold chkT at h
  split at h
  · cases h
  · rename_i hn
    obtain ⟨K, R, rfl, rfl, h3⟩ := chkR_none hn
    split at h
    · cases h
    · rw [Option.map_eq_none_iff, bad_none] at h
      exact ⟨K, R, rfl, rfl, h3, by omega, h⟩
theorem chkT_ok {K R : Nat} {t w : List Int} (h : OkR K R t) (hl : w.length ≤ 4096) (hw : okW K w) : chkT K R t w = none := by
  unfold chkT
  rw [chkR_ok h]
  simp only []
  rw [if_neg (by omega), Option.map_eq_none_iff, bad_none]
  exact hw
theorem chkL_ok {K R : Nat} {t w : List Int} (h : OkR K R t) (hl : w.length = 2 * R + 1) (hw : okW K w) : chkL K R t w = none := by
  unfold chkL
  rw [chkR_ok h]
  simp only []
  rw [if_neg (by omega), Option.map_eq_none_iff, bad_none]
  exact hw

theorem valW_take1 {k : Nat} {l : List Int} {j : Nat} {x : Int} (h : l[j]? = some x) : valW k (l.take (j + 1)) = valW k (l.take j) * k + x.toNat := by
  rw [List.take_add_one, h]; exact valW_snoc k _ x
theorem val_small {k : Nat} {l : List Int} {j : Nat} (h4 : k ≤ 4) (ho : okW k l) (hj : j ≤ 7) : valW k (l.take j) < 16384 := by
  have h1 := valW_lt (okW_take ho j)
  have h2 : k ^ (l.take j).length ≤ 4 ^ (l.take j).length := Nat.pow_le_pow_left h4 _
  have h3 : 4 ^ (l.take j).length ≤ 4 ^ 7 := Nat.pow_le_pow_right (by omega) (by rw [List.length_take]; omega)
  have h5 : (4 : Nat) ^ 7 = 16384 := by decide
  omega

/-- a number, and no error -/
def IntOk1 (w : World) (x : Int) (e : Ending) (w' : World) : Prop := e = .returned (.tuple #[.int .i64 x, .nilIface]) ∧ Below w.heap.size w w'


end Go.Proofs.YtgdjnohhofbcnaaGreatDoor
end
section
namespace Go.Proofs.YtgdjnohhofbcnaaGreatDoor
open Go.RowKit Go.Extern.Stop Go.Stop Go.Extern WordM RuleM

set_option maxRecDepth 100000 in
set_option maxHeartbeats 2000000 in
theorem step_short (k r : Nat) (p q : Option Addr) (n c m d : Nat) (t l : List Int) (w : World) (hn : n = t.length) (hm : m = l.length) (h : IntV w.heap.size w p c t) (hl : IntV w.heap.size w q d l) (ho : OkR k r t) (hlen : m ≤ 2 * r) (hw : okW k l) :
    Calls Tryz.prog 23 #[.agg #[.int .i64 (k : Int), .int .i64 (r : Int), .slice p n c], .slice q m d] w (IntOk w (imgW k r t l)) := by
  have h4 := ho.k4
  have h3 := ho.r3
  have hle := hl.le
  have hcap := hl.cap
  unfold maxLen at hcap
  have hmd : m ≤ d := by omega
  have hst := strayN_ok hw
  rw [← hm] at hst
  have hnil := imgW_nil (k := k) (t := t) (w := l) (r := r) (by omega)
  have H := Lib.hid (And.intro h (And.intro hn (And.intro ho (And.intro hst (And.intro hl (And.intro hm hnil))))))
  clear h hn ho hst hl hm hw hle hnil
  obtain ⟨R2, hR2⟩ : ∃ R2 : Nat, 2 * r = R2 := ⟨_, rfl⟩
  have w2r : IntKind.i64.wrap (2 * (r : Int)) = (R2 : Int) := by rw [IntWalk.i64_in _ (by omega)]; omega
  have hmR : m ≤ R2 := by omega
  have hm4 : ¬ 4096 < m := by omega
  clear hR2 hlen
  go_enter Tryz.func23, Tryz.ntmps23
  go_wp2_with fail
  obtain ⟨w0, hw0⟩ : ∃ w0, w0 = w.alloc (.cells #[.int .i64 (k : Int), .int .i64 (r : Int), .slice p n c] 24) := ⟨_, rfl⟩
  have hb0 : Below w.heap.size w w0 := by rw [hw0]; exact (Below.refl _ _).alloc (Nat.le_refl _) _
  have hE0 : Rul3 w0 w.heap.size (.int .i64 (k : Int)) (.int .i64 (r : Int)) (.slice p n c) := by rw [hw0]; exact Rul3.new w _ _ _
  rw [← hw0]
  obtain ⟨⟨hf0, hf1, hf2⟩, hc0, hc1, hc2⟩ := hE0.facts
  have HE := Lib.hid (And.intro hE0 hb0)
  clear hw0 hE0 hb0
  go_wp2_with fail
  refine (rcheck_ok k r p n c t w0 H.out.2.1 (H.out.1.next HE.out.2) H.out.2.2.1).mono ?_
  rintro e w1 ⟨rfl, hb1⟩
  have H1 := Lib.hid (And.intro (HE.out.1.next hb1) (HE.out.2.trans (hb1.mono HE.out.2.size)))
  clear hb1 hf0 hf1 hf2 hc0 hc1 hc2
  obtain ⟨⟨hf0, hf1, hf2⟩, hc0, hc1, hc2⟩ := H1.out.1.facts
  go_wp2_with fail
  refine (stray_any (k : Int) q m d l w1 H.out.2.2.2.2.2.1 (H.out.2.2.2.2.1.next H1.out.2)).mono ?_
  rintro e w2 ⟨rfl, rfl⟩
  rw [H.out.2.2.2.1]
  go_wp2_with fail
  go_ret2
  exact ⟨none, 0, by rw [H.out.2.2.2.2.2.2]; rfl, by rw [H.out.2.2.2.2.2.2]; exact IntO.nothing _ _, H1.out.2⟩

def StepRel (w1 : World) (k S m R2 u : Nat) (l I : List Int) (v9 v46 : Value) (wr : World) : Prop :=
  ∃ j : Nat, j ≤ m ∧ v46 = .int .i64 (j : Int) ∧ v9 = .int .i64 ((valW k (l.take j) % S : Nat) : Int) ∧ IntO w1.heap.size wr (some ⟨w1.heap.size, 0, none⟩) u (I.take (j - R2) ++ List.replicate (u - (j - R2)) 0) ∧ Below w1.heap.size w1 wr
set_option maxRecDepth 100000 in
set_option maxHeartbeats 4000000 in
theorem step_long (k r : Nat) (p q : Option Addr) (n c m d : Nat) (t l : List Int) (w : World) (hn : n = t.length) (hm : m = l.length) (h : IntV w.heap.size w p c t) (hl : IntV w.heap.size w q d l) (ho : OkR k r t) (hlen : 2 * r < m) (hm4 : m ≤ 4096) (hw : okW k l) :
    Calls Tryz.prog 23 #[.agg #[.int .i64 (k : Int), .int .i64 (r : Int), .slice p n c], .slice q m d] w (IntOk w (imgW k r t l)) := by
  have h1 := ho.k1
  have h4 := ho.k4
  have h3 := ho.r3
  have hle := hl.le
  have hcap := hl.cap
  have hcap2 := h.cap
  have hle2 := h.le
  unfold maxLen at hcap hcap2
  have hmd : m ≤ d := by omega
  have hnc : n ≤ c := by omega
  have hst := strayN_ok hw
  rw [← hm] at hst
  have hn16 : n ≤ 16384 := by rw [hn, ho.len]; exact pow_le h4 h3
  have hn1 : 1 ≤ n := by rw [hn, ho.len]; exact pow_pos h1
  obtain ⟨R2, hR2⟩ : ∃ R2 : Nat, 2 * r = R2 := ⟨_, rfl⟩
  have hS : n = k ^ (R2 + 1) := by rw [hn, ho.len, hR2]
  have hil := imgW_length k r t l
  have hig := fun i => @imgW_get k r t l i
  rw [hR2] at hil hig
  obtain ⟨I, hI⟩ : ∃ I, imgW k r t l = I := ⟨_, rfl⟩
  rw [hI] at hil ⊢
  simp only [hI] at hig
  obtain ⟨u, hu⟩ : ∃ u, m - R2 = u := ⟨_, rfl⟩
  have hIu : I.length = u := by rw [hil, ← hm, hu]
  have w2r : IntKind.i64.wrap (2 * (r : Int)) = (R2 : Int) := by rw [IntWalk.i64_in _ (by omega)]; omega
  have wmu : IntKind.i64.wrap ((m : Int) - (R2 : Int)) = (u : Int) := by rw [IntWalk.i64_in _ (by omega)]; omega
  have hmR : ¬ m ≤ R2 := by omega
  have hR6 : R2 ≤ 6 := by omega
  have hu4 : u ≤ 4096 := by omega
  have hmk := makeI u (by omega)
  have H := Lib.hid (And.intro h (And.intro hn (And.intro ho (And.intro hst (And.intro hl (And.intro hm (And.intro hig (And.intro hIu (And.intro hS (And.intro hw hu))))))))))
  clear h hn ho hst hl hm hw hle hle2 hig hIu hil hI hS hlen hR2 hu
  go_enter Tryz.func23, Tryz.ntmps23
  go_wp2_with fail
  obtain ⟨w0, hw0⟩ : ∃ w0, w0 = w.alloc (.cells #[.int .i64 (k : Int), .int .i64 (r : Int), .slice p n c] 24) := ⟨_, rfl⟩
  have hb0 : Below w.heap.size w w0 := by rw [hw0]; exact (Below.refl _ _).alloc (Nat.le_refl _) _
  have hE0 : Rul3 w0 w.heap.size (.int .i64 (k : Int)) (.int .i64 (r : Int)) (.slice p n c) := by rw [hw0]; exact Rul3.new w _ _ _
  rw [← hw0]
  obtain ⟨⟨hf0, hf1, hf2⟩, hc0, hc1, hc2⟩ := hE0.facts
  have HE := Lib.hid (And.intro hE0 hb0)
  clear hw0 hE0 hb0
  go_wp2_with fail
  refine (rcheck_ok k r p n c t w0 H.out.2.1 (H.out.1.next HE.out.2) H.out.2.2.1).mono ?_
  rintro e w1 ⟨rfl, hb1⟩
  have H1 := Lib.hid (And.intro (HE.out.1.next hb1) (HE.out.2.trans (hb1.mono HE.out.2.size)))
  clear hb1 hf0 hf1 hf2 hc0 hc1 hc2
  obtain ⟨⟨hf0, hf1, hf2⟩, hc0, hc1, hc2⟩ := H1.out.1.facts
  have hs01 : w.heap.size < w1.heap.size := H1.out.1.lt
  go_wp2_with fail
  refine (stray_any (k : Int) q m d l w1 H.out.2.2.2.2.2.1 (H.out.2.2.2.2.1.next H1.out.2)).mono ?_
  rintro e w2 ⟨rfl, rfl⟩
  rw [H.out.2.2.2.1]
  have hmk1 := hmk w1
  have ho0 := IntO.made w1 u (by omega)
  have hbm : Below w1.heap.size w1 (w1.alloc (.cells (madeCells #[.int .i64 0] u) 3)) := (Below.refl _ _).alloc (Nat.le_refl _) _
  have HO := Lib.hid (And.intro ho0 hbm)
  clear hmk ho0 hbm
  go_wp2_with fail
  clear hmk1
  go_loopw [9, 46] (fun v9 v46 wr => StepRel w1 k n m R2 u l I v9 v46 wr) (fun _ v _ => m - (intOf v).toNat)
  case atStart => exact ⟨0, Nat.zero_le _, rfl, by simp [valW], by simpa using HO.out.1, HO.out.2⟩
  case round =>
    obtain ⟨j, hj, rfl, rfl, ho, hb⟩ := hrel
    have hbw : Below w.heap.size w wr := H1.out.2.trans (hb.mono H1.out.2.size)
    have hBx := H1.out.1.next hb
    clear hf0 hf1 hf2 hc0 hc1 hc2
    obtain ⟨⟨hf0, hf1, hf2⟩, hc0, hc1, hc2⟩ := hBx.facts
    by_cases hlt : j < m
    · have hml := H.out.2.2.2.2.2.1
      obtain ⟨b, off, rfl, hbb, hc⟩ := H.out.2.2.2.2.1.cell (by rintro rfl; simp at hml; omega)
      obtain ⟨x, hx⟩ := getI (l := l) (k := j) (by omega)
      have hcx : wr.cell? ⟨b, off + j, none⟩ = some (.int .i64 x) := (hbw.cell (p := ⟨b, off + j, none⟩) hbb).trans (hc j x hx)
      have hxo := H.out.2.2.2.2.2.2.2.2.2.1 x (List.mem_of_getElem? hx)
      have hstep := step_mod (k := k) (S := n) hx
      obtain ⟨y, rfl⟩ : ∃ y : Nat, x = (y : Int) := ⟨x.toNat, by omega⟩
      rw [Int.toNat_natCast] at hstep
      have hv1 : valW k (l.take j) % n < n := Nat.mod_lt _ (by omega)
      have hv2 : valW k (l.take (j + 1)) % n < n := Nat.mod_lt _ (by omega)
      obtain ⟨v, hv⟩ : ∃ v, valW k (l.take j) % n = v := ⟨_, rfl⟩
      obtain ⟨z, hz⟩ : ∃ z, valW k (l.take (j + 1)) % n = z := ⟨_, rfl⟩
      rw [hv] at hstep hv1 ⊢
      rw [hz] at hstep hv2
      obtain ⟨a, ha⟩ : ∃ a, v * k = a := ⟨_, rfl⟩
      have ha16 : a ≤ 16384 * 4 := by rw [← ha]; exact Nat.mul_le_mul (by omega) h4
      have hvk : ((v : Int) * (k : Int)) = (a : Int) := by rw [← ha]; push_cast; rfl
      rw [ha] at hstep
      have wvk : IntKind.i64.wrap ((v : Int) * (k : Int)) = (a : Int) := by rw [hvk, IntWalk.i64_in _ (by omega)]
      have wax : IntKind.i64.wrap ((a : Int) + (y : Int)) = (a : Int) + (y : Int) := by rw [IntWalk.i64_in _ (by omega)]
      have e1 : ((a : Int) + (y : Int)) % (n : Int) = (z : Int) := by rw [← hstep]; push_cast; rfl
      have t1 : ((a : Int) + (y : Int)).tmod (n : Int) = (z : Int) := by rw [Int.tmod_eq_emod_of_nonneg (by omega), e1]
      have hn0 : ¬ (n : Int) = 0 := by omega
      by_cases hjR : j < R2
      · have e2 : j - R2 = 0 := by omega
        have e3 : j + 1 - R2 = 0 := by omega
        rw [e2] at ho
        have HS := Lib.hid (And.intro hz (And.intro hb (And.intro ho e3)))
        clear hc hx hv hz ha hvk hstep hml hb ho hbw hBx e2 e3
        go_wp2_with fail
        go_roundw
        case rel => exact ⟨j + 1, by omega, by go_num, by rw [HS.out.1], by rw [HS.out.2.2.2]; exact HS.out.2.2.1, HS.out.2.1⟩
        case measure => simp [intOf]; omega
      · obtain ⟨i, hi⟩ : ∃ i, j - R2 = i := ⟨_, rfl⟩
        have hiu : i < u := by have := H.out.2.2.2.2.2.2.2.2.2.2; omega
        have wji : IntKind.i64.wrap ((j : Int) - (R2 : Int)) = (i : Int) := by rw [IntWalk.i64_in _ (by omega)]; omega
        have hIi := H.out.2.2.2.2.2.2.1 i (by have := H.out.2.2.2.2.2.2.2.2.2.2; omega)
        have hwm := win_mod (k := k) (w := l) (i := i) (n := R2 + 1) H.out.2.2.2.2.2.2.2.2.2.1 (by omega)
        rw [show i + (R2 + 1) = j + 1 by omega, ← H.out.2.2.2.2.2.2.2.2.1, hz] at hwm
        rw [← hwm] at hIi
        have hzt : z < t.length := by have := H.out.2.1; omega
        have hg := ent_get hzt
        obtain ⟨b2, off2, rfl, hb2, hc2'⟩ := H.out.1.cell (by rintro rfl; simp at hzt)
        have hcz : wr.cell? ⟨b2, off2 + z, none⟩ = some (.int .i64 (ent t z)) := (hbw.cell (p := ⟨b2, off2 + z, none⟩) hb2).trans (hc2' _ _ hg)
        obtain ⟨f, hf⟩ : ∃ f, ent t z = f := ⟨_, rfl⟩
        rw [hf] at hcz hIi
        rw [hi] at ho
        have hput := put_next hIi hiu
        have hmid := mid_len (l := I) (j := i) (n := u) (by have := H.out.2.2.2.2.2.2.2.1; omega) (by omega)
        obtain ⟨xs, hxs⟩ : ∃ xs, I.take i ++ List.replicate (u - i) (0 : Int) = xs := ⟨_, rfl⟩
        rw [hxs] at ho hput hmid
        have hown : wr.ownsRow w1.heap.size 3 1 (.slice (some ⟨w1.heap.size, 0, none⟩) u u) u (cI xs) := by
          unfold IntO at ho
          rwa [hmid] at ho
        obtain ⟨y0, hy0⟩ := getI (l := xs) (k := i) (by omega)
        have hcy : wr.cell? ⟨w1.heap.size, i, none⟩ = some (.int .i64 y0) := (hown.cellAt i (by omega)).trans (cI_get hy0)
        have hfy : wr.frozen? ⟨w1.heap.size, i, none⟩ = false := hown.frozenAt i
        obtain ⟨s1, t1'⟩ := hown.stored i (.int .i64 f)
        rw [← cI_set, hput] at s1
        have hb1 : Below w1.heap.size w1 (wr.setCell ⟨w1.heap.size, i, none⟩ (.int .i64 f)) := hb.setCell (p := ⟨w1.heap.size, i, none⟩) (Nat.le_refl _) _
        have hmid1 := mid_len (l := I) (j := i + 1) (n := u) (by have := H.out.2.2.2.2.2.2.2.1; omega) (by omega)
        have hij : j + 1 - R2 = i + 1 := by omega
        have HS := Lib.hid (And.intro hz (And.intro hb1 (And.intro s1 (And.intro hmid1 hij))))
        have hzn : z < n := hv2
        clear hc hx hv hz ha hvk hstep hml hb ho hbw hBx hi hIi hwm hzt hg hf hput hmid hxs hown s1 t1' hb1 hmid1 hij hc2' hy0
        go_wp2_with fail
        go_region
        go_wp2_with fail
        go_roundw
        case rel => exact ⟨j + 1, by omega, by go_num, by rw [HS.out.1], by rw [HS.out.2.2.2.2]; unfold IntO; rw [HS.out.2.2.2.1]; exact HS.out.2.2.1, HS.out.2.1.drew⟩
        case measure => simp [intOf]; omega
    · obtain rfl : j = m := by omega
      have hju : j - R2 = u := H.out.2.2.2.2.2.2.2.2.2.2
      have hIu := H.out.2.2.2.2.2.2.2.1
      have he : I.take u ++ List.replicate (u - u) (0 : Int) = I := by rw [Nat.sub_self, List.replicate_zero, List.append_nil, ← hIu, List.take_length]
      rw [hju, he] at ho
      have HF := Lib.hid (And.intro (ho.base (Nat.le_of_lt hs01)) hbw)
      clear ho hb he hbw hBx hju hIu
      go_wp2_with fail
      go_ret2
      exact ⟨_, _, by rw [H.out.2.2.2.2.2.2.2.1]; rfl, HF.out.1, HF.out.2⟩
end Go.Proofs.YtgdjnohhofbcnaaGreatDoor
end
section
namespace Go.Proofs.YtgdjnohhofbcnaaGreatDoor
open Go.RowKit Go.Extern.Stop Go.Stop Go.Extern WordM NatM

theorem makeB (n : Nat) (hn : n ≤ 17592186044000) (w : World) :
    (Instr.makeSlice 68 (.int .i64 (n : Int)) (.int .i64 (n : Int))).run Tryz.prog w = .ok (.slice (some ⟨w.heap.size, 0, none⟩) n n) (w.alloc (.cells (madeCells #[.int .u8 0] n) 5)) := by
  obtain ⟨i0, hi, hz0, hz1, hz2⟩ := info_parts info8
  have h := run_make (P := Tryz.prog) w 68 5 i0 (.int .u8 0) Tryz.underlying68 hi hz0 .i64 .i64 n n (by omega) (by omega) (by rw [hz2]; omega) (by omega)
  rw [hz1] at h
  simpa [Value.cells] using h
/-- bytes in a block of the call's own -/
def ByteO (base : Nat) (w : World) (g n : Nat) (l : List Nat) : Prop := w.ownsRow base 5 1 (.slice (some ⟨g, 0, none⟩) n n) n (cells8 l)
theorem ByteO.made (w : World) (n : Nat) (hn : n ≤ 17592186044000) : ByteO w.heap.size (w.alloc (.cells (madeCells #[.int .u8 0] n) 5)) w.heap.size n (List.replicate n 0) := by
  refine ⟨by simp [cells8], Or.inr ⟨w.heap.size, n, madeCells #[.int .u8 0] n, rfl, Nat.le_refl _, heap_newN _ _, Nat.le_refl _, by unfold maxLen; omega, by rw [size_madeCells, Nat.mul_one], ?_⟩⟩
  rw [madeI_list, Nat.mul_one, List.take_of_length_le (by simp)]
  simp [cells8]

/-- the digits of a word's text -/
def txL (l : List Int) : List Nat := l.map fun x => 48 + x.toNat
def txW (l : List Int) : ByteArray := strOfNums ((txL l).map fun (d : Nat) => (d : Int))
theorem txL_length (l : List Int) : (txL l).length = l.length := by simp [txL]
theorem txL_get {l : List Int} {j : Nat} {x : Int} (h : l[j]? = some x) : (txL l)[j]? = some (48 + x.toNat) := by simp [txL, h]
theorem txW_size (l : List Int) : (txW l).size = l.length := by unfold txW; rw [strOfNums_size, List.length_map, txL_length]
/-- read back -/
theorem sW_txW {k : Nat} (hk : k ≤ 4) {l : List Int} (h : okW k l) : sW (txW l) = l := by
  unfold sW txW
  rw [bsOf_strOfNums]
  · unfold txL
    rw [List.map_map]
    conv => rhs; rw [← List.map_id l]
    apply List.map_congr_left
    intro x hx
    have := h x hx
    simp
    omega
  · intro x hx
    unfold txL at hx
    obtain ⟨y, hy, rfl⟩ := List.mem_map.1 hx
    have := h y hy
    omega
/-- written again -/
theorem txW_sW {k : Nat} {s : ByteArray} (h : okW k (sW s)) : txW (sW s) = s := by
  unfold txW
  have e : txL (sW s) = bsOf s := by
    unfold txL
    unfold sW at h ⊢
    rw [List.map_map]
    conv => rhs; rw [← List.map_id (bsOf s)]
    apply List.map_congr_left
    intro x hx
    have := h ((x : Int) - 48) (List.mem_map.2 ⟨x, hx, rfl⟩)
    simp
    omega
  rw [e, strOfNums_bsOf]
theorem put_nextB {l : List Nat} {j n x : Nat} (h : l[j]? = some x) (hj : j < n) : (l.take j ++ List.replicate (n - j) 0).set j x = l.take (j + 1) ++ List.replicate (n - (j + 1)) 0 := by
  have hl := (List.getElem?_eq_some_iff.1 h).1
  rw [List.set_append_right _ _ (by rw [List.length_take]; omega), List.length_take, Nat.min_eq_left (by omega), Nat.sub_self, List.take_add_one, h]
  obtain ⟨m, hm⟩ : ∃ m, n - j = m + 1 := ⟨n - j - 1, by omega⟩
  rw [hm, show n - (j + 1) = m by omega, List.replicate_succ]
  simp

/-- a text, and no error -/
def StrOk (w : World) (s : ByteArray) (e : Ending) (w' : World) : Prop := e = .returned (.tuple #[.string s, .nilIface]) ∧ Below w.heap.size w w'
def TextWRel (w : World) (n g : Nat) (l : List Int) (v : Value) (wr : World) : Prop :=
  ∃ j : Nat, j ≤ n ∧ v = .int .i64 (j : Int) ∧ ByteO w.heap.size wr g n ((txL l).take j ++ List.replicate (n - j) 0) ∧ Below w.heap.size w wr
set_option maxRecDepth 100000 in
set_option maxHeartbeats 4000000 in
theorem textW_ok (k : Int) (p : Option Addr) (n c : Nat) (l : List Int) (w : World) (hn : n = l.length) (h : IntV w.heap.size w p c l) (hc : chkW k l = none) :
    Calls Tryz.prog 58 #[.int .i64 k, .slice p n c] w (StrOk w (txW l)) := by
  have hck := check_ok k p n c l w hn h hc
  obtain ⟨k, rfl, h1, h4, hl, ho⟩ := chkW_none hc
  have hle := h.le
  have hcap := h.cap
  unfold maxLen at hcap
  have hn4 : n ≤ 4096 := by omega
  have hnc : n ≤ c := by omega
  have H := Lib.hid (And.intro h (And.intro ho hn))
  have HCK := Lib.hid hck
  clear h hc hl ho hck hn hle
  go_enter Tryz.func58, Tryz.ntmps58
  go_wp2_with fail
  refine HCK.out.mono ?_
  rintro e w1 ⟨rfl, hb1⟩
  have hmk := makeB n (by omega) w1
  have ho0 := ByteO.made w1 n (by omega)
  have hb0 : Below w.heap.size w (w1.alloc (.cells (madeCells #[.int .u8 0] n) 5)) := hb1.alloc hb1.size _
  have HO := Lib.hid (And.intro ho0 (And.intro hb0 (And.intro (ownsRow_base hb1.size ho0 : ByteO w.heap.size _ _ _ _) hb1)))
  clear ho0 hb0 hb1
  go_wp2_with fail
  clear hmk
  go_loopw [21] (fun v wr => TextWRel w n w1.heap.size l v wr) (fun v _ => n - (intOf v).toNat)
  case atStart => exact ⟨0, Nat.zero_le _, rfl, by rw [List.take_zero, List.nil_append, Nat.sub_zero]; exact HO.out.2.2.1, HO.out.2.1⟩
  case round =>
    obtain ⟨j, hj, rfl, ho, hb⟩ := hrel
    obtain ⟨g, hg⟩ : ∃ g, g = w1.heap.size := ⟨_, rfl⟩
    have hgB : w.heap.size ≤ g := by rw [hg]; exact HO.out.2.2.2.size
    rw [← hg] at ho ⊢
    have HG := Lib.hid hg
    clear hg
    by_cases hlt : j < n
    · have hnl := H.out.2.2
      obtain ⟨b, off, rfl, hbb, hcc⟩ := (H.out.1.next hb).cell (by rintro rfl; simp at hnl; omega)
      obtain ⟨x, hx⟩ := getI (l := l) (k := j) (by omega)
      have hxo := H.out.2.1 x (List.mem_of_getElem? hx)
      obtain ⟨y, rfl⟩ : ∃ y : Nat, x = (y : Int) := ⟨x.toNat, by omega⟩
      have hy4 : y ≤ 4 := by omega
      have hcx := hcc j _ hx
      have hput := put_nextB (n := n) (txL_get hx) hlt
      rw [Int.toNat_natCast] at hput
      obtain ⟨xs, hxs⟩ : ∃ xs, (txL l).take j ++ List.replicate (n - j) 0 = xs := ⟨_, rfl⟩
      have hlx : xs.length = n := by rw [← hxs, List.length_append, List.length_take, txL_length, List.length_replicate]; omega
      rw [hxs] at ho hput
      have hown : wr.ownsRow w.heap.size 5 1 (.slice (some ⟨g, 0, none⟩) n n) n (cells8 xs) := ho
      obtain ⟨z, hz⟩ : ∃ z, xs[j]? = some z := ⟨_, List.getElem?_eq_getElem (by omega)⟩
      have hcz : wr.cell? ⟨g, j, none⟩ = some (.int .u8 (z : Int)) := (hown.cellAt j (by omega)).trans (cells8_get hz)
      have hfz : wr.frozen? ⟨g, j, none⟩ = false := hown.frozenAt j
      obtain ⟨s1, t1⟩ := hown.stored j (.int .u8 (48 + (y : Int)))
      have e48 : (48 + (y : Int)) = ((48 + y : Nat) : Int) := by omega
      have hcs : (cells8 xs).set j (.int .u8 (48 + (y : Int))) = cells8 (xs.set j (48 + y)) := by rw [cells8_set, e48]
      rw [hcs, hput] at s1
      have hb1 : Below w.heap.size w (wr.setCell ⟨g, j, none⟩ (.int .u8 (48 + (y : Int)))) := hb.setCell (p := ⟨g, j, none⟩) hgB _
      have HS := Lib.hid (And.intro s1 hb1)
      clear ho hown hput hxs s1 t1 hb1 hb hz hx hlx hxo e48 hcs hcc hnl
      go_wp2_with fail
      go_roundw
      case rel => exact ⟨j + 1, by omega, by go_num, by first | exact HS.out.1 | (rw [← HG.out]; exact HS.out.1), HS.out.2⟩
      case measure => simp [intOf]; omega
    · obtain rfl : j = n := by omega
      have he : (txL l).take j ++ List.replicate (j - j) 0 = txL l := by
        rw [Nat.sub_self, List.replicate_zero, List.append_nil, H.out.2.2, ← txL_length, List.take_length]
      rw [he] at ho
      have hown : wr.ownsRow w.heap.size 5 1 (.slice (some ⟨g, 0, none⟩) j j) j (cells8 (txL l)) := ho
      have htl : (txL l).length = j := by rw [txL_length, H.out.2.2]
      have hcv := run_convert_bytes_arg (P := Tryz.prog) wr 68 5 Tryz.underlying68 Tryz.underlying5 g 0 j j ((txL l).map fun (b : Nat) => (b : Int)) (by simp [htl]) (fun i hi => by
        rw [Nat.zero_add]
        have hir : i < (txL l).length := by omega
        rw [hown.cellAt i (by omega), cells8_get (List.getElem?_eq_getElem hir)]
        simp [List.getD_eq_getElem?_getD, hir]) 9 Tryz.underlying9
      have HB := Lib.hid hb
      clear ho hown he htl hb
      go_wp2_with fail
      go_ret2
      exact ⟨rfl, HB.out⟩
theorem textW_bad (k : Int) (p : Option Addr) (n c : Nat) (l : List Int) (w : World) (A : Nat → Addr) (hr : Roots w A) (hn : n = l.length) (h : IntV w.heap.size w p c l) (i m : Nat) (hc : chkW k l = some (i, m)) :
    Calls Tryz.prog 58 #[.int .i64 k, .slice p n c] w (Err2 w A wordOp i m (.string .empty)) := by
  have hck := check_bad k p n c l w A hr hn h i m hc
  have HCK := Lib.hid hck
  clear h hc hck hr hn
  go_enter Tryz.func58, Tryz.ntmps58
  go_wp2_with fail
  refine HCK.out.mono ?_
  rintro e w1 ⟨b, rfl, hl1, hb1⟩
  have H := Lib.hid (And.intro hl1 hb1)
  clear hl1 hb1
  go_wp2_with fail
  go_ret2
  exact ⟨_, rfl, H.out.1, H.out.2⟩
end Go.Proofs.YtgdjnohhofbcnaaGreatDoor
end
