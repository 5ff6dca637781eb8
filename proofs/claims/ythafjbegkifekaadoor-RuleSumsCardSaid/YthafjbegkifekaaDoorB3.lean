/- The document's own package of numbers by its contracts, third part: Cmp, Low.
The document's own package of numbers by its contracts, fourth part: Add, Sum.
The document's own package of numbers by its contracts, fifth part: Sum.
What the statements ask of errors: edenraw.Root, edenraw.New and edenraw.Is, by contracts.
The document's own package of numbers by its contracts, sixth part: Sub.
Package rule by its contracts, second part: Check, smallSize, Small.
Lists of ints: make, slices.Grow of nil, slices.Concat.
Package word by its contracts, second part: Cmp, Back, Turn.
Package word by its contracts, fourth part: Next.
Bytes of texts as numbers, and back.
Package word by its contracts, fifth part: Next where it is refused, Parse.
Package rule by its contracts, third part: Local, Step.
Package rule by its contracts, fourth part: Step.
Package word by its contracts, sixth part: Text.
Contracts of library functions, laid at this program's numbers by the kit's lay-plain.mjs: what each says stands in its type.
Lists of ints: slices.Repeat.
Package word by its contracts, seventh part: Times.
Package word by its contracts, eighth part: Index, At.
Package word by its contracts, ninth part: At.
Package word by its contracts, tenth part: At where it is refused; nat.Pow whatever it is asked.
Package rule by its contracts, fifth part: Step where it is refused, Code, From.
Package rule by its contracts, sixth part: From. -/
import Derived.Test.YthafjbegkifekaaDoorB2
import Derived.Test.YthafjbegkifekaaDoorB1
import Derived.Deep.RegionWith
import Derived.Deep.DeepCutAuto
import Derived.Deep.LoopGhost
import Derived.Laws.Rows
import Derived.Outline
import Derived.Laws.AppendOwnNone
import Derived.Lib.AppendZerosOnto
import Derived.Lib.Walk
import Derived.Laws.Append
import Derived.Lib.SliceRun
import Derived.Laws.BytesArg
import Derived.Shelf.Lay
import Derived.Shelf.LaySoft
import Derived.Test.YthafjbegkifekaaDoorProg
import Derived.Laws.CopyOwn
import Derived.Deep.RegionLaw
import Derived.Deep.RegionHeld3
import Derived.Deep.DrawnRows
section
namespace Go.Proofs.YthafjbegkifekaaDoor
open Go.RowKit NatM

theorem lt_of_drop16 {a b : List Nat} {i x y : Nat} (ha : okB 65536 a) (hx : a[i]? = some x) (hy : b[i]? = some y) (hd : a.drop (i + 1) = b.drop (i + 1)) (hlt : x < y) : V16 a < V16 b := lt_atq (by omega) ha hx hy hd hlt
theorem cmp_len16 {m n : Nat} (h : (D16 m).length < (D16 n).length) : m < n := digs_length_lt (by omega) h

set_option maxRecDepth 100000 in
set_option maxHeartbeats 2000000 in
theorem cmp_ref (p q : Option Addr) (c d : Nat) (l m : List Nat) (w : World) (h : NatV w.heap.size w p c l) (k : NatV w.heap.size w q d m) (hl : l.length ≤ 1048576) (hm : m.length ≤ 1048576) :
    Calls Tryd.prog 58 #[.slice p l.length c, .slice q m.length d] w (Tells (.int .i64 (cmpN (V32 l) (V32 m))) w) := by
  have H := Lib.hid (And.intro h k)
  have HT := Lib.hid (half_any p c l w h hl)
  have HM := Lib.hid (And.intro hm (And.intro (half_len h.ok) (half_len k.ok)))
  obtain ⟨A, hA⟩ : ∃ A, V32 l = A := ⟨_, rfl⟩
  obtain ⟨B, hB⟩ : ∃ B, V32 m = B := ⟨_, rfl⟩
  have HBB := Lib.hid hB
  rw [hA] at HT HM ⊢
  rw [hB] at HM ⊢
  clear h k hm
  go_enter Tryd.func58, Tryd.ntmps58
  go_wp2_with fail
  refine HT.out.mono ?_
  rintro e w1 ⟨p1, c1, rfl, ho1, hb1⟩
  have HT2 := half_any q d m w1 (H.out.2.next hb1) HM.out.1
  rw [HBB.out] at HT2
  have HO := Lib.hid (And.intro ho1 hb1)
  clear ho1 hb1 hA hB
  go_wp2_with fail
  refine HT2.mono ?_
  rintro e w2 ⟨p2, c2, rfl, ho2, hb2⟩
  have hva : V16 (D16 A) = A := V16_D16 _
  have hvb : V16 (D16 B) = B := V16_D16 _
  have HV2 := Lib.hid (And.intro (HO.out.1.next hb2).toV (And.intro ho2.toV (And.intro (D16_ok A) (And.intro (D16_ok B) (HO.out.2.trans (hb2.mono HO.out.2.size))))))
  clear HT2 ho2 hb2
  have hgt : (D16 B).length < (D16 A).length → B < A := cmp_len16
  have hlt : (D16 A).length < (D16 B).length → A < B := cmp_len16
  have hle := HV2.out.1.le
  have hdle := HV2.out.2.1.le
  have hcap := HV2.out.1.cap
  have hdcap := HV2.out.2.1.cap
  unfold maxLen at hcap hdcap
  obtain ⟨a, ha⟩ : ∃ a, D16 A = a := ⟨_, rfl⟩
  obtain ⟨b, hb⟩ : ∃ b, D16 B = b := ⟨_, rfl⟩
  rw [ha] at HV2 hva hgt hlt hle ⊢
  rw [hb] at HV2 hvb hgt hlt hdle ⊢
  have HL := Lib.hid (And.intro hva (And.intro hvb (And.intro hgt hlt)))
  clear hva hvb hgt hlt ha hb
  rcases Nat.lt_trichotomy a.length b.length with hl' | hl' | hl'
  · have HC := Lib.hid (cmp_lt (HL.out.2.2.2 hl'))
    have h1 : ((a.length : Int) != (b.length : Int)) = true := by simp; omega
    go_wp2_with fail
    go_ret
    exact ⟨by rw [HC.out]; try rfl, HV2.out.2.2.2.2⟩
  · obtain ⟨n, hn⟩ : ∃ n, n = a.length := ⟨_, rfl⟩
    have hn2 : b.length = n := by omega
    rw [← hn, hn2]
    rw [← hn] at hle
    rw [hn2] at hdle
    have HN := Lib.hid (And.intro hn hn2)
    clear hl' hn hn2
    go_wp2_with fail
    go_loopw [7] (fun v wx => ∃ k : Nat, k ≤ n ∧ v = .int .i64 ((k : Int) - 1) ∧ Below w2.heap.size w2 wx ∧ Hid (a.drop k = b.drop k)) (fun v _ => (intOf v + 1).toNat)
    case atStart => exact ⟨n, Nat.le_refl _, rfl, Below.refl _ _, by rw [HN.out.1]; show _ = _; rw [List.drop_length, List.drop_of_length_le]; have := HN.out; omega⟩
    case round =>
      obtain ⟨k, hk, rfl, hbx, hdr⟩ := hrel
      rcases Nat.eq_zero_or_pos k with rfl | hk0
      · have hc : cmpN A B = 0 := by
          have e : a = b := by have := hdr.out; simpa using this
          rw [← HL.out.1, ← HL.out.2.1, e, cmp_eq]
        have HC := Lib.hid hc
        clear hc
        go_wp2_with fail
        go_ret
        exact ⟨by rw [HC.out]; rfl, HV2.out.2.2.2.2.trans (hbx.mono HV2.out.2.2.2.2.size)⟩
      · obtain ⟨j, rfl⟩ : ∃ j, k = j + 1 := ⟨k - 1, by omega⟩
        have e1 : (((j + 1 : Nat) : Int) - 1) = (j : Int) := by omega
        rw [e1]
        have hna : n = a.length := HN.out.1
        have hnb : b.length = n := HN.out.2
        have hne : a ≠ [] := List.length_pos_iff.1 (by omega)
        have hneb : b ≠ [] := List.length_pos_iff.1 (by omega)
        obtain ⟨ba, off, rfl, hba, hca⟩ := (HV2.out.1.below hbx).cell hne
        obtain ⟨bb, off', rfl, hbb, hcb⟩ := (HV2.out.2.1.below hbx).cell hneb
        obtain ⟨x, hx⟩ := some_get (l := a) (k := j) (by omega)
        obtain ⟨y, hy⟩ := some_get (l := b) (k := j) (by omega)
        have h1 := hca j x hx
        have h2 := hcb j y hy
        have HX := Lib.hid (And.intro hx hy)
        clear hca hcb hx hy hne hneb hna hnb e1
        by_cases hxy : x = y
        · subst hxy
          go_wp2_with fail
          go_quiet (fail)
          go_wp2_with fail
          go_quiet (fail)
          go_wp2_with fail
          go_roundw
          case rel => exact ⟨j, by omega, rfl, by first | exact below_drewN hbx _ | exact below_drewN (below_drewN hbx _) _, drop_eqq HX.out.1 HX.out.2 hdr.out⟩
          case measure => simp [intOf]
        · by_cases hlt : x < y
          · have hd : decide (x < y) = true := by simp; omega
            have hc : cmpN A B = -1 := by
              rw [← HL.out.1, ← HL.out.2.1, cmp_lt (lt_of_drop16 HV2.out.2.2.1 HX.out.1 HX.out.2 hdr.out hlt)]
            have HC := Lib.hid hc
            clear hc
            go_wp2_with fail
            go_quiet (fail)
            go_wp2_with fail
            go_ret
            exact ⟨by rw [HC.out]; rfl, HV2.out.2.2.2.2.trans ((below_drewN hbx _).mono HV2.out.2.2.2.2.size)⟩
          · have hgt : y < x := by omega
            have hd : decide (x < y) = false := by simp; omega
            have hd2 : decide (y < x) = true := by simp; omega
            have hc : cmpN A B = 1 := by
              rw [← HL.out.1, ← HL.out.2.1, cmp_gt (lt_of_drop16 HV2.out.2.2.2.1 HX.out.2 HX.out.1 hdr.out.symm hgt)]
            have HC := Lib.hid hc
            clear hc
            go_wp2_with fail
            go_quiet (fail)
            go_wp2_with fail
            go_quiet (fail)
            go_wp2_with fail
            go_ret
            exact ⟨by rw [HC.out]; rfl, by first | exact HV2.out.2.2.2.2.trans ((below_drewN hbx _).mono HV2.out.2.2.2.2.size) | exact HV2.out.2.2.2.2.trans ((below_drewN (below_drewN hbx _) _).mono HV2.out.2.2.2.2.size)⟩
  · have HC := Lib.hid (cmp_gt (HL.out.2.2.1 hl'))
    have h1 : ((a.length : Int) != (b.length : Int)) = true := by simp; omega
    have h2 : decide (a.length < b.length) = false := by simp; omega
    go_wp2_with fail
    go_ret
    exact ⟨by rw [HC.out]; try rfl, HV2.out.2.2.2.2⟩

/-- modulo 2^64 -/
def lowN (n : Nat) : Nat := n % 18446744073709551616
theorem low16 {n : Nat} : V16 ((D16 n).take 4) = lowN n := by
  have hv : V16 (D16 n) = n := V16_D16 n
  have h1 := valB_lt (B := 65536) (by omega) (okB_take (D16_ok n) 4)
  rcases Nat.lt_or_ge (D16 n).length 4 with h | h
  · rw [List.take_of_length_le (by omega)] at h1 ⊢
    have h2 : 65536 ^ (D16 n).length ≤ 65536 ^ 4 := Nat.pow_le_pow_right (by omega) (by omega)
    rw [show 65536 ^ 4 = 18446744073709551616 by decide] at h2
    change V16 (D16 n) < _ at h1
    rw [hv] at h1 ⊢
    unfold lowN
    omega
  · have hs := valB_split 65536 (D16 n) 4 h
    rw [List.length_take, Nat.min_eq_left h, show 65536 ^ 4 = 18446744073709551616 by decide] at h1
    rw [show 65536 ^ 4 = 18446744073709551616 by decide] at hs
    change V16 (D16 n) = V16 ((D16 n).take 4) + _ at hs
    change V16 ((D16 n).take 4) < _ at h1
    rw [hv] at hs
    unfold lowN
    omega
/-- x, read so far from the top digit down to place j of the lowest four -/
structure LowInv (n j x : Nat) : Prop where
  le : j ≤ 4
  val : x = V16 (((D16 n).take 4).drop j)
theorem LowInv.lt {n j x : Nat} (h : LowInv n j x) : x < 65536 ^ (4 - j) := by
  have h1 := valB_lt (B := 65536) (by omega) (okB_drop (okB_take (D16_ok n) 4) j)
  rw [h.val]
  refine Nat.lt_of_lt_of_le h1 (Nat.pow_le_pow_right (by omega) ?_)
  rw [List.length_drop, List.length_take]; omega
theorem LowInv.start (n : Nat) : LowInv n 4 0 := ⟨Nat.le_refl _, by rw [List.drop_of_length_le (by rw [List.length_take]; omega)]; rfl⟩
theorem LowInv.step {n j x y : Nat} (h : LowInv n (j + 1) x) (hy : (D16 n)[j]? = some y) : LowInv n j (x * 65536 + y) := by
  have hj := h.le
  refine ⟨by omega, ?_⟩
  have hy' : ((D16 n).take 4)[j]? = some y := by rw [List.getElem?_take, if_pos (by omega)]; exact hy
  have := valB_dropq 65536 hy'
  show _ = valB 65536 _
  rw [this, h.val]
  show V16 _ * 65536 + y = y + 65536 * V16 _
  omega
theorem LowInv.over {n j x : Nat} (h : LowInv n (j + 1) x) (hj : (D16 n).length ≤ j) : LowInv n j (x * 65536) := by
  have hle := h.le
  have e : x = 0 := by rw [h.val, List.drop_of_length_le (by rw [List.length_take]; omega)]; rfl
  refine ⟨by omega, ?_⟩
  rw [List.drop_of_length_le (by rw [List.length_take]; omega), e]; rfl
theorem LowInv.done {n x : Nat} (h : LowInv n 0 x) : x = lowN n := by rw [h.val, List.drop_zero, low16]

def LowRel (n : Nat) (w2 : World) (v4 v5 : Value) (wr : World) : Prop :=
  ∃ (j x : Nat), v5 = .int .i64 ((j : Int) - 1) ∧ v4 = .int .u64 (x : Int) ∧ LowInv n j x ∧ w2 = wr
end Go.Proofs.YthafjbegkifekaaDoor
end
section
namespace Go.Proofs.YthafjbegkifekaaDoor
open Go.RowKit NatM

/-- two lists of digits, added so far up to place i -/
structure SInv (a b : List Nat) (i c : Nat) (out : List Nat) : Prop where
  len : out.length = i
  ok : okB 65536 out
  car : c ≤ 1
  val : V16 out + 65536 ^ i * c = V16 (a.take i) + V16 (b.take i)
  bnd : i ≤ max a.length b.length + 1
theorem SInv.start (a b : List Nat) : SInv a b 0 0 [] := ⟨rfl, okB_nil _, by omega, by simp [V16, valB], by omega⟩
theorem SInv.stop {a b : List Nat} {i c : Nat} {out : List Nat} (ha : okB 65536 a) (hb : okB 65536 b) (h : SInv a b i c out) (hi : max a.length b.length < i) : c = 0 := by
  have hv := h.val
  rw [List.take_of_length_le (by omega), List.take_of_length_le (by omega)] at hv
  have h1 := valB_lt (B := 65536) (by omega) ha
  have h2 := valB_lt (B := 65536) (by omega) hb
  have h3 : 65536 ^ a.length ≤ 65536 ^ (i - 1) := Nat.pow_le_pow_right (by omega) (by omega)
  have h4 : 65536 ^ b.length ≤ 65536 ^ (i - 1) := Nat.pow_le_pow_right (by omega) (by omega)
  have h5 : 65536 ^ i = 65536 * 65536 ^ (i - 1) := by rw [Nat.mul_comm, ← Nat.pow_succ]; congr 1; omega
  rcases Nat.eq_zero_or_pos c with h0 | h0
  · exact h0
  · exfalso
    have h6 : 65536 ^ i * 1 ≤ 65536 ^ i * c := Nat.mul_le_mul_left _ h0
    change V16 a < _ at h1
    change V16 b < _ at h2
    omega
theorem SInv.step {a b : List Nat} {i c : Nat} {out : List Nat} (ha : okB 65536 a) (hb : okB 65536 b) (h : SInv a b i c out) (hgo : i < a.length ∨ i < b.length ∨ 0 < c) :
    SInv a b (i + 1) ((c + limbAt a i + limbAt b i) / 65536) (out ++ [(c + limbAt a i + limbAt b i) % 65536]) := by
  have hv := h.val
  have hl := h.len
  have hc := h.car
  have hst := h.stop ha hb
  have hx := limb_lt (B := 65536) (by omega) ha i
  have hy := limb_lt (B := 65536) (by omega) hb i
  refine ⟨by rw [List.length_append, List.length_singleton, hl], okB_snoc h.ok (by omega), by omega, ?_, ?_⟩
  · show valB 65536 _ + _ = valB 65536 _ + valB 65536 _
    rw [valB_snoc, valB_take_limb, valB_take_limb, hl, Nat.pow_succ, Nat.mul_assoc, Nat.add_assoc, ← Nat.mul_add, Nat.mod_add_div, Nat.mul_add, Nat.mul_add]
    change V16 out + _ = (V16 _ + _) + (V16 _ + _)
    omega
  · have hb := h.bnd
    rcases Nat.lt_or_ge (max a.length b.length) i with h1 | h1
    · have := hst h1
      omega
    · omega
theorem SInv.done {a b : List Nat} {i : Nat} {out : List Nat} (h : SInv a b i 0 out) (ha : a.length ≤ i) (hb : b.length ≤ i) : V16 out = V16 a + V16 b := by
  have hv := h.val
  rw [List.take_of_length_le ha, List.take_of_length_le hb] at hv
  omega
theorem ok16_32 {l : List Nat} (h : okB 65536 l) : ok32 l := fun x hx => Nat.lt_of_lt_of_le (h x hx) (by omega)

def AddRel (B : Nat) (w : World) (a b : List Nat) (v7 v8 v9 : Value) (wr : World) : Prop :=
  ∃ (i c : Nat) (t : List Nat) (p : Option Addr) (cap : Nat), v7 = .slice p t.length cap ∧ v8 = .int .u32 (c : Int) ∧ v9 = .int .i64 (i : Int) ∧ SInv a b i c t ∧ NatO B wr p cap t ∧ Below B w wr

set_option maxRecDepth 100000 in
set_option maxHeartbeats 4000000 in
theorem add_ref (p q : Option Addr) (c d : Nat) (l m : List Nat) (w : World) (h : NatV w.heap.size w p c l) (k : NatV w.heap.size w q d m) (hl : l.length ≤ 1048576) (hm : m.length ≤ 1048576) :
    Calls Tryd.prog 53 #[.slice p l.length c, .slice q m.length d] w (NatPost w (V32 l + V32 m)) := by
  obtain ⟨i0, hi, hz0, hz1, hz2⟩ := info_parts info32
  have H := Lib.hid (And.intro h k)
  have HT := Lib.hid (half_any p c l w h hl)
  have HM := Lib.hid hm
  have hal := half_len h.ok
  have hbl := half_len k.ok
  obtain ⟨A, hA⟩ : ∃ A, V32 l = A := ⟨_, rfl⟩
  obtain ⟨B, hB⟩ : ∃ B, V32 m = B := ⟨_, rfl⟩
  have HBB := Lib.hid hB
  rw [hA] at HT hal ⊢
  rw [hB] at hbl ⊢
  have hal2 : (D16 A).length ≤ 2097152 := by omega
  have hbl2 : (D16 B).length ≤ 2097152 := by omega
  clear h k hm hal hbl hl
  go_enter Tryd.func53, Tryd.ntmps53
  go_wp2_with fail
  refine HT.out.mono ?_
  rintro e w1 ⟨p1, c1, rfl, ho1, hb1⟩
  have HT2 := half_any q d m w1 (H.out.2.next hb1) HM.out
  rw [HBB.out] at HT2
  have HO := Lib.hid (And.intro ho1 hb1)
  clear ho1 hb1 hA hB
  go_wp2_with fail
  refine HT2.mono ?_
  rintro e w2 ⟨p2, c2, rfl, ho2, hb2⟩
  have hva : V16 (D16 A) = A := V16_D16 _
  have hvb : V16 (D16 B) = B := V16_D16 _
  have HV2 := Lib.hid (And.intro (HO.out.1.next hb2).toV (And.intro ho2.toV (And.intro (D16_ok A) (And.intro (D16_ok B) (HO.out.2.trans (hb2.mono HO.out.2.size))))))
  clear HT2 ho2 hb2
  obtain ⟨a, ha⟩ : ∃ a, D16 A = a := ⟨_, rfl⟩
  obtain ⟨b, hb⟩ : ∃ b, D16 B = b := ⟨_, rfl⟩
  rw [ha] at HV2 hva hal2 ⊢
  rw [hb] at HV2 hvb hbl2 ⊢
  have HL := Lib.hid (And.intro hva hvb)
  clear hva hvb ha hb
  have hws := HV2.out.2.2.2.2.size
  go_wp2_with fail
  go_loopw [7, 8, 9] (fun v7 v8 v9 wr => AddRel w2.heap.size w2 a b v7 v8 v9 wr) (fun _ _ v _ => max a.length b.length + 2 - (intOf v).toNat)
  case atStart => exact ⟨0, 0, [], none, 0, rfl, rfl, rfl, SInv.start a b, NatO.nothing _ _, Below.refl _ _⟩
  case round =>
    obtain ⟨i, c, t, p', cap, rfl, rfl, rfl, hS, ho, hbx⟩ := hrel
    have hwB : w2.heap.size ≤ wr.heap.size := hbx.size
    have hil := hS.bnd
    have htl := hS.len
    have hc1 := hS.car
    by_cases hgo : i < a.length ∨ i < b.length ∨ 0 < c
    · have hst := hS.step HV2.out.2.2.1 HV2.out.2.2.2.1 hgo
      have hxl := limb_lt (B := 65536) (by omega) HV2.out.2.2.1 i
      have hyl := limb_lt (B := 65536) (by omega) HV2.out.2.2.2.1 i
      obtain ⟨x, hx⟩ : ∃ x, limbAt a i = x := ⟨_, rfl⟩
      obtain ⟨y, hy⟩ : ∃ y, limbAt b i = y := ⟨_, rfl⟩
      rw [hx, hy] at hst
      rw [hx] at hxl
      rw [hy] at hyl
      have HX := Lib.hid (And.intro hx hy)
      have HS := Lib.hid (And.intro hst (And.intro ho hbx))
      have hown := ho.own
      have HTL := Lib.hid htl
      have htm : t.length ≤ 2097153 := by omega
      clear hx hy hst ho hbx hS htl
      rcases (show i < a.length ∨ (¬ i < a.length ∧ i < b.length) ∨ (¬ i < a.length ∧ ¬ i < b.length ∧ 0 < c) by omega) with hg | ⟨hg, hg2⟩ | ⟨hg, hg2, hg3⟩
      all_goals
        clear hgo
        go_upto_if 33 with fail
        go_cut [8] (fun v8 wx => v8 = .int .u32 ((c + x : Nat) : Int) ∧ wr = wx)
        case first =>
          by_cases hia : i < a.length
          · first
              | exact absurd hia hg
              | (obtain ⟨bl, off, rfl, hlt, hc⟩ := (HV2.out.1.below HS.out.2.2).cell (List.length_pos_iff.1 (by omega))
                 obtain ⟨x', hx'⟩ := some_get hia
                 have hcl := hc i x' hx'
                 have hxx : x' = x := by rw [← HX.out.1, limb_some hx']
                 subst hxx
                 clear hc hx'
                 go_wp2_with fail
                 go_meet
                 exact ⟨by go_num, rfl⟩)
          · have hx0 : x = 0 := by rw [← HX.out.1, limb_none (by omega)]
            subst hx0
            first
              | exact absurd hg hia
              | (go_wp2_with fail
                 go_meet
                 exact ⟨rfl, rfl⟩)
        case rest =>
          obtain ⟨rfl, rfl⟩ := hcut
          go_upto_if 43 with fail
          go_cut [8] (fun v8 wx => v8 = .int .u32 ((c + x + y : Nat) : Int) ∧ wr = wx)
          case first =>
            by_cases hia : i < b.length
            · first
                | exact absurd hia hg2
                | (obtain ⟨bl, off, rfl, hlt, hc⟩ := (HV2.out.2.1.below HS.out.2.2).cell (List.length_pos_iff.1 (by omega))
                   obtain ⟨x', hx'⟩ := some_get hia
                   have hcl := hc i x' hx'
                   have hxx : x' = y := by rw [← HX.out.2, limb_some hx']
                   subst hxx
                   clear hc hx'
                   go_wp2_with fail
                   go_meet
                   exact ⟨by go_num, rfl⟩)
            · have hx0 : y = 0 := by rw [← HX.out.2, limb_none (by omega)]
              subst hx0
              first
                | exact absurd hg2 hia
                | (go_wp2_with fail
                   go_meet
                   exact ⟨rfl, rfl⟩)
          case rest =>
            obtain ⟨rfl, rfl⟩ := hcut
            obtain ⟨u, hu⟩ : ∃ u, c + x + y = u := ⟨_, rfl⟩
            rw [hu] at HS ⊢
            have hul : u < 131072 := by omega
            clear hu
            go_wp2_with (at_builtin; refine wpList_append_own _ rfl _ _ 51 rfl w2.heap.size 83 i0 (.int .u32 0) 1 4 Tryd.underlying51 hi hz0 hz1 hz2 rfl (by decide) _ t.length (cells32 t) rfl (hown.alloc _) ⟨wr.heap.size, 0, none⟩ 1 1 _ rfl rfl (cell_one_new _ _ _) ?c2 ?c3 ?c4 ?c5 ?_)
            case c2 => intro u hu; simp at hu; subst hu; rfl
            case c3 => unfold maxLen; omega
            case c4 => omega
            case c5 => simp; omega
            intro v' w3 hown' hgrow _
            rw [show ((u : Int) % 65536) = ((u % 65536 : Nat) : Int) by omega] at hown'
            obtain ⟨q', cap', rfl, ho1⟩ := NatO.snoc (x := u % 65536) hown' HS.out.2.1.ok (by omega)
            have hb1 : Below w2.heap.size w2 w3 := (HS.out.2.2.alloc hwB _).grown hgrow (by simp; omega) (fun j hj => (hown.lt j hj).1)
            have HO2 := Lib.hid (And.intro ho1 hb1)
            clear hown hown' hgrow ho1 hb1
            go_wp2_with fail
            go_roundw
            case rel => exact ⟨i + 1, u / 65536, t ++ [u % 65536], q', cap', rfl, by go_num, by go_num, HS.out.1, HO2.out.1, HO2.out.2⟩
            case measure => simp [intOf]; omega
    · have hia : a.length ≤ i := by omega
      have hib : b.length ≤ i := by omega
      obtain rfl : c = 0 := by omega
      have hd := hS.done hia hib
      have hw := whole_any p' cap t wr ho.toV hS.ok (by omega)
      rw [hd, HL.out.1, HL.out.2] at hw
      have HB := Lib.hid hbx
      clear hd hS ho hbx hgo htl hil
      go_wp2_with fail
      refine hw.mono ?_
      rintro e w4 ⟨p4, c4, rfl, ho4, hb4⟩
      have HW := Lib.hid (And.intro ho4 hb4)
      have hz := Nat.le_trans hws hwB
      clear hw ho4 hb4
      go_wp2_with fail
      go_ret
      exact ⟨p4, c4, rfl, HW.out.1.base hz, HV2.out.2.2.2.2.trans ((HB.out.mono hws).trans (HW.out.2.mono hz))⟩

end Go.Proofs.YthafjbegkifekaaDoor
end
section
namespace Go.Proofs.YthafjbegkifekaaDoor
open Go.RowKit NatM

def SumRefRel (w : World) (L : List Nt) (v3 v4 : Value) (wr : World) : Prop :=
  ∃ (k : Nat) (p : Option Addr) (cap : Nat), k ≤ L.length ∧ v4 = .int .i64 (k : Int) ∧ v3 = .slice p (D32 (sumV (L.take k))).length cap ∧ NatO w.heap.size wr p cap (D32 (sumV (L.take k))) ∧ Below w.heap.size w wr
end Go.Proofs.YthafjbegkifekaaDoor
end
section
namespace Go.Proofs.YthafjbegkifekaaDoor
open Go.RowKit Go.Extern.Stop Go.Stop Go.Extern

theorem Root_any (n : Int) (w : World) (A : Nat → Addr) (hr : Roots w A) :
    Calls Tryd.prog 43 #[.int .i64 n] w fun e w' => e = .returned (.iface 144 (.pointer (some (A (known n))))) ∧ w = w' := by
  have r0 : w.cell? ⟨11, 0, none⟩ = some (.iface 144 (.pointer (some (A 0)))) := hr.var 0 (by decide)
  have r1 : w.cell? ⟨0, 0, none⟩ = some (.iface 144 (.pointer (some (A 1)))) := hr.var 1 (by decide)
  have r2 : w.cell? ⟨1, 0, none⟩ = some (.iface 144 (.pointer (some (A 2)))) := hr.var 2 (by decide)
  have r3 : w.cell? ⟨2, 0, none⟩ = some (.iface 144 (.pointer (some (A 3)))) := hr.var 3 (by decide)
  have r4 : w.cell? ⟨3, 0, none⟩ = some (.iface 144 (.pointer (some (A 4)))) := hr.var 4 (by decide)
  have r5 : w.cell? ⟨4, 0, none⟩ = some (.iface 144 (.pointer (some (A 5)))) := hr.var 5 (by decide)
  have r6 : w.cell? ⟨5, 0, none⟩ = some (.iface 144 (.pointer (some (A 6)))) := hr.var 6 (by decide)
  have r7 : w.cell? ⟨6, 0, none⟩ = some (.iface 144 (.pointer (some (A 7)))) := hr.var 7 (by decide)
  have r8 : w.cell? ⟨7, 0, none⟩ = some (.iface 144 (.pointer (some (A 8)))) := hr.var 8 (by decide)
  have r9 : w.cell? ⟨8, 0, none⟩ = some (.iface 144 (.pointer (some (A 9)))) := hr.var 9 (by decide)
  have r10 : w.cell? ⟨9, 0, none⟩ = some (.iface 144 (.pointer (some (A 10)))) := hr.var 10 (by decide)
  have r11 : w.cell? ⟨10, 0, none⟩ = some (.iface 144 (.pointer (some (A 11)))) := hr.var 11 (by decide)
  clear hr
  rcases (by omega : n = 1 ∨ n = 2 ∨ n = 3 ∨ n = 4 ∨ n = 5 ∨ n = 6 ∨ n = 7 ∨ n = 8 ∨ n = 9 ∨ n = 10 ∨ n = 11 ∨ n < 1 ∨ 11 < n) with rfl | rfl | rfl | rfl | rfl | rfl | rfl | rfl | rfl | rfl | rfl | h | h
  all_goals
    go_enter Tryd.func43, Tryd.ntmps43
    go_wp2
    go_ret
  iterate 11 exact ⟨rfl, rfl⟩
  · exact ⟨by rw [show known n = 0 by unfold known; rw [if_neg (by omega)]]; rfl, rfl⟩
  · exact ⟨by rw [show known n = 0 by unfold known; rw [if_neg (by omega)]]; rfl, rfl⟩

/-- errors.As where a Fault is found. -/
theorem errorsAs_hit (t : Tree) (b : Nat) (w : World) (g : Nat) (ht : t.first = some b) (hl : t.lies w) (hs : Slot w g) (hT : TypeVar w) :
    Calls Tryd.prog 44 #[t.val, .iface 78 (.pointer (some ⟨g, 0, none⟩))] w fun e w' => e = .returned (.bool true) ∧ Below g w w' ∧ w'.cell? ⟨g, 0, none⟩ = some (.pointer (some ⟨b, 0, none⟩)) := by
  refine (errorsAs t w g hl hs hT).mono ?_
  rintro e w' (⟨h1, _⟩ | ⟨b', h1, h2, h3, h4, _⟩)
  · rw [ht] at h1; cases h1
  · obtain rfl := Option.some.inj (ht.symm.trans h1)
    exact ⟨h2, h3, h4⟩

/-- Faults one within another, and then an errorString. -/
def chainT : List (Nat × ByteArray × Int) → Addr → Tree
  | [], a => .leaf a
  | (b, op, pl) :: r, a => .fault b op pl (chainT r a)
theorem chain_hits (a : Addr) : ∀ bs : List (Nat × ByteArray × Int), (chainT bs a).hits 144 a = true
  | [] => by simp [chainT, Tree.hits]
  | (b, op, pl) :: r => by
    have ih := chain_hits a r
    simp only [chainT, Tree.hits, ih, Bool.or_true]
theorem chain_held (a : Addr) (bs : List (Nat × ByteArray × Int)) : (chainT bs a).isNil = false := by cases bs <;> rfl

/-- What an Err says of packages and places: two slices that read the list. -/
structure WantV (w : World) (po pa : Option Addr) (co ca : Nat) (L : List (ByteArray × Int)) : Prop where
  ops : L ≠ [] → ∃ b off, po = some ⟨b, off, none⟩ ∧ b < w.heap.size ∧ ∀ (j : Nat) (x : ByteArray × Int), L[j]? = some x → w.cell? ⟨b, off + j, none⟩ = some (.string x.1)
  ats : L ≠ [] → ∃ b off, pa = some ⟨b, off, none⟩ ∧ b < w.heap.size ∧ ∀ (j : Nat) (x : ByteArray × Int), L[j]? = some x → w.cell? ⟨b, off + j, none⟩ = some (.int .i64 x.2)
  leo : L.length ≤ co
  lea : L.length ≤ ca
  capo : co ≤ maxLen
  capa : ca ≤ maxLen
theorem WantV.below {w w' : World} {po pa : Option Addr} {co ca : Nat} {L : List (ByteArray × Int)} (hb : Below w.heap.size w w') (h : WantV w po pa co ca L) : WantV w' po pa co ca L :=
  ⟨fun hn => by
    obtain ⟨b, off, hp, hlt, hc⟩ := h.ops hn
    exact ⟨b, off, hp, Nat.lt_of_lt_of_le hlt hb.size, fun j x hx => (hb.cell (p := ⟨b, off + j, none⟩) hlt).trans (hc j x hx)⟩, fun hn => by
    obtain ⟨b, off, hp, hlt, hc⟩ := h.ats hn
    exact ⟨b, off, hp, Nat.lt_of_lt_of_le hlt hb.size, fun j x hx => (hb.cell (p := ⟨b, off + j, none⟩) hlt).trans (hc j x hx)⟩, h.leo, h.lea, h.capo, h.capa⟩

theorem cell_alloc_at (w : World) (cs : Array Value) (t : TypeId) (n j : Nat) (hn : w.heap.size = n) : (w.alloc (.cells cs t)).cell? ⟨n, j, none⟩ = cs[j]? := by
  subst hn
  exact cell_of_row _ _ _ cs t (0, 0) (heap_alloc_new w _)

def RawNewPost (w : World) (op : ByteArray) (pl n : Int) (e : Ending) (w' : World) : Prop :=
  ∃ po pa, e = .returned (.agg #[.int .i64 n, .slice po 1 1, .slice pa 1 1]) ∧ WantV w' po pa 1 1 [(op, pl)] ∧ Below w.heap.size w w'
theorem raw_new (op : ByteArray) (pl n : Int) (w : World) :
    Calls Tryd.prog 40 #[.string op, .int .i64 pl, .int .i64 n] w (RawNewPost w op pl n) := by
  go_enter Tryd.func40, Tryd.ntmps40
  go_wp2_with fail
  refine bodyPost_ret (v := .agg #[.int .i64 n, .slice (some ⟨w.heap.size + 1, 0, none⟩) 1 1, .slice (some ⟨w.heap.size + 1 + 1, 0, none⟩) 1 1]) (by simp [results, Tryd.results40, go_sem]) rfl ⟨_, _, rfl, ⟨fun _ => ⟨_, _, rfl, by simp, fun j x hx => ?_⟩, fun _ => ⟨_, _, rfl, by simp, fun j x hx => ?_⟩, Nat.le_refl _, Nat.le_refl _, by decide, by decide⟩, ?_⟩
  · match j, hx with
    | 0, hx =>
      simp at hx
      subst hx
      show World.cell? _ ⟨w.heap.size + 1, 0, none⟩ = _
      rw [World.cell?_alloc_lt _ _ ⟨w.heap.size + 1, 0, none⟩ (by simp), cell_alloc_at _ _ _ _ _ (by simp)]
      rfl
  · match j, hx with
    | 0, hx =>
      simp at hx
      subst hx
      show World.cell? _ ⟨w.heap.size + 1 + 1, 0, none⟩ = _
      rw [cell_alloc_at _ _ _ _ _ (by simp)]
      rfl
  · exact (((Below.refl _ _).alloc (Nat.le_refl _) _).alloc (by simp) _).alloc (by simp; omega) _

def TruePost (w : World) (e : Ending) (w' : World) : Prop := e = .returned (.bool true) ∧ Below w.heap.size w w'

theorem Is_none (po pa : Option Addr) (no na co ca : Nat) (w : World) :
    Calls Tryd.prog 13 #[.nilIface, .agg #[.int .i64 0, .slice po no co, .slice pa na ca]] w (TruePost w) := by
  go_enter Tryd.func13, Tryd.ntmps13
  go_wp2_with fail
  go_ret
  exact ⟨rfl, (Below.refl _ _).alloc (Nat.le_refl _) _⟩

theorem chain_lies_drop {w : World} (a : Addr) : ∀ (j : Nat) {bs : List (Nat × ByteArray × Int)}, (chainT bs a).lies w → j ≤ bs.length → (chainT (bs.drop j) a).lies w
  | 0, _, h, _ => h
  | j + 1, (b, op, pl) :: r, h, hj => by
    have h' : (Tree.fault b op pl (chainT r a)).lies w := h
    exact chain_lies_drop a j (bs := r) h'.2.1 (by simpa using hj)
  | j + 1, [], _, hj => by simp at hj

def ChainRel (w wb : World) (bs : List (Nat × ByteArray × Int)) (a : Addr) (gk : Nat) (v0 v5 : Value) (wr : World) : Prop :=
  ∃ j : Nat, j ≤ bs.length ∧ v0 = (chainT (bs.drop j) a).val ∧ v5 = .int .i64 (j : Int) ∧ Below wb.heap.size wb wr ∧ Below w.heap.size w wr ∧ bs.length - j ≤ gk

set_option maxRecDepth 100000 in
set_option maxHeartbeats 8000000 in
theorem Is_chain (bs : List (Nat × ByteArray × Int)) (k : Nat) (hk : 1 ≤ k ∧ k ≤ 11) (po pa : Option Addr) (n ko ka : Nat) (w : World) (A : Nat → Addr) (hr : Roots w A) (hT : TypeVar w) (hl : (chainT bs (A k)).lies w) (hw : WantV w po pa ko ka (bs.map Prod.snd)) (hn : n = bs.length) :
    Calls Tryd.prog 13 #[(chainT bs (A k)).val, .agg #[.int .i64 (k : Int), .slice po n ko, .slice pa n ka]] w (TruePost w) := by
  subst hn
  have hkn : known (k : Int) = k := by unfold known; rw [if_pos (by omega)]; rfl
  have hn1 := eql_isNil (chainT bs (A k))
  have hn2 := guard_isNil (chainT bs (A k))
  rw [chain_held] at hn1
  have hleo : bs.length ≤ ko := by have := hw.leo; rwa [List.length_map] at this
  have hlea : bs.length ≤ ka := by have := hw.lea; rwa [List.length_map] at this
  have hcapo := hw.capo
  have hcapa := hw.capa
  unfold maxLen at hcapo hcapa
  have hB1 : Below w.heap.size w (w.alloc (.cells #[.int .i64 (k : Int), .slice po bs.length ko, .slice pa bs.length ka] 33)) := (Below.refl _ _).alloc (Nat.le_refl _) _
  have hk0 : ((k : Int) == 0) = false := by rw [beq_eq_false_iff_ne]; omega
  have HH := Lib.hid (And.intro hr (And.intro hT (And.intro hl (And.intro hw hkn))))
  have HB1 := Lib.hid hB1
  clear hr hT hl hw hkn hB1
  go_enter Tryd.func13, Tryd.ntmps13
  go_wp2_with fail
  refine (Root_any (k : Int) _ A (HH.out.1.below HB1.out)).mono ?_
  rintro e w' ⟨rfl, rfl⟩
  rw [HH.out.2.2.2.2]
  go_wp2_with fail
  refine (errorsIs (chainT bs (A k)) _ 144 (A k) (Tree.lies_below HB1.out (t := chainT bs (A k)) HH.out.2.2.1) ((HH.out.1.below HB1.out).there k hk.2) (Or.inl rfl)).mono ?_
  rintro e w2 ⟨rfl, hb2⟩
  rw [chain_hits]
  obtain ⟨wb, hwb⟩ : ∃ wb, w.alloc (.cells #[.int .i64 (k : Int), .slice po bs.length ko, .slice pa bs.length ka] 33) = wb := ⟨_, rfl⟩
  have hbs : wb.heap.size = w.heap.size + 1 := by rw [← hwb]; simp
  have hc0 : wb.cell? ⟨w.heap.size, 0, none⟩ = some (.int .i64 (k : Int)) := by rw [← hwb]; simp
  have hc1 : wb.cell? ⟨w.heap.size, 1, none⟩ = some (.slice po bs.length ko) := by rw [← hwb]; simp
  have hc2 : wb.cell? ⟨w.heap.size, 2, none⟩ = some (.slice pa bs.length ka) := by rw [← hwb]; simp
  have HC := Lib.hid (And.intro hc0 (And.intro hc1 (And.intro hc2 hbs)))
  rw [hwb] at HB1 hb2
  have HW2 := Lib.hid (And.intro hb2 (HB1.out.trans (hb2.mono (by rw [hbs]; omega))))
  clear hc0 hc1 hc2 hbs hwb hb2 hn1 hn2
  go_wp2_with fail
  go_loopg [0, 5] bs.length (fun gk v0 v5 wr => ChainRel w wb bs (A k) gk v0 v5 wr)
  case atStart => exact ⟨0, Nat.zero_le _, rfl, rfl, HW2.out.1, HW2.out.2, by omega⟩
  case round =>
    obtain ⟨j, hj, rfl, rfl, hbb, hbw, hgk⟩ := hrel
    have hgB : w.heap.size < wr.heap.size := by have := hbb.size; have := HC.out.2.2.2; omega
    have hgb1 : w.heap.size < wb.heap.size := by have := HC.out.2.2.2; omega
    have hr1 : wr.cell? ⟨w.heap.size, 1, none⟩ = some (.slice po bs.length ko) := (hbb.cell (p := ⟨w.heap.size, 1, none⟩) hgb1).trans HC.out.2.1
    have HBB := Lib.hid (And.intro hbb hbw)
    by_cases hlt : j < bs.length
    · obtain ⟨x, hx⟩ : ∃ x, bs[j]? = some x := ⟨_, List.getElem?_eq_getElem hlt⟩
      obtain ⟨b, op, pl⟩ := x
      have hdr : bs.drop j = (b, op, pl) :: bs.drop (j + 1) := by
        obtain ⟨h1, h2⟩ := List.getElem?_eq_some_iff.1 hx
        rw [List.drop_eq_getElem_cons h1, h2]
      have hlj := chain_lies_drop (A k) j (Tree.lies_below hbw (t := chainT bs (A k)) HH.out.2.2.1) (Nat.le_of_lt hlt)
      rw [hdr] at hlj ⊢
      have hlj : (Tree.fault b op pl (chainT (bs.drop (j + 1)) (A k))).lies wr := hlj
      have hv : (chainT ((b, op, pl) :: bs.drop (j + 1)) (A k)).val = .iface 76 (.pointer (some ⟨b, 0, none⟩)) := rfl
      rw [hv]
      obtain ⟨rest, hrest⟩ : ∃ rest, chainT (bs.drop (j + 1)) (A k) = rest := ⟨_, rfl⟩
      rw [hrest] at hlj
      have hbl : b < wr.heap.size := heap_lt hlj.1
      have c0 : wr.cell? ⟨b, 0, none⟩ = some (.string op) := by simp [World.cell?, hlj.1]
      have c1 : wr.cell? ⟨b, 1, none⟩ = some (.int .i64 pl) := by simp [World.cell?, hlj.1]
      have c2 : wr.cell? ⟨b, 2, none⟩ = some rest.val := by simp [World.cell?, hlj.1]
      have hmx : (bs.map Prod.snd)[j]? = some (op, pl) := by rw [List.getElem?_map, hx]; rfl
      have hne : bs.map Prod.snd ≠ [] := by intro e; rw [e] at hmx; simp at hmx
      have hWr := HH.out.2.2.2.1.below hbw
      obtain ⟨bo, oo, rfl, hbo, hco⟩ := hWr.ops hne
      obtain ⟨ba, oa, rfl, hba, hca⟩ := hWr.ats hne
      have co := hco j _ hmx
      have ca := hca j _ hmx
      have hr2 : wr.cell? ⟨w.heap.size, 2, none⟩ = some (.slice (some ⟨ba, oa, none⟩) bs.length ka) := (hbb.cell (p := ⟨w.heap.size, 2, none⟩) hgb1).trans HC.out.2.2.1
      have HF := Lib.hid (And.intro c0 (And.intro c1 (And.intro c2 (And.intro hlj hrest))))
      have HG := Lib.hid (And.intro hr1 (And.intro hr2 (And.intro co ca)))
      have HTr := Lib.hid (HH.out.2.1.below hbw)
      clear hx hdr hv hrest c0 c1 c2 hmx hne hWr hco hca hr2 co ca hlj hbb hbw
      go_upto_region 9 with fail
      go_cut [60] (fun v wx => v = .bool false ∧ Below wr.heap.size wr wx ∧ wx.cell? ⟨wr.heap.size, 0, none⟩ = some (.pointer (some ⟨b, 0, none⟩)))
      case first =>
        have hd : Below wr.heap.size wr (wr.alloc (.cells #[.pointer none] 76)).drew := ((Below.refl _ _).alloc (Nat.le_refl _) _).drew
        have hdl := Tree.lies_below hd (t := .fault b op pl rest) HF.out.2.2.2.1
        have hsl : Slot (wr.alloc (.cells #[.pointer none] 76)).drew wr.heap.size := ⟨by simp, ⟨.pointer none, by simp⟩, by simp⟩
        have HD := Lib.hid (And.intro hdl hsl)
        clear hdl hsl hr1
        go_region_with (first
          | (go_at_call 44; refine (errorsAs_hit (.fault b op pl rest) b _ wr.heap.size rfl ?_ ?_ ?_).mono ?_; exact HD.out.1; exact HD.out.2; exact HTr.out.below hd; rintro e w' ⟨rfl, hbx, k3⟩; have hb' := hd.trans hbx; have k0 := (hb'.cell (p := ⟨b, 0, none⟩) hbl).trans HF.out.1; have k1 := (hb'.cell (p := ⟨b, 1, none⟩) hbl).trans HF.out.2.1; have m1 := (hb'.cell (p := ⟨w.heap.size, 1, none⟩) hgB).trans HG.out.1; have m2 := (hb'.cell (p := ⟨w.heap.size, 2, none⟩) hgB).trans HG.out.2.1; have m3 := (hb'.cell (p := ⟨bo, oo + j, none⟩) hbo).trans HG.out.2.2.1; have m4 := (hb'.cell (p := ⟨ba, oa + j, none⟩) hba).trans HG.out.2.2.2))
        all_goals (go_wp2_with fail; go_meet; exact ⟨rfl, by assumption, by assumption⟩)
      case rest =>
        obtain ⟨rfl, hbx, k3⟩ := hcut
        have k2 := (hbx.cell (p := ⟨b, 2, none⟩) hbl).trans HF.out.2.2.1
        have HX := Lib.hid hbx
        clear hbx hr1
        go_wp2_with fail
        go_roundg (bs.length - (j + 1))
        case rel => exact ⟨j + 1, by omega, by rw [HF.out.2.2.2.2], by go_num, HBB.out.1.trans (HX.out.mono HBB.out.1.size), HBB.out.2.trans (HX.out.mono HBB.out.2.size), Nat.le_refl _⟩
        case measure => omega
    · obtain rfl : j = bs.length := by omega
      have hd : (chainT (bs.drop bs.length) (A k)).val = .iface 144 (.pointer (some (A k))) := by rw [List.drop_length]; rfl
      rw [hd]
      have hr0 : wr.cell? ⟨w.heap.size, 0, none⟩ = some (.int .i64 (k : Int)) := (hbb.cell (p := ⟨w.heap.size, 0, none⟩) hgb1).trans HC.out.1
      have hA := eql_hit wr 144 (A k) (Or.inl rfl)
      clear hd hbb hbw
      go_wp2_with fail
      refine (Root_any (k : Int) _ A (HH.out.1.below HBB.out.2)).mono ?_
      rintro e w' ⟨rfl, rfl⟩
      rw [HH.out.2.2.2.2]
      go_wp2_with fail
      go_ret
      exact ⟨rfl, HBB.out.2⟩
end Go.Proofs.YthafjbegkifekaaDoor
end
section
namespace Go.Proofs.YthafjbegkifekaaDoor
open Go.RowKit NatM

/-- a number of edenref02 that is refused: no number, and the error's number k at place pl of package nat -/
def RefErr (w : World) (pl k : Int) (v : Value) (w' : World) : Prop :=
  ∃ po pa, v = .agg #[.int .i64 k, .slice po 1 1, .slice pa 1 1] ∧ WantV w' po pa 1 1 [(natOp, pl)] ∧ Below w.heap.size w w'
def RefErr2 (w : World) (pl k : Int) (e : Ending) (w' : World) : Prop := ∃ v, e = .returned (.tuple #[.slice none 0 0, v]) ∧ RefErr w pl k v w'
def noErr : Value := .agg #[.int .i64 0, .slice none 0 0, .slice none 0 0]
def RefOk2 (w : World) (n : Nat) (e : Ending) (w' : World) : Prop :=
  ∃ p c, e = .returned (.tuple #[.slice p (D32 n).length c, noErr]) ∧ NatO w.heap.size w' p c (D32 n) ∧ Below w.heap.size w w'

/-- an Err of one package is made: its two slices are new memory -/
def RawFresh (w : World) (op : ByteArray) (pl n : Int) (e : Ending) (w' : World) : Prop :=
  ∃ g g', e = .returned (.agg #[.int .i64 n, .slice (some ⟨g, 0, none⟩) 1 1, .slice (some ⟨g', 0, none⟩) 1 1]) ∧ (w.heap.size ≤ g ∧ g < w'.heap.size ∧ w.heap.size ≤ g' ∧ g' < w'.heap.size) ∧ w'.cell? ⟨g, 0, none⟩ = some (.string op) ∧ w'.cell? ⟨g', 0, none⟩ = some (.int .i64 pl) ∧ Below w.heap.size w w'
theorem raw_fresh (op : ByteArray) (pl n : Int) (w : World) :
    Calls Tryd.prog 40 #[.string op, .int .i64 pl, .int .i64 n] w (RawFresh w op pl n) := by
  go_enter Tryd.func40, Tryd.ntmps40
  go_wp2_with fail
  refine bodyPost_ret (v := .agg #[.int .i64 n, .slice (some ⟨w.heap.size + 1, 0, none⟩) 1 1, .slice (some ⟨w.heap.size + 1 + 1, 0, none⟩) 1 1]) (by simp [results, Tryd.results40, go_sem]) rfl ⟨_, _, rfl, ⟨by omega, by simp, by omega, by simp⟩, ?_, ?_, ?_⟩
  · show World.cell? _ ⟨w.heap.size + 1, 0, none⟩ = _
    rw [World.cell?_alloc_lt _ _ ⟨w.heap.size + 1, 0, none⟩ (by simp), cell_alloc_at _ _ _ _ _ (by simp)]
    rfl
  · show World.cell? _ ⟨w.heap.size + 1 + 1, 0, none⟩ = _
    rw [cell_alloc_at _ _ _ _ _ (by simp)]
    rfl
  · exact (((Below.refl _ _).alloc (Nat.le_refl _) _).alloc (by simp) _).alloc (by simp; omega) _
theorem WantV.one {w : World} {g g' : Nat} {op : ByteArray} {pl : Int} (hg : g < w.heap.size) (hg' : g' < w.heap.size) (h : w.cell? ⟨g, 0, none⟩ = some (.string op)) (h' : w.cell? ⟨g', 0, none⟩ = some (.int .i64 pl)) : WantV w (some ⟨g, 0, none⟩) (some ⟨g', 0, none⟩) 1 1 [(op, pl)] :=
  ⟨fun _ => ⟨g, 0, rfl, hg, fun j x hx => by
    match j, hx with
    | 0, hx => simp at hx; subst hx; exact h⟩, fun _ => ⟨g', 0, rfl, hg', fun j x hx => by
    match j, hx with
    | 0, hx => simp at hx; subst hx; exact h'⟩, Nat.le_refl _, Nat.le_refl _, by decide, by decide⟩
/-- the three cells of a result of type Err are set -/
def put3 (w : World) (h : Nat) (a b c : Value) : World := ((w.setCell ⟨h, 0, none⟩ a).setCell ⟨h, 1, none⟩ b).setCell ⟨h, 2, none⟩ c
theorem put3_size (w : World) (h : Nat) (a b c : Value) : (put3 w h a b c).heap.size = w.heap.size := by simp [put3]
theorem put3_cell (w : World) (h : Nat) (a b c : Value) (p : Addr) (hp : p.block ≠ h) : (put3 w h a b c).cell? p = w.cell? p := by
  unfold put3
  have e : ∀ (u : World) (x : Addr) (v : Value), x.block = h → (u.setCell x v).cell? p = u.cell? p := fun u x v hx => World.cell?_of_block (heap_setCell_other u x p.block v (by rw [hx]; exact hp))
  rw [e _ _ _ rfl, e _ _ _ rfl, e _ _ _ rfl]
theorem put3_below {B h : Nat} {w0 w : World} (hb : Below B w0 w) (hB : B ≤ h) (a b c : Value) : Below B w0 (put3 w h a b c) := ((hb.setCell hB _).setCell hB _).setCell hB _
theorem NatO.put3 {base h : Nat} {w : World} {p : Option Addr} {c : Nat} {l : List Nat} (ho : NatO base w p c l) (hh : h < base) (a b d : Value) : NatO base (put3 w h a b d) p c l :=
  ⟨ownsRow_setCell_below (ownsRow_setCell_below (ownsRow_setCell_below ho.own (a := ⟨h, 0, none⟩) hh a) (a := ⟨h, 1, none⟩) hh b) (a := ⟨h, 2, none⟩) hh d, ho.ok⟩
/-- where the three cells of a result lie -/
structure Err3 (w : World) (h : Nat) (a b c : Value) : Prop where
  heap : w.heap[h]? = some (.cells #[a, b, c] 33 (0, 0))
theorem Err3.new (w : World) : Err3 (w.alloc (.cells #[.int .i64 0, .slice none 0 0, .slice none 0 0] 33)) w.heap.size (.int .i64 0) (.slice none 0 0) (.slice none 0 0) := ⟨heap_alloc_new w _⟩
theorem Err3.next {w w' : World} {h : Nat} {a b c : Value} (hb : Below w.heap.size w w') (k : Err3 w h a b c) : Err3 w' h a b c := ⟨by rw [hb.block _ (heap_ltN k.heap)]; exact k.heap⟩
theorem Err3.facts {w : World} {h : Nat} {a b c : Value} (k : Err3 w h a b c) : (w.frozen? ⟨h, 0, none⟩ = false ∧ w.frozen? ⟨h, 1, none⟩ = false ∧ w.frozen? ⟨h, 2, none⟩ = false) ∧ w.cell? ⟨h, 0, none⟩ = some a ∧ w.cell? ⟨h, 1, none⟩ = some b ∧ w.cell? ⟨h, 2, none⟩ = some c := by
  have hh := k.heap
  exact ⟨⟨by simp [World.frozen?, hh], by simp [World.frozen?, hh], by simp [World.frozen?, hh]⟩, cell_of_row w h 0 _ _ _ hh, cell_of_row w h 1 _ _ _ hh, cell_of_row w h 2 _ _ _ hh⟩

end Go.Proofs.YthafjbegkifekaaDoor
end
section
namespace Go.Proofs.YthafjbegkifekaaDoor
open Go.RowKit Go.Extern.Stop Go.Stop Go.Extern WordM RuleM

/-- a rule in a block of its own -/
structure Rul3 (w : World) (h : Nat) (a b c : Value) : Prop where
  heap : w.heap[h]? = some (.cells #[a, b, c] 24 (0, 0))
theorem Rul3.new (w : World) (a b c : Value) : Rul3 (w.alloc (.cells #[a, b, c] 24)) w.heap.size a b c := ⟨heap_newN w _⟩
theorem Rul3.next {w w' : World} {h : Nat} {a b c : Value} (hb : Below w.heap.size w w') (k : Rul3 w h a b c) : Rul3 w' h a b c := ⟨(hb.block h (heap_ltN k.heap)).trans k.heap⟩
theorem Rul3.lt {w : World} {h : Nat} {a b c : Value} (k : Rul3 w h a b c) : h < w.heap.size := heap_ltN k.heap
theorem Rul3.facts {w : World} {h : Nat} {a b c : Value} (k : Rul3 w h a b c) : (w.frozen? ⟨h, 0, none⟩ = false ∧ w.frozen? ⟨h, 1, none⟩ = false ∧ w.frozen? ⟨h, 2, none⟩ = false) ∧ w.cell? ⟨h, 0, none⟩ = some a ∧ w.cell? ⟨h, 1, none⟩ = some b ∧ w.cell? ⟨h, 2, none⟩ = some c :=
  ⟨⟨by simp [World.frozen?, k.heap], by simp [World.frozen?, k.heap], by simp [World.frozen?, k.heap]⟩, cell_of_row w h 0 _ _ _ k.heap, cell_of_row w h 1 _ _ _ k.heap, cell_of_row w h 2 _ _ _ k.heap⟩

theorem strayN_ok {k : Nat} {l : List Int} (h : okW k l) : strayN k l = l.length := by
  unfold strayN
  rw [bad_none.2 h]; rfl
theorem strayN_bad {k : Int} {l : List Int} {i : Nat} (h : l.findIdx? (badAt k) = some i) : strayN k l = i := by
  unfold strayN
  rw [h]; rfl
theorem strayN_lt {k : Int} {l : List Int} {i : Nat} (h : l.findIdx? (badAt k) = some i) : i < l.length := by
  obtain ⟨hil, _⟩ := List.findIdx?_eq_some_iff_getElem.1 h
  exact hil

set_option maxRecDepth 100000 in
set_option maxHeartbeats 1000000 in
theorem rcheck_ok (k r : Nat) (p : Option Addr) (n c : Nat) (t : List Int) (w : World) (hn : n = t.length) (h : IntV w.heap.size w p c t) (ho : OkR k r t) :
    Calls Tryd.prog 14 #[.agg #[.int .i64 (k : Int), .int .i64 (r : Int), .slice p n c]] w (Tells .nilIface w) := by
  have h1 := ho.k1
  have h4 := ho.k4
  have h3 := ho.r3
  obtain ⟨S, hS⟩ : ∃ S, k ^ (2 * r + 1) = S := ⟨_, rfl⟩
  have hsz := size_ok k r
  rw [hS] at hsz
  have hnS : n = S := by rw [hn, ho.len, hS]
  have hst := strayN_ok ho.ok
  rw [← hn] at hst
  have hSle := pow_le (r := r) h4 h3
  rw [hS] at hSle
  subst hnS
  have H := Lib.hid (And.intro h (And.intro hn (And.intro hsz hst)))
  clear h hn ho hS hsz hst
  go_enter Tryd.func14, Tryd.ntmps14
  go_wp2_with fail
  obtain ⟨w0, hw0⟩ : ∃ w0, w0 = w.alloc (.cells #[.int .i64 (k : Int), .int .i64 (r : Int), .slice p n c] 24) := ⟨_, rfl⟩
  have hb0 : Below w.heap.size w w0 := by rw [hw0]; exact (Below.refl _ _).alloc (Nat.le_refl _) _
  have hE0 : Rul3 w0 w.heap.size (.int .i64 (k : Int)) (.int .i64 (r : Int)) (.slice p n c) := by rw [hw0]; exact Rul3.new w _ _ _
  rw [← hw0]
  obtain ⟨⟨hf0, hf1, hf2⟩, hc0, hc1, hc2⟩ := hE0.facts
  have HE := Lib.hid (And.intro hE0 hb0)
  clear hw0 hE0 hb0
  go_wp2_with fail
  refine (H.out.2.2.1 w0 h1 h4 h3).mono ?_
  rintro e w1 ⟨rfl, rfl⟩
  go_wp2_with fail
  refine (stray_any (k : Int) p n c t w0 H.out.2.1 (H.out.1.next HE.out.2)).mono ?_
  rintro e w1 ⟨rfl, rfl⟩
  rw [H.out.2.2.2]
  go_wp2_with fail
  go_ret
  exact ⟨rfl, HE.out.2⟩

set_option maxRecDepth 100000 in
set_option maxHeartbeats 1000000 in
theorem rcheck_bad (k r : Int) (p : Option Addr) (n c : Nat) (t : List Int) (w : World) (A : Nat → Addr) (hr : Roots w A) (hn : n = t.length) (h : IntV w.heap.size w p c t) (i : Nat) (hc : chkR k r t = some i) :
    Calls Tryd.prog 14 #[.agg #[.int .i64 k, .int .i64 r, .slice p n c]] w (Err1 w A ruleOp i 1) := by
  have hle := h.le
  have hcap := h.cap
  unfold maxLen at hcap
  have hn63 : n ≤ 9223372036854775807 := by omega
  have start : ∀ (w0 : World), w0 = w.alloc (.cells #[.int .i64 k, .int .i64 r, .slice p n c] 24) → Below w.heap.size w w0 ∧ Rul3 w0 w.heap.size (.int .i64 k) (.int .i64 r) (.slice p n c) := fun w0 hw0 =>
    ⟨by rw [hw0]; exact (Below.refl _ _).alloc (Nat.le_refl _) _, by rw [hw0]; exact Rul3.new w _ _ _⟩
  have ST := Lib.hid start
  clear start hle hcap
  unfold chkR at hc
  split at hc
  · obtain rfl := Option.some.inj hc
    rename_i hk
    have HR := Lib.hid hr
    clear h hn hc hr
    rcases (by omega : k < 1 ∨ (¬ k < 1 ∧ 4 < k)) with h1 | ⟨h1, h2⟩
    all_goals
      clear hk
      go_enter Tryd.func14, Tryd.ntmps14
      go_wp2_with fail
      obtain ⟨w0, hw0⟩ : ∃ w0, w0 = w.alloc (.cells #[.int .i64 k, .int .i64 r, .slice p n c] 24) := ⟨_, rfl⟩
      rw [← hw0]
      obtain ⟨hb0, hE0⟩ := ST.out w0 hw0
      obtain ⟨⟨hf0, hf1, hf2⟩, hc0, hc1, hc2⟩ := hE0.facts
      have HE := Lib.hid (And.intro hE0 hb0)
      clear hw0 hE0 hb0
      go_wp2_with fail
      refine (new_at ruleOp 0 1 w0 A (HR.out.below HE.out.2) (by omega)).mono ?_
      rintro e w1 ⟨b, rfl, hl1, hb1⟩
      have H := Lib.hid (And.intro hl1 (HE.out.2.trans (hb1.mono HE.out.2.size)))
      clear hl1 hb1
      go_wp2_with fail
      go_ret
      exact ⟨_, rfl, H.out.1, H.out.2⟩
  · rename_i hk
    have h1 : ¬ k < 1 := by omega
    have h4 : ¬ 4 < k := by omega
    split at hc
    · obtain rfl := Option.some.inj hc
      rename_i hrr
      have HR := Lib.hid (And.intro hr hrr)
      clear h hn hc hr hk hrr
      go_enter Tryd.func14, Tryd.ntmps14
      go_wp2_with fail
      obtain ⟨w0, hw0⟩ : ∃ w0, w0 = w.alloc (.cells #[.int .i64 k, .int .i64 r, .slice p n c] 24) := ⟨_, rfl⟩
      rw [← hw0]
      obtain ⟨hb0, hE0⟩ := ST.out w0 hw0
      obtain ⟨⟨hf0, hf1, hf2⟩, hc0, hc1, hc2⟩ := hE0.facts
      have HE := Lib.hid (And.intro hE0 hb0)
      clear hw0 hE0 hb0
      go_wp2_with fail
      refine (size_bad k r w0 A (HR.out.1.below HE.out.2) (Or.inr HR.out.2)).mono ?_
      rintro e w1 ⟨b1, rfl, _, hb1⟩
      have H1 := Lib.hid (HE.out.2.trans (hb1.mono HE.out.2.size))
      clear hb1
      go_wp2_with fail
      refine (new_at ruleOp 1 1 w1 A (HR.out.1.below H1.out) (by omega)).mono ?_
      rintro e w2 ⟨b, rfl, hl2, hb2⟩
      have H := Lib.hid (And.intro hl2 (H1.out.trans (hb2.mono H1.out.size)))
      clear hl2 hb2
      go_wp2_with fail
      go_ret
      exact ⟨_, rfl, H.out.1, H.out.2⟩
    · rename_i hrr
      obtain ⟨K, rfl⟩ : ∃ K : Nat, k = K := ⟨k.toNat, by omega⟩
      obtain ⟨R, rfl⟩ : ∃ R : Nat, r = R := ⟨r.toNat, by omega⟩
      have hk1 : 1 ≤ K := by omega
      have hk4 : K ≤ 4 := by omega
      have hr3 : R ≤ 3 := by omega
      obtain ⟨S, hS⟩ : ∃ S, K ^ (2 * R + 1) = S := ⟨_, rfl⟩
      have hsz := size_ok K R
      rw [hS] at hsz
      have hSle := pow_le (r := R) hk4 hr3
      rw [hS] at hSle
      rw [Int.toNat_natCast, Int.toNat_natCast, hS] at hc
      split at hc
      · obtain rfl := Option.some.inj hc
        rename_i hlen
        have HR := Lib.hid (And.intro hr hsz)
        have hnS : ¬ (n : Int) = (S : Int) := by omega
        have hnS' : ((n : Int) == (S : Int)) = false := by simpa using hnS
        clear h hn hc hr hk hrr hS hsz hlen
        go_enter Tryd.func14, Tryd.ntmps14
        go_wp2_with fail
        obtain ⟨w0, hw0⟩ : ∃ w0, w0 = w.alloc (.cells #[.int .i64 (K : Int), .int .i64 (R : Int), .slice p n c] 24) := ⟨_, rfl⟩
        rw [← hw0]
        obtain ⟨hb0, hE0⟩ := ST.out w0 hw0
        obtain ⟨⟨hf0, hf1, hf2⟩, hc0, hc1, hc2⟩ := hE0.facts
        have HE := Lib.hid (And.intro hE0 hb0)
        clear hw0 hE0 hb0
        go_wp2_with fail
        refine (HR.out.2 w0 hk1 hk4 hr3).mono ?_
        rintro e w1 ⟨rfl, rfl⟩
        go_wp2_with fail
        refine (new_at ruleOp 2 1 w0 A (HR.out.1.below HE.out.2) (by omega)).mono ?_
        rintro e w2 ⟨b, rfl, hl2, hb2⟩
        have H := Lib.hid (And.intro hl2 (HE.out.2.trans (hb2.mono HE.out.2.size)))
        clear hl2 hb2
        go_wp2_with fail
        go_ret
        exact ⟨_, rfl, H.out.1, H.out.2⟩
      · rename_i hlen
        obtain ⟨j, hj, rfl⟩ := Option.map_eq_some_iff.1 hc
        have hjl := strayN_lt hj
        have hst := strayN_bad hj
        have hnS : n = S := by omega
        have hjn : j < n := by omega
        subst hnS
        have H := Lib.hid (And.intro h (And.intro hn (And.intro hsz (And.intro hst hr))))
        clear h hn hc hr hk hrr hS hsz hlen hj hst hjl
        go_enter Tryd.func14, Tryd.ntmps14
        go_wp2_with fail
        obtain ⟨w0, hw0⟩ : ∃ w0, w0 = w.alloc (.cells #[.int .i64 (K : Int), .int .i64 (R : Int), .slice p n c] 24) := ⟨_, rfl⟩
        rw [← hw0]
        obtain ⟨hb0, hE0⟩ := ST.out w0 hw0
        obtain ⟨⟨hf0, hf1, hf2⟩, hc0, hc1, hc2⟩ := hE0.facts
        have HE := Lib.hid (And.intro hE0 hb0)
        clear hw0 hE0 hb0
        go_wp2_with fail
        refine (H.out.2.2.1 w0 hk1 hk4 hr3).mono ?_
        rintro e w1 ⟨rfl, rfl⟩
        go_wp2_with fail
        refine (stray_any (K : Int) p n c t w0 H.out.2.1 (H.out.1.next HE.out.2)).mono ?_
        rintro e w1 ⟨rfl, rfl⟩
        rw [H.out.2.2.2.1]
        go_wp2_with fail
        refine (new_at ruleOp (3 + (j : Int)) 1 w0 A (H.out.2.2.2.2.below HE.out.2) (by omega)).mono ?_
        rintro e w2 ⟨b, rfl, hl2, hb2⟩
        have HF := Lib.hid (And.intro hl2 (HE.out.2.trans (hb2.mono HE.out.2.size)))
        clear hl2 hb2
        go_wp2_with fail
        go_ret
        exact ⟨_, rfl, by have := HF.out.1; rwa [show ((3 + j : Nat) : Int) = 3 + (j : Int) by push_cast; rfl], HF.out.2⟩

theorem small_size_ok (k r : Nat) (w : World) (h1 : 1 ≤ k) (h4 : k ≤ 4) (h3 : r ≤ 3) (hs : k ^ (2 * r + 1) ≤ 256) :
    Calls Tryd.prog 47 #[.int .i64 (k : Int), .int .i64 (r : Int)] w (SizeOk w (k ^ (2 * r + 1))) := by
  have hsz := size_ok k r w h1 h4 h3
  obtain ⟨S, hS⟩ : ∃ S, k ^ (2 * r + 1) = S := ⟨_, rfl⟩
  rw [hS] at hs hsz ⊢
  have H := Lib.hid hsz
  clear hsz hS
  go_enter Tryd.func47, Tryd.ntmps47
  go_wp2_with fail
  refine H.out.mono ?_
  rintro e w1 ⟨rfl, rfl⟩
  go_wp2_with fail
  go_ret2
  exact ⟨rfl, rfl⟩
theorem small_size_big (k r : Nat) (w : World) (A : Nat → Addr) (hr : Roots w A) (h1 : 1 ≤ k) (h4 : k ≤ 4) (h3 : r ≤ 3) (hs : 256 < k ^ (2 * r + 1)) :
    Calls Tryd.prog 47 #[.int .i64 (k : Int), .int .i64 (r : Int)] w (Err2 w A ruleOp 0 4 (.int .i64 0)) := by
  have hsz := size_ok k r w h1 h4 h3
  have hle := pow_le h4 h3
  obtain ⟨S, hS⟩ : ∃ S, k ^ (2 * r + 1) = S := ⟨_, rfl⟩
  rw [hS] at hs hsz hle
  have H := Lib.hid (And.intro hsz hr)
  clear hsz hS hr
  go_enter Tryd.func47, Tryd.ntmps47
  go_wp2_with fail
  refine H.out.1.mono ?_
  rintro e w1 ⟨rfl, rfl⟩
  go_wp2_with fail
  refine (new_at ruleOp 0 4 w A H.out.2 (by omega)).mono ?_
  rintro e w2 ⟨b, rfl, hl2, hb2⟩
  have HF := Lib.hid (And.intro hl2 hb2)
  clear hl2 hb2
  go_wp2_with fail
  go_ret2
  exact ⟨_, rfl, HF.out.1, HF.out.2⟩
theorem small_size_bad (k r : Int) (w : World) (A : Nat → Addr) (hr : Roots w A) (h : (k < 1 ∨ 4 < k) ∨ r < 0 ∨ 3 < r) :
    Calls Tryd.prog 47 #[.int .i64 k, .int .i64 r] w (Err2 w A ruleOp 0 3 (.int .i64 0)) := by
  have H := Lib.hid (size_bad k r w A hr h)
  clear h hr
  go_enter Tryd.func47, Tryd.ntmps47
  go_wp2_with fail
  refine H.out.mono ?_
  rintro e w1 ⟨b, rfl, hl1, hb1⟩
  have HF := Lib.hid (And.intro hl1 hb1)
  clear hl1 hb1
  go_wp2_with fail
  go_ret2
  exact ⟨_, rfl, HF.out.1, HF.out.2⟩

/-- the fault of a rule that ought to be small: the place and the number -/
def chkS (k r : Int) (t : List Int) : Option (Nat × Nat) := match chkR k r t with
  | some i => some (i, 1)
  | none => if 256 < t.length then some (0, 4) else none
theorem chkS_none {k r : Int} {t : List Int} (h : chkS k r t = none) : ∃ K R : Nat, k = K ∧ r = R ∧ OkR K R t ∧ t.length ≤ 256 := by
  unfold chkS at h
  split at h
  · cases h
  · rename_i hn
    obtain ⟨K, R, h1, h2, h3⟩ := chkR_none hn
    split at h
    · cases h
    · exact ⟨K, R, h1, h2, h3, by omega⟩
theorem chkS_ok {K R : Nat} {t : List Int} (h : OkR K R t) (hl : t.length ≤ 256) : chkS K R t = none := by
  unfold chkS
  rw [chkR_ok h]
  simp only []
  rw [if_neg (by omega)]

set_option maxRecDepth 100000 in
set_option maxHeartbeats 1000000 in
theorem small_ok (k r : Nat) (p : Option Addr) (n c : Nat) (t : List Int) (w : World) (hn : n = t.length) (h : IntV w.heap.size w p c t) (ho : OkR k r t) (hs : t.length ≤ 256) :
    Calls Tryd.prog 16 #[.agg #[.int .i64 (k : Int), .int .i64 (r : Int), .slice p n c]] w (Tells .nilIface w) := by
  have H := Lib.hid (And.intro h (And.intro hn (And.intro ho hs)))
  clear h hn ho hs
  go_enter Tryd.func16, Tryd.ntmps16
  go_wp2_with fail
  obtain ⟨w0, hw0⟩ : ∃ w0, w0 = w.alloc (.cells #[.int .i64 (k : Int), .int .i64 (r : Int), .slice p n c] 24) := ⟨_, rfl⟩
  have hb0 : Below w.heap.size w w0 := by rw [hw0]; exact (Below.refl _ _).alloc (Nat.le_refl _) _
  have hE0 : Rul3 w0 w.heap.size (.int .i64 (k : Int)) (.int .i64 (r : Int)) (.slice p n c) := by rw [hw0]; exact Rul3.new w _ _ _
  rw [← hw0]
  obtain ⟨⟨hf0, hf1, hf2⟩, hc0, hc1, hc2⟩ := hE0.facts
  have HE := Lib.hid (And.intro hE0 hb0)
  clear hw0 hE0 hb0
  go_wp2_with fail
  refine (rcheck_ok k r p n c t w0 H.out.2.1 (H.out.1.next HE.out.2) H.out.2.2.1).mono ?_
  rintro e w1 ⟨rfl, hb1⟩
  have H1 := Lib.hid (And.intro (HE.out.1.next hb1) (HE.out.2.trans (hb1.mono HE.out.2.size)))
  clear hb1 hf0 hf1 hf2 hc0 hc1 hc2
  obtain ⟨⟨hf0, hf1, hf2⟩, hc0, hc1, hc2⟩ := H1.out.1.facts
  go_wp2_with fail
  refine (small_size_ok k r w1 H.out.2.2.1.k1 H.out.2.2.1.k4 H.out.2.2.1.r3 (by rw [← H.out.2.2.1.len]; exact H.out.2.2.2)).mono ?_
  rintro e w2 ⟨rfl, rfl⟩
  go_wp2_with fail
  go_ret
  exact ⟨rfl, H1.out.2⟩
set_option maxRecDepth 100000 in
set_option maxHeartbeats 1000000 in
theorem small_bad (k r : Int) (p : Option Addr) (n c : Nat) (t : List Int) (w : World) (A : Nat → Addr) (hr : Roots w A) (hn : n = t.length) (h : IntV w.heap.size w p c t) (i m : Nat) (hc : chkS k r t = some (i, m)) :
    Calls Tryd.prog 16 #[.agg #[.int .i64 k, .int .i64 r, .slice p n c]] w (Err1 w A ruleOp i m) := by
  unfold chkS at hc
  have start : ∀ (w0 : World), w0 = w.alloc (.cells #[.int .i64 k, .int .i64 r, .slice p n c] 24) → Below w.heap.size w w0 ∧ Rul3 w0 w.heap.size (.int .i64 k) (.int .i64 r) (.slice p n c) := fun w0 hw0 =>
    ⟨by rw [hw0]; exact (Below.refl _ _).alloc (Nat.le_refl _) _, by rw [hw0]; exact Rul3.new w _ _ _⟩
  have ST := Lib.hid start
  clear start
  split at hc
  · obtain ⟨rfl, rfl⟩ := Prod.mk.inj (Option.some.inj hc)
    rename_i hcr
    have H := Lib.hid (And.intro h (And.intro hn (And.intro hr hcr)))
    clear h hn hr hcr hc
    go_enter Tryd.func16, Tryd.ntmps16
    go_wp2_with fail
    obtain ⟨w0, hw0⟩ : ∃ w0, w0 = w.alloc (.cells #[.int .i64 k, .int .i64 r, .slice p n c] 24) := ⟨_, rfl⟩
    rw [← hw0]
    obtain ⟨hb0, hE0⟩ := ST.out w0 hw0
    obtain ⟨⟨hf0, hf1, hf2⟩, hc0, hc1, hc2⟩ := hE0.facts
    have HE := Lib.hid (And.intro hE0 hb0)
    clear hw0 hE0 hb0
    go_wp2_with fail
    refine (rcheck_bad k r p n c t w0 A (H.out.2.2.1.below HE.out.2) H.out.2.1 (H.out.1.next HE.out.2) _ H.out.2.2.2).mono ?_
    rintro e w1 ⟨b, rfl, hl1, hb1⟩
    have HF := Lib.hid (And.intro hl1 (HE.out.2.trans (hb1.mono HE.out.2.size)))
    clear hl1 hb1
    go_wp2_with fail
    go_ret
    exact ⟨_, rfl, HF.out.1, HF.out.2⟩
  · split at hc
    · obtain ⟨rfl, rfl⟩ := Prod.mk.inj (Option.some.inj hc)
      rename_i hcr hbig
      obtain ⟨K, R, rfl, rfl, ho⟩ := chkR_none hcr
      have H := Lib.hid (And.intro h (And.intro hn (And.intro hr (And.intro ho hbig))))
      clear h hn hr hcr hc ho hbig
      go_enter Tryd.func16, Tryd.ntmps16
      go_wp2_with fail
      obtain ⟨w0, hw0⟩ : ∃ w0, w0 = w.alloc (.cells #[.int .i64 (K : Int), .int .i64 (R : Int), .slice p n c] 24) := ⟨_, rfl⟩
      rw [← hw0]
      obtain ⟨hb0, hE0⟩ := ST.out w0 hw0
      obtain ⟨⟨hf0, hf1, hf2⟩, hc0, hc1, hc2⟩ := hE0.facts
      have HE := Lib.hid (And.intro hE0 hb0)
      clear hw0 hE0 hb0
      go_wp2_with fail
      refine (rcheck_ok K R p n c t w0 H.out.2.1 (H.out.1.next HE.out.2) H.out.2.2.2.1).mono ?_
      rintro e w1 ⟨rfl, hb1⟩
      have H1 := Lib.hid (And.intro (HE.out.1.next hb1) (HE.out.2.trans (hb1.mono HE.out.2.size)))
      clear hb1 hf0 hf1 hf2 hc0 hc1 hc2
      obtain ⟨⟨hf0, hf1, hf2⟩, hc0, hc1, hc2⟩ := H1.out.1.facts
      go_wp2_with fail
      refine (small_size_big K R w1 A (H.out.2.2.1.below H1.out.2) H.out.2.2.2.1.k1 H.out.2.2.2.1.k4 H.out.2.2.2.1.r3 (by rw [← H.out.2.2.2.1.len]; exact H.out.2.2.2.2)).mono ?_
      rintro e w2 ⟨b, rfl, hl2, hb2⟩
      have HF := Lib.hid (And.intro hl2 (H1.out.2.trans (hb2.mono H1.out.2.size)))
      clear hl2 hb2
      go_wp2_with fail
      go_ret
      exact ⟨_, rfl, HF.out.1, HF.out.2⟩
    · cases hc
end Go.Proofs.YthafjbegkifekaaDoor
end
section
namespace Go.Proofs.YthafjbegkifekaaDoor
open Go.RowKit

theorem madeI_list (v : Value) (n : Nat) : (madeCells #[v] n).toList = List.replicate n v := by
  unfold madeCells
  rw [Array.toList_map, Array.toList_range]
  apply List.ext_getElem
  · simp
  · intro i h1 h2
    simp [Nat.mod_one]
theorem makeI (n : Nat) (hn : n ≤ 17592186044000) (w : World) :
    (Instr.makeSlice 22 (.int .i64 (n : Int)) (.int .i64 (n : Int))).run Tryd.prog w = .ok (.slice (some ⟨w.heap.size, 0, none⟩) n n) (w.alloc (.cells (madeCells #[.int .i64 0] n) 3)) := by
  obtain ⟨i0, hi, hz0, hz1, hz2⟩ := info_parts infoI
  have h := run_make (P := Tryd.prog) w 22 3 i0 (.int .i64 0) Tryd.underlying22 hi hz0 .i64 .i64 n n (by omega) (by omega) (by rw [hz2]; omega) (by omega)
  rw [hz1] at h
  simpa [Value.cells] using h
theorem IntO.made (w : World) (n : Nat) (hn : n ≤ 17592186044000) : IntO w.heap.size (w.alloc (.cells (madeCells #[.int .i64 0] n) 3)) (some ⟨w.heap.size, 0, none⟩) n (List.replicate n 0) := by
  refine ⟨by simp [cI], Or.inr ⟨w.heap.size, n, madeCells #[.int .i64 0] n, by rw [List.length_replicate], Nat.le_refl _, heap_newN _ _, by rw [List.length_replicate]; exact Nat.le_refl _, by unfold maxLen; omega, by rw [size_madeCells, Nat.mul_one], ?_⟩⟩
  rw [madeI_list, List.length_replicate, Nat.mul_one, List.take_of_length_le (by simp)]
  simp [cI]

/-- a slice of no element, with room -/
def RoomPost (w : World) (e : Ending) (w' : World) : Prop := ∃ p c, e = .returned (.slice p 0 c) ∧ IntO w.heap.size w' p c [] ∧ Below w.heap.size w w'
abbrev Sl := Option Addr × Nat × List Int
def Sl.val (x : Sl) : Value := .slice x.1 x.2.2.length x.2.1
/-- A slice of slices of ints below B: it reads L, and each of them reads. -/
structure SlsV (B : Nat) (w : World) (p : Option Addr) (c : Nat) (L : List Sl) : Prop where
  le : L.length ≤ c
  cap : c ≤ maxLen
  each : ∀ x : Sl, x ∈ L → IntV B w x.1 x.2.1 x.2.2
  cell : L ≠ [] → ∃ b off, p = some ⟨b, off, none⟩ ∧ b < B ∧ ∀ (j : Nat) (x : Sl), L[j]? = some x → w.cell? ⟨b, off + j, none⟩ = some x.val
theorem SlsV.below {B : Nat} {w w' : World} {p : Option Addr} {c : Nat} {L : List Sl} (hb : Below B w w') (h : SlsV B w p c L) : SlsV B w' p c L :=
  ⟨h.le, h.cap, fun x hx => (h.each x hx).below hb, fun hn => by
    obtain ⟨b, off, hp, hlt, hc⟩ := h.cell hn
    exact ⟨b, off, hp, hlt, fun j x hx => (hb.cell (p := ⟨b, off + j, none⟩) hlt).trans (hc j x hx)⟩⟩
theorem SlsV.mono {B B' : Nat} {w : World} {p : Option Addr} {c : Nat} {L : List Sl} (hB : B ≤ B') (h : SlsV B w p c L) : SlsV B' w p c L :=
  ⟨h.le, h.cap, fun x hx => (h.each x hx).mono hB, fun hn => by
    obtain ⟨b, off, hp, hlt, hc⟩ := h.cell hn
    exact ⟨b, off, hp, by omega, hc⟩⟩
theorem SlsV.next {w w' : World} {p : Option Addr} {c : Nat} {L : List Sl} (hb : Below w.heap.size w w') (h : SlsV w.heap.size w p c L) : SlsV w'.heap.size w' p c L := (h.below hb).mono hb.size
/-- a literal of slices, just laid -/
theorem SlsV.laid {w : World} (L : List Sl) (cs : Array Value) (t : TypeId) (hc : cs.toList = L.map Sl.val) (hl : L.length ≤ 1000) (h : ∀ x : Sl, x ∈ L → IntV w.heap.size w x.1 x.2.1 x.2.2) :
    SlsV (w.alloc (.cells cs t)).heap.size (w.alloc (.cells cs t)) (some ⟨w.heap.size, 0, none⟩) L.length L := by
  have hb : Below w.heap.size w (w.alloc (.cells cs t)) := (Below.refl _ _).alloc (Nat.le_refl _) _
  refine ⟨Nat.le_refl _, by unfold maxLen; omega, fun x hx => (h x hx).next hb, fun _ => ⟨w.heap.size, 0, rfl, by simp, fun j x hx => ?_⟩⟩
  rw [Nat.zero_add, cell_alloc_row, ← Array.getElem?_toList, hc, List.getElem?_map, hx]; rfl
def flat (L : List Sl) : List Int := (L.map (·.2.2)).flatten
def sumL (L : List Sl) : Nat := (L.map (·.2.2.length)).sum
theorem flat_length (L : List Sl) : (flat L).length = sumL L := by unfold flat sumL; rw [List.length_flatten, List.map_map]; rfl
theorem flat_snoc {L : List Sl} {j : Nat} {x : Sl} (h : L[j]? = some x) : flat (L.take (j + 1)) = flat (L.take j) ++ x.2.2 := by
  unfold flat
  rw [List.take_add_one, h]; simp
theorem sum_snoc {L : List Sl} {j : Nat} {x : Sl} (h : L[j]? = some x) : sumL (L.take (j + 1)) = sumL (L.take j) + x.2.2.length := by
  unfold sumL
  rw [List.take_add_one, h]; simp
theorem sum_take_le (L : List Sl) (j : Nat) : sumL (L.take j) ≤ sumL L := by
  conv => rhs; rw [← List.take_append_drop j L]
  unfold sumL
  rw [List.map_append, List.sum_append]
  exact Nat.le_add_right _ _
def ConcatRel (w : World) (L : List Sl) (v6 v27 : Value) (wr : World) : Prop :=
  ∃ (j : Nat) (p : Option Addr) (c : Nat), j ≤ L.length ∧ v27 = .int .i64 (j : Int) ∧ v6 = .slice p (flat (L.take j)).length c ∧ IntO w.heap.size wr p c (flat (L.take j)) ∧ Below w.heap.size w wr

end Go.Proofs.YthafjbegkifekaaDoor
end
section
namespace Go.Proofs.YthafjbegkifekaaDoor
open Go.RowKit WordM


theorem IntPost.under {w W : World} {l : List Int} {e : Ending} {w' : World} (hb : Below w.heap.size w W) (h : IntPost W l e w') : IntPost w l e w' := by
  obtain ⟨p, c, he, ho, hb'⟩ := h
  exact ⟨p, c, he, ho.base hb.size, hb.trans (hb'.mono hb.size)⟩
theorem reverseI_none (w : World) : Calls Tryd.prog 78 #[.slice none 0 0] w fun e w' => e = .returned (.tuple #[]) ∧ w = w' := by
  go_enter Tryd.func78, Tryd.ntmps78
  go_wp2_with fail
  go_loop [2, 3] (fun v2 v3 => v2 = .int .i64 0 ∧ v3 = .int .i64 (-1)) (fun _ _ => 0)
  case atStart => exact ⟨rfl, rfl⟩
  case round =>
    obtain ⟨rfl, rfl⟩ := hrel
    go_wp2_with fail
    go_end0
    exact ⟨rfl, rfl⟩
set_option maxHeartbeats 1000000 in
theorem back_any (p : Option Addr) (n c : Nat) (l : List Int) (w : World) (hn : n = l.length) (h : IntV w.heap.size w p c l) (hl : l.length ≤ 17592186044000) :
    Calls Tryd.prog 52 #[.slice p n c] w (IntPost w l.reverse) := by
  subst hn
  have hc := cloneI_any p c l w h hl
  have HC := Lib.hid hc
  clear hc h
  go_enter Tryd.func52, Tryd.ntmps52
  go_wp2_with fail
  refine HC.out.mono ?_
  rintro e w1 ⟨p1, c1, rfl, ho1, hb1⟩
  rcases own_shape ho1 with ⟨hv, h0, _⟩ | ⟨g, cap, hv, hg, hglt, hcc, hm, hcl, _⟩
  · obtain ⟨rfl, hl0, rfl⟩ := by simpa using hv
    subst hl0
    have HB := Lib.hid hb1
    clear ho1 hb1 h0 hv
    go_wp2_with fail
    refine (reverseI_none _).mono ?_
    rintro e w' ⟨rfl, rfl⟩
    go_wp2_with fail
    go_ret
    exact ⟨none, 0, rfl, IntO.nothing _ _, HB.out⟩
  · obtain ⟨rfl, rfl⟩ : p1 = some ⟨g, 0, none⟩ ∧ c1 = cap := by simpa using hv
    have HB := Lib.hid (And.intro hb1 hg)
    have hr := reverseI_any w.heap.size g c1 l w1 (by omega) ho1
    clear ho1 hb1 hg hcl hv
    go_wp2_with fail
    refine hr.mono ?_
    rintro e w2 ⟨rfl, ho2, hgr⟩
    have hb2 : Below w.heap.size w w2 := HB.out.1.grown hgr HB.out.1.size (fun j hj => by obtain rfl := Option.some.inj hj; exact HB.out.2)
    have HO := Lib.hid (And.intro ho2 hb2)
    clear ho2 hgr hb2 hr
    go_wp2_with fail
    go_ret
    exact ⟨some ⟨g, 0, none⟩, c1, by rw [List.length_reverse]; rfl, by unfold IntO; rw [List.length_reverse]; exact HO.out.1, HO.out.2⟩

/-- how far a turn goes -/
def turnN (l : List Int) (z : Int) : Nat := (z % (l.length : Int)).toNat
def turnW (l : List Int) (z : Int) : List Int := rot l (turnN l z)
theorem turnW_length (l : List Int) (z : Int) : (turnW l z).length = l.length := rot_length _ _
end Go.Proofs.YthafjbegkifekaaDoor
end
section
namespace Go.Proofs.YthafjbegkifekaaDoor
open Go.RowKit Go.Extern.Stop Go.Stop Go.Extern WordM

/-- the word behind it, and no error -/
def NextOk (w : World) (k : Nat) (l : List Int) (e : Ending) (w' : World) : Prop := ∃ x, IsNext k l x ∧ IntOk w x e w'

theorem set_mid {l : List Int} {i : Nat} {y v : Int} (h : l[i]? = some y) (n : Nat) (z : Int) : (l.take (i + 1) ++ List.replicate n z).set i v = l.take i ++ v :: List.replicate n z := by
  have hi := ltI h
  have e : l.take (i + 1) = l.take i ++ [y] := by rw [List.take_add_one, h]; rfl
  rw [e, List.append_assoc, List.set_append_right _ _ (by rw [List.length_take]; omega), List.length_take, Nat.min_eq_left (by omega), Nat.sub_self]
  rfl
theorem take_rep {l : List Int} {i n : Nat} {y z : Int} (h : l[i]? = some y) (e : l = l.take (i + 1) ++ List.replicate n z) : l = l.take i ++ y :: List.replicate n z := by
  have e2 : l.take (i + 1) = l.take i ++ [y] := by rw [List.take_add_one, h]; rfl
  rw [e2, List.append_assoc] at e
  exact e
def NextRel (w : World) (k : Nat) (l : List Int) (p : Option Addr) (c : Nat) (v : Value) (wr : World) : Prop :=
  ∃ j : Nat, j ≤ l.length ∧ v = .int .i64 ((j : Int) - 1) ∧ l = l.take j ++ List.replicate (l.length - j) ((k : Int) - 1) ∧ IntO w.heap.size wr p c (l.take j ++ List.replicate (l.length - j) 0) ∧ Below w.heap.size w wr
end Go.Proofs.YthafjbegkifekaaDoor
end
section
namespace Go.Proofs.YthafjbegkifekaaDoor
open Go.RowKit NatM

theorem bsOf_strOfNums {l : List Nat} (h : ∀ x ∈ l, x < 256) : bsOf (strOfNums (l.map fun (d : Nat) => (d : Int))) = l := by
  unfold bsOf
  rw [strOfNums_data, List.map_map, List.map_map]
  conv => rhs; rw [← List.map_id l]
  apply List.map_congr_left
  intro x hx
  have := h x hx
  simp [UInt8.toNat_ofNat']
  omega
theorem strOfNums_bsOf (s : ByteArray) : strOfNums ((bsOf s).map fun (d : Nat) => (d : Int)) = s := by
  have h : (strOfNums ((bsOf s).map fun (d : Nat) => (d : Int))).data.toList = s.data.toList := by
    rw [strOfNums_data]
    unfold bsOf
    rw [List.map_map, List.map_map]
    conv => rhs; rw [← List.map_id s.data.toList]
    apply List.map_congr_left
    intro x _
    simp
  cases s with
  | mk d =>
    have := congrArg List.toArray h
    simp at this
    exact congrArg ByteArray.mk this
end Go.Proofs.YthafjbegkifekaaDoor
end
section
namespace Go.Proofs.YthafjbegkifekaaDoor
open Go.RowKit Go.Extern.Stop Go.Stop Go.Extern WordM NatM


/-- a text's digits as symbols -/
def sW (s : ByteArray) : List Int := (bsOf s).map fun (b : Nat) => (b : Int) - 48
theorem sW_length (s : ByteArray) : (sW s).length = s.size := by unfold sW; rw [List.length_map, bsOf_length]
theorem sW_get {s : ByteArray} {k : Nat} (h : k < s.size) : (sW s)[k]? = some ((s[k].toNat : Int) - 48) := by
  unfold sW
  rw [List.getElem?_map, bsOf_get h]; rfl
/-- of a text that is refused the number is 6 in place of 2 -/
def code6 (m : Nat) : Nat := if m = 2 then 6 else m

def ParseWRel (w : World) (n : Nat) (l : List Int) (p : Option Addr) (c : Nat) (J : Nat) (v : Value) (wr : World) : Prop :=
  ∃ j : Nat, j ≤ J ∧ v = .int .i64 (j : Int) ∧ IntO w.heap.size wr p c (l.take j ++ List.replicate (n - j) 0) ∧ Below w.heap.size w wr
theorem put_next {l : List Int} {j n : Nat} {x : Int} (h : l[j]? = some x) (hj : j < n) : (l.take j ++ List.replicate (n - j) 0).set j x = l.take (j + 1) ++ List.replicate (n - (j + 1)) 0 := by
  have hl := ltI h
  rw [List.set_append_right _ _ (by rw [List.length_take]; omega), List.length_take, Nat.min_eq_left (by omega), Nat.sub_self, List.take_add_one, h]
  obtain ⟨m, hm⟩ : ∃ m, n - j = m + 1 := ⟨n - j - 1, by omega⟩
  rw [hm, show n - (j + 1) = m by omega, List.replicate_succ]
  simp
theorem mid_len {l : List Int} {j n : Nat} (hl : j ≤ l.length) (hj : j ≤ n) : (l.take j ++ List.replicate (n - j) (0 : Int)).length = n := by simp; omega


end Go.Proofs.YthafjbegkifekaaDoor
end
section
namespace Go.Proofs.YthafjbegkifekaaDoor
open Go.RowKit Go.Extern.Stop Go.Stop Go.Extern WordM RuleM

/-- where Local refuses: the place and the number -/
def chkL (k r : Int) (t w : List Int) : Option (Nat × Nat) := match chkR k r t with
  | some i => some (i, 1)
  | none => if (w.length : Int) ≠ 2 * r + 1 then some (0, 3) else (w.findIdx? (badAt k)).map fun i => (i, 2)
/-- where Step refuses: the place and the number -/
def chkT (k r : Int) (t w : List Int) : Option (Nat × Nat) := match chkR k r t with
  | some i => some (i, 1)
  | none => if 4096 < w.length then some (0, 4) else (w.findIdx? (badAt k)).map fun i => (i, 2)
theorem chkL_none {k r : Int} {t w : List Int} (h : chkL k r t w = none) : ∃ K R : Nat, k = K ∧ r = R ∧ OkR K R t ∧ w.length = 2 * R + 1 ∧ okW K w := by
  unfold chkL at h
  split at h
  · cases h
  · rename_i hn
    obtain ⟨K, R, rfl, rfl, h3⟩ := chkR_none hn
    split at h
    · cases h
    · rw [Option.map_eq_none_iff, bad_none] at h
      exact ⟨K, R, rfl, rfl, h3, by omega, h⟩
theorem chkT_none {k r : Int} {t w : List Int} (h : chkT k r t w = none) : ∃ K R : Nat, k = K ∧ r = R ∧ OkR K R t ∧ w.length ≤ 4096 ∧ okW K w := by
  unfold chkT at h
  split at h
  · cases h
  · rename_i hn
    obtain ⟨K, R, rfl, rfl, h3⟩ := chkR_none hn
    split at h
    · cases h
    · rw [Option.map_eq_none_iff, bad_none] at h
      exact ⟨K, R, rfl, rfl, h3, by omega, h⟩
theorem chkT_ok {K R : Nat} {t w : List Int} (h : OkR K R t) (hl : w.length ≤ 4096) (hw : okW K w) : chkT K R t w = none := by
  unfold chkT
  rw [chkR_ok h]
  simp only []
  rw [if_neg (by omega), Option.map_eq_none_iff, bad_none]
  exact hw
theorem chkL_ok {K R : Nat} {t w : List Int} (h : OkR K R t) (hl : w.length = 2 * R + 1) (hw : okW K w) : chkL K R t w = none := by
  unfold chkL
  rw [chkR_ok h]
  simp only []
  rw [if_neg (by omega), Option.map_eq_none_iff, bad_none]
  exact hw

theorem valW_take1 {k : Nat} {l : List Int} {j : Nat} {x : Int} (h : l[j]? = some x) : valW k (l.take (j + 1)) = valW k (l.take j) * k + x.toNat := by
  rw [List.take_add_one, h]; exact valW_snoc k _ x
theorem val_small {k : Nat} {l : List Int} {j : Nat} (h4 : k ≤ 4) (ho : okW k l) (hj : j ≤ 7) : valW k (l.take j) < 16384 := by
  have h1 := valW_lt (okW_take ho j)
  have h2 : k ^ (l.take j).length ≤ 4 ^ (l.take j).length := Nat.pow_le_pow_left h4 _
  have h3 : 4 ^ (l.take j).length ≤ 4 ^ 7 := Nat.pow_le_pow_right (by omega) (by rw [List.length_take]; omega)
  have h5 : (4 : Nat) ^ 7 = 16384 := by decide
  omega

/-- a number, and no error -/
def IntOk1 (w : World) (x : Int) (e : Ending) (w' : World) : Prop := e = .returned (.tuple #[.int .i64 x, .nilIface]) ∧ Below w.heap.size w w'

set_option maxRecDepth 100000 in
set_option maxHeartbeats 2000000 in
theorem local_ok (k r : Nat) (p q : Option Addr) (n c m d : Nat) (t l : List Int) (w : World) (hn : n = t.length) (hm : m = l.length) (h : IntV w.heap.size w p c t) (hl : IntV w.heap.size w q d l) (ho : OkR k r t) (hlen : l.length = 2 * r + 1) (hw : okW k l) :
    Calls Tryd.prog 22 #[.agg #[.int .i64 (k : Int), .int .i64 (r : Int), .slice p n c], .slice q m d] w (IntOk1 w (ent t (valW k l))) := by
  have h4 := ho.k4
  have h3 := ho.r3
  have hle := hl.le
  have hcap := hl.cap
  have hcap2 := h.cap
  have hle2 := h.le
  unfold maxLen at hcap hcap2
  have hmd : m ≤ d := by omega
  have hnc : n ≤ c := by omega
  have hm7 : m ≤ 7 := by omega
  have hmr : (m : Int) = 2 * (r : Int) + 1 := by omega
  have hst := strayN_ok hw
  rw [← hm] at hst
  have H := Lib.hid (And.intro h (And.intro hn (And.intro ho (And.intro hst (And.intro hl (And.intro hm (And.intro hw hlen)))))))
  clear h hn ho hst hl hm hw hle hle2 hlen
  obtain ⟨R2, hR2⟩ : ∃ R2 : Nat, 2 * r = R2 := ⟨_, rfl⟩
  have w2r : IntKind.i64.wrap (2 * (r : Int)) = (R2 : Int) := by rw [IntWalk.i64_in _ (by omega)]; omega
  have wR : IntKind.i64.wrap ((R2 : Int) + 1) = (m : Int) := by rw [IntWalk.i64_in _ (by omega)]; omega
  clear hmr hR2
  go_enter Tryd.func22, Tryd.ntmps22
  go_wp2_with fail
  obtain ⟨w0, hw0⟩ : ∃ w0, w0 = w.alloc (.cells #[.int .i64 (k : Int), .int .i64 (r : Int), .slice p n c] 24) := ⟨_, rfl⟩
  have hb0 : Below w.heap.size w w0 := by rw [hw0]; exact (Below.refl _ _).alloc (Nat.le_refl _) _
  have hE0 : Rul3 w0 w.heap.size (.int .i64 (k : Int)) (.int .i64 (r : Int)) (.slice p n c) := by rw [hw0]; exact Rul3.new w _ _ _
  rw [← hw0]
  obtain ⟨⟨hf0, hf1, hf2⟩, hc0, hc1, hc2⟩ := hE0.facts
  have HE := Lib.hid (And.intro hE0 hb0)
  clear hw0 hE0 hb0
  go_wp2_with fail
  refine (rcheck_ok k r p n c t w0 H.out.2.1 (H.out.1.next HE.out.2) H.out.2.2.1).mono ?_
  rintro e w1 ⟨rfl, hb1⟩
  have H1 := Lib.hid (And.intro (HE.out.1.next hb1) (HE.out.2.trans (hb1.mono HE.out.2.size)))
  clear hb1 hf0 hf1 hf2 hc0 hc1 hc2
  obtain ⟨⟨hf0, hf1, hf2⟩, hc0, hc1, hc2⟩ := H1.out.1.facts
  go_wp2_with fail
  refine (stray_any (k : Int) q m d l w1 H.out.2.2.2.2.2.1 (H.out.2.2.2.2.1.next H1.out.2)).mono ?_
  rintro e w2 ⟨rfl, rfl⟩
  rw [H.out.2.2.2.1]
  go_wp2_with fail
  go_loop [8, 36] (fun v8 v36 => ∃ j : Nat, j ≤ m ∧ v36 = .int .i64 (j : Int) ∧ v8 = .int .i64 ((valW k (l.take j) : Nat) : Int)) (fun _ v => m - (intOf v).toNat)
  case atStart => exact ⟨0, Nat.zero_le _, rfl, rfl⟩
  case round =>
    obtain ⟨j, hj, rfl, rfl⟩ := hrel
    by_cases hlt : j < m
    · have hml := H.out.2.2.2.2.2.1
      obtain ⟨b, off, rfl, hb, hc⟩ := H.out.2.2.2.2.1.cell (by rintro rfl; simp at hml; omega)
      obtain ⟨x, hx⟩ := getI (l := l) (k := j) (by omega)
      have hcx : w1.cell? ⟨b, off + j, none⟩ = some (.int .i64 x) := (H1.out.2.cell (p := ⟨b, off + j, none⟩) hb).trans (hc j x hx)
      have hxo := H.out.2.2.2.2.2.2.1 x (List.mem_of_getElem? hx)
      have hstep := valW_take1 (k := k) hx
      have hv1 := val_small (l := l) (j := j) h4 H.out.2.2.2.2.2.2.1 (by omega)
      have hv2 := val_small (l := l) (j := j + 1) h4 H.out.2.2.2.2.2.2.1 (by omega)
      obtain ⟨y, rfl⟩ : ∃ y : Nat, x = (y : Int) := ⟨x.toNat, by omega⟩
      rw [Int.toNat_natCast] at hstep
      obtain ⟨v, hv⟩ : ∃ v, valW k (l.take j) = v := ⟨_, rfl⟩
      obtain ⟨z, hz⟩ : ∃ z, valW k (l.take (j + 1)) = z := ⟨_, rfl⟩
      rw [hv] at hstep hv1 ⊢
      rw [hz] at hstep hv2
      obtain ⟨u, hu⟩ : ∃ u, v * k = u := ⟨_, rfl⟩
      have hvk : ((v : Int) * (k : Int)) = (u : Int) := by rw [← hu]; push_cast; rfl
      rw [hu] at hstep
      have wvk : IntKind.i64.wrap ((v : Int) * (k : Int)) = (u : Int) := by rw [hvk, IntWalk.i64_in _ (by omega)]
      have wux : IntKind.i64.wrap ((u : Int) + (y : Int)) = (z : Int) := by rw [IntWalk.i64_in _ (by omega)]; omega
      have HZ := Lib.hid hz
      clear hc hx hv hz hu hvk hstep hml
      go_wp2_with fail
      go_round
      case rel => exact ⟨j + 1, by omega, by go_num, by rw [HZ.out]⟩
      case measure => simp [intOf]; omega
    · obtain rfl : j = m := by omega
      have hml := H.out.2.2.2.2.2.1
      have hlen := H.out.2.2.2.2.2.2.2
      have hlt2 : valW k l < t.length := by rw [H.out.2.2.1.len, ← hlen]; exact valW_lt H.out.2.2.2.2.2.2.1
      have he : l.take j = l := by rw [hml, List.take_length]
      rw [he]
      have hg := ent_get hlt2
      have hnl := H.out.2.1
      obtain ⟨b, off, rfl, hb, hc⟩ := H.out.1.cell (by rintro rfl; simp at hlt2)
      have hcx : w1.cell? ⟨b, off + valW k l, none⟩ = some (.int .i64 (ent t (valW k l))) := (H1.out.2.cell (p := ⟨b, off + valW k l, none⟩) hb).trans (hc _ _ hg)
      obtain ⟨v, hv⟩ : ∃ v, valW k l = v := ⟨_, rfl⟩
      rw [hv] at hcx hlt2 ⊢
      have hvn : v < n := by omega
      have HV := Lib.hid hv
      clear hc hg hv he hml hlen hlt2 hnl
      go_wp2_with fail
      go_ret2
      exact ⟨by rw [HV.out]; rfl, H1.out.2⟩

set_option maxRecDepth 100000 in
set_option maxHeartbeats 2000000 in
theorem local_bad (k r : Int) (p q : Option Addr) (n c m d : Nat) (t l : List Int) (w : World) (A : Nat → Addr) (hr : Roots w A) (hn : n = t.length) (hm : m = l.length) (h : IntV w.heap.size w p c t) (hl : IntV w.heap.size w q d l) (i a : Nat) (hc : chkL k r t l = some (i, a)) :
    Calls Tryd.prog 22 #[.agg #[.int .i64 k, .int .i64 r, .slice p n c], .slice q m d] w (Err2 w A ruleOp i a (.int .i64 0)) := by
  have start : ∀ (w0 : World), w0 = w.alloc (.cells #[.int .i64 k, .int .i64 r, .slice p n c] 24) → Below w.heap.size w w0 ∧ Rul3 w0 w.heap.size (.int .i64 k) (.int .i64 r) (.slice p n c) := fun w0 hw0 =>
    ⟨by rw [hw0]; exact (Below.refl _ _).alloc (Nat.le_refl _) _, by rw [hw0]; exact Rul3.new w _ _ _⟩
  have ST := Lib.hid start
  clear start
  unfold chkL at hc
  split at hc
  · obtain ⟨rfl, rfl⟩ := Prod.mk.inj (Option.some.inj hc)
    rename_i hcr
    have H := Lib.hid (And.intro h (And.intro hn (And.intro hr hcr)))
    clear h hn hr hcr hc hm hl
    go_enter Tryd.func22, Tryd.ntmps22
    go_wp2_with fail
    obtain ⟨w0, hw0⟩ : ∃ w0, w0 = w.alloc (.cells #[.int .i64 k, .int .i64 r, .slice p n c] 24) := ⟨_, rfl⟩
    rw [← hw0]
    obtain ⟨hb0, hE0⟩ := ST.out w0 hw0
    obtain ⟨⟨hf0, hf1, hf2⟩, hc0, hc1, hc2⟩ := hE0.facts
    have HE := Lib.hid (And.intro hE0 hb0)
    clear hw0 hE0 hb0
    go_wp2_with fail
    refine (rcheck_bad k r p n c t w0 A (H.out.2.2.1.below HE.out.2) H.out.2.1 (H.out.1.next HE.out.2) _ H.out.2.2.2).mono ?_
    rintro e w1 ⟨b, rfl, hl1, hb1⟩
    have HF := Lib.hid (And.intro hl1 (HE.out.2.trans (hb1.mono HE.out.2.size)))
    clear hl1 hb1
    go_wp2_with fail
    go_ret2
    exact ⟨_, rfl, HF.out.1, HF.out.2⟩
  · rename_i hcr
    obtain ⟨K, R, rfl, rfl, ho⟩ := chkR_none hcr
    have h4 := ho.k4
    have h3 := ho.r3
    have hle := hl.le
    have hcap := hl.cap
    unfold maxLen at hcap
    have hmx : m ≤ 9223372036854775807 := by omega
    have wR : IntKind.i64.wrap (2 * (R : Int)) = 2 * (R : Int) := by rw [IntWalk.i64_in _ (by omega)]
    obtain ⟨R2, hR2⟩ : ∃ R2 : Nat, 2 * R + 1 = R2 := ⟨_, rfl⟩
    have wR2 : IntKind.i64.wrap (2 * (R : Int) + 1) = (R2 : Int) := by rw [IntWalk.i64_in _ (by omega)]; omega
    split at hc
    · obtain ⟨rfl, rfl⟩ := Prod.mk.inj (Option.some.inj hc)
      rename_i hne
      have hne' : ((m : Int) == (R2 : Int)) = false := by rw [beq_eq_false_iff_ne]; omega
      have hne2 : ((m : Int) != (R2 : Int)) = true := by rw [bne, hne']; rfl
      have H := Lib.hid (And.intro h (And.intro hn (And.intro hr ho)))
      clear h hn hr hcr hc hm hl ho hne hle hcap hR2
      go_enter Tryd.func22, Tryd.ntmps22
      go_wp2_with fail
      obtain ⟨w0, hw0⟩ : ∃ w0, w0 = w.alloc (.cells #[.int .i64 (K : Int), .int .i64 (R : Int), .slice p n c] 24) := ⟨_, rfl⟩
      rw [← hw0]
      obtain ⟨hb0, hE0⟩ := ST.out w0 hw0
      obtain ⟨⟨hf0, hf1, hf2⟩, hc0, hc1, hc2⟩ := hE0.facts
      have HE := Lib.hid (And.intro hE0 hb0)
      clear hw0 hE0 hb0
      go_wp2_with fail
      refine (rcheck_ok K R p n c t w0 H.out.2.1 (H.out.1.next HE.out.2) H.out.2.2.2).mono ?_
      rintro e w1 ⟨rfl, hb1⟩
      have H1 := Lib.hid (And.intro (HE.out.1.next hb1) (HE.out.2.trans (hb1.mono HE.out.2.size)))
      clear hb1 hf0 hf1 hf2 hc0 hc1 hc2
      obtain ⟨⟨hf0, hf1, hf2⟩, hc0, hc1, hc2⟩ := H1.out.1.facts
      go_wp2_with fail
      refine (new_at ruleOp 0 3 w1 A (H.out.2.2.1.below H1.out.2) (by omega)).mono ?_
      rintro e w2 ⟨b, rfl, hl2, hb2⟩
      have HF := Lib.hid (And.intro hl2 (H1.out.2.trans (hb2.mono H1.out.2.size)))
      clear hl2 hb2
      go_wp2_with fail
      go_ret2
      exact ⟨_, rfl, HF.out.1, HF.out.2⟩
    · rename_i hlen
      obtain ⟨j, hj, he⟩ := Option.map_eq_some_iff.1 hc
      obtain ⟨rfl, rfl⟩ := Prod.mk.inj he
      have hjl := strayN_lt hj
      have hst := strayN_bad hj
      have hjm : j < m := by omega
      have wR2' : IntKind.i64.wrap (2 * (R : Int) + 1) = (m : Int) := by rw [IntWalk.i64_in _ (by omega)]; omega
      have H := Lib.hid (And.intro h (And.intro hn (And.intro hr (And.intro ho (And.intro hst (And.intro hl hm))))))
      clear h hn hr hcr hc hm hl ho hle hcap hR2 wR2 hst hjl hj hlen he
      go_enter Tryd.func22, Tryd.ntmps22
      go_wp2_with fail
      obtain ⟨w0, hw0⟩ : ∃ w0, w0 = w.alloc (.cells #[.int .i64 (K : Int), .int .i64 (R : Int), .slice p n c] 24) := ⟨_, rfl⟩
      rw [← hw0]
      obtain ⟨hb0, hE0⟩ := ST.out w0 hw0
      obtain ⟨⟨hf0, hf1, hf2⟩, hc0, hc1, hc2⟩ := hE0.facts
      have HE := Lib.hid (And.intro hE0 hb0)
      clear hw0 hE0 hb0
      go_wp2_with fail
      refine (rcheck_ok K R p n c t w0 H.out.2.1 (H.out.1.next HE.out.2) H.out.2.2.2.1).mono ?_
      rintro e w1 ⟨rfl, hb1⟩
      have H1 := Lib.hid (And.intro (HE.out.1.next hb1) (HE.out.2.trans (hb1.mono HE.out.2.size)))
      clear hb1 hf0 hf1 hf2 hc0 hc1 hc2
      obtain ⟨⟨hf0, hf1, hf2⟩, hc0, hc1, hc2⟩ := H1.out.1.facts
      go_wp2_with fail
      refine (stray_any (K : Int) q m d l w1 H.out.2.2.2.2.2.2 (H.out.2.2.2.2.2.1.next H1.out.2)).mono ?_
      rintro e w2 ⟨rfl, rfl⟩
      rw [H.out.2.2.2.2.1]
      go_wp2_with fail
      refine (new_at ruleOp j 2 w1 A (H.out.2.2.1.below H1.out.2) (by omega)).mono ?_
      rintro e w2 ⟨b, rfl, hl2, hb2⟩
      have HF := Lib.hid (And.intro hl2 (H1.out.2.trans (hb2.mono H1.out.2.size)))
      clear hl2 hb2
      go_wp2_with fail
      go_ret2
      exact ⟨_, rfl, HF.out.1, HF.out.2⟩
end Go.Proofs.YthafjbegkifekaaDoor
end
section
namespace Go.Proofs.YthafjbegkifekaaDoor
open Go.RowKit Go.Extern.Stop Go.Stop Go.Extern WordM RuleM

set_option maxRecDepth 100000 in
set_option maxHeartbeats 2000000 in
theorem step_short (k r : Nat) (p q : Option Addr) (n c m d : Nat) (t l : List Int) (w : World) (hn : n = t.length) (hm : m = l.length) (h : IntV w.heap.size w p c t) (hl : IntV w.heap.size w q d l) (ho : OkR k r t) (hlen : m ≤ 2 * r) (hw : okW k l) :
    Calls Tryd.prog 20 #[.agg #[.int .i64 (k : Int), .int .i64 (r : Int), .slice p n c], .slice q m d] w (IntOk w (imgW k r t l)) := by
  have h4 := ho.k4
  have h3 := ho.r3
  have hle := hl.le
  have hcap := hl.cap
  unfold maxLen at hcap
  have hmd : m ≤ d := by omega
  have hst := strayN_ok hw
  rw [← hm] at hst
  have hnil := imgW_nil (k := k) (t := t) (w := l) (r := r) (by omega)
  have H := Lib.hid (And.intro h (And.intro hn (And.intro ho (And.intro hst (And.intro hl (And.intro hm hnil))))))
  clear h hn ho hst hl hm hw hle hnil
  obtain ⟨R2, hR2⟩ : ∃ R2 : Nat, 2 * r = R2 := ⟨_, rfl⟩
  have w2r : IntKind.i64.wrap (2 * (r : Int)) = (R2 : Int) := by rw [IntWalk.i64_in _ (by omega)]; omega
  have hmR : m ≤ R2 := by omega
  have hm4 : ¬ 4096 < m := by omega
  clear hR2 hlen
  go_enter Tryd.func20, Tryd.ntmps20
  go_wp2_with fail
  obtain ⟨w0, hw0⟩ : ∃ w0, w0 = w.alloc (.cells #[.int .i64 (k : Int), .int .i64 (r : Int), .slice p n c] 24) := ⟨_, rfl⟩
  have hb0 : Below w.heap.size w w0 := by rw [hw0]; exact (Below.refl _ _).alloc (Nat.le_refl _) _
  have hE0 : Rul3 w0 w.heap.size (.int .i64 (k : Int)) (.int .i64 (r : Int)) (.slice p n c) := by rw [hw0]; exact Rul3.new w _ _ _
  rw [← hw0]
  obtain ⟨⟨hf0, hf1, hf2⟩, hc0, hc1, hc2⟩ := hE0.facts
  have HE := Lib.hid (And.intro hE0 hb0)
  clear hw0 hE0 hb0
  go_wp2_with fail
  refine (rcheck_ok k r p n c t w0 H.out.2.1 (H.out.1.next HE.out.2) H.out.2.2.1).mono ?_
  rintro e w1 ⟨rfl, hb1⟩
  have H1 := Lib.hid (And.intro (HE.out.1.next hb1) (HE.out.2.trans (hb1.mono HE.out.2.size)))
  clear hb1 hf0 hf1 hf2 hc0 hc1 hc2
  obtain ⟨⟨hf0, hf1, hf2⟩, hc0, hc1, hc2⟩ := H1.out.1.facts
  go_wp2_with fail
  refine (stray_any (k : Int) q m d l w1 H.out.2.2.2.2.2.1 (H.out.2.2.2.2.1.next H1.out.2)).mono ?_
  rintro e w2 ⟨rfl, rfl⟩
  rw [H.out.2.2.2.1]
  go_wp2_with fail
  go_ret2
  exact ⟨none, 0, by rw [H.out.2.2.2.2.2.2]; rfl, by rw [H.out.2.2.2.2.2.2]; exact IntO.nothing _ _, H1.out.2⟩

def StepRel (w1 : World) (k S m R2 u : Nat) (l I : List Int) (v9 v46 : Value) (wr : World) : Prop :=
  ∃ j : Nat, j ≤ m ∧ v46 = .int .i64 (j : Int) ∧ v9 = .int .i64 ((valW k (l.take j) % S : Nat) : Int) ∧ IntO w1.heap.size wr (some ⟨w1.heap.size, 0, none⟩) u (I.take (j - R2) ++ List.replicate (u - (j - R2)) 0) ∧ Below w1.heap.size w1 wr
set_option maxRecDepth 100000 in
set_option maxHeartbeats 4000000 in
theorem step_long (k r : Nat) (p q : Option Addr) (n c m d : Nat) (t l : List Int) (w : World) (hn : n = t.length) (hm : m = l.length) (h : IntV w.heap.size w p c t) (hl : IntV w.heap.size w q d l) (ho : OkR k r t) (hlen : 2 * r < m) (hm4 : m ≤ 4096) (hw : okW k l) :
    Calls Tryd.prog 20 #[.agg #[.int .i64 (k : Int), .int .i64 (r : Int), .slice p n c], .slice q m d] w (IntOk w (imgW k r t l)) := by
  have h1 := ho.k1
  have h4 := ho.k4
  have h3 := ho.r3
  have hle := hl.le
  have hcap := hl.cap
  have hcap2 := h.cap
  have hle2 := h.le
  unfold maxLen at hcap hcap2
  have hmd : m ≤ d := by omega
  have hnc : n ≤ c := by omega
  have hst := strayN_ok hw
  rw [← hm] at hst
  have hn16 : n ≤ 16384 := by rw [hn, ho.len]; exact pow_le h4 h3
  have hn1 : 1 ≤ n := by rw [hn, ho.len]; exact pow_pos h1
  obtain ⟨R2, hR2⟩ : ∃ R2 : Nat, 2 * r = R2 := ⟨_, rfl⟩
  have hS : n = k ^ (R2 + 1) := by rw [hn, ho.len, hR2]
  have hil := imgW_length k r t l
  have hig := fun i => @imgW_get k r t l i
  rw [hR2] at hil hig
  obtain ⟨I, hI⟩ : ∃ I, imgW k r t l = I := ⟨_, rfl⟩
  rw [hI] at hil ⊢
  simp only [hI] at hig
  obtain ⟨u, hu⟩ : ∃ u, m - R2 = u := ⟨_, rfl⟩
  have hIu : I.length = u := by rw [hil, ← hm, hu]
  have w2r : IntKind.i64.wrap (2 * (r : Int)) = (R2 : Int) := by rw [IntWalk.i64_in _ (by omega)]; omega
  have wmu : IntKind.i64.wrap ((m : Int) - (R2 : Int)) = (u : Int) := by rw [IntWalk.i64_in _ (by omega)]; omega
  have hmR : ¬ m ≤ R2 := by omega
  have hR6 : R2 ≤ 6 := by omega
  have hu4 : u ≤ 4096 := by omega
  have hmk := makeI u (by omega)
  have H := Lib.hid (And.intro h (And.intro hn (And.intro ho (And.intro hst (And.intro hl (And.intro hm (And.intro hig (And.intro hIu (And.intro hS (And.intro hw hu))))))))))
  clear h hn ho hst hl hm hw hle hle2 hig hIu hil hI hS hlen hR2 hu
  go_enter Tryd.func20, Tryd.ntmps20
  go_wp2_with fail
  obtain ⟨w0, hw0⟩ : ∃ w0, w0 = w.alloc (.cells #[.int .i64 (k : Int), .int .i64 (r : Int), .slice p n c] 24) := ⟨_, rfl⟩
  have hb0 : Below w.heap.size w w0 := by rw [hw0]; exact (Below.refl _ _).alloc (Nat.le_refl _) _
  have hE0 : Rul3 w0 w.heap.size (.int .i64 (k : Int)) (.int .i64 (r : Int)) (.slice p n c) := by rw [hw0]; exact Rul3.new w _ _ _
  rw [← hw0]
  obtain ⟨⟨hf0, hf1, hf2⟩, hc0, hc1, hc2⟩ := hE0.facts
  have HE := Lib.hid (And.intro hE0 hb0)
  clear hw0 hE0 hb0
  go_wp2_with fail
  refine (rcheck_ok k r p n c t w0 H.out.2.1 (H.out.1.next HE.out.2) H.out.2.2.1).mono ?_
  rintro e w1 ⟨rfl, hb1⟩
  have H1 := Lib.hid (And.intro (HE.out.1.next hb1) (HE.out.2.trans (hb1.mono HE.out.2.size)))
  clear hb1 hf0 hf1 hf2 hc0 hc1 hc2
  obtain ⟨⟨hf0, hf1, hf2⟩, hc0, hc1, hc2⟩ := H1.out.1.facts
  have hs01 : w.heap.size < w1.heap.size := H1.out.1.lt
  go_wp2_with fail
  refine (stray_any (k : Int) q m d l w1 H.out.2.2.2.2.2.1 (H.out.2.2.2.2.1.next H1.out.2)).mono ?_
  rintro e w2 ⟨rfl, rfl⟩
  rw [H.out.2.2.2.1]
  have hmk1 := hmk w1
  have ho0 := IntO.made w1 u (by omega)
  have hbm : Below w1.heap.size w1 (w1.alloc (.cells (madeCells #[.int .i64 0] u) 3)) := (Below.refl _ _).alloc (Nat.le_refl _) _
  have HO := Lib.hid (And.intro ho0 hbm)
  clear hmk ho0 hbm
  go_wp2_with fail
  clear hmk1
  go_loopw [9, 46] (fun v9 v46 wr => StepRel w1 k n m R2 u l I v9 v46 wr) (fun _ v _ => m - (intOf v).toNat)
  case atStart => exact ⟨0, Nat.zero_le _, rfl, by simp [valW], by simpa using HO.out.1, HO.out.2⟩
  case round =>
    obtain ⟨j, hj, rfl, rfl, ho, hb⟩ := hrel
    have hbw : Below w.heap.size w wr := H1.out.2.trans (hb.mono H1.out.2.size)
    have hBx := H1.out.1.next hb
    clear hf0 hf1 hf2 hc0 hc1 hc2
    obtain ⟨⟨hf0, hf1, hf2⟩, hc0, hc1, hc2⟩ := hBx.facts
    by_cases hlt : j < m
    · have hml := H.out.2.2.2.2.2.1
      obtain ⟨b, off, rfl, hbb, hc⟩ := H.out.2.2.2.2.1.cell (by rintro rfl; simp at hml; omega)
      obtain ⟨x, hx⟩ := getI (l := l) (k := j) (by omega)
      have hcx : wr.cell? ⟨b, off + j, none⟩ = some (.int .i64 x) := (hbw.cell (p := ⟨b, off + j, none⟩) hbb).trans (hc j x hx)
      have hxo := H.out.2.2.2.2.2.2.2.2.2.1 x (List.mem_of_getElem? hx)
      have hstep := step_mod (k := k) (S := n) hx
      obtain ⟨y, rfl⟩ : ∃ y : Nat, x = (y : Int) := ⟨x.toNat, by omega⟩
      rw [Int.toNat_natCast] at hstep
      have hv1 : valW k (l.take j) % n < n := Nat.mod_lt _ (by omega)
      have hv2 : valW k (l.take (j + 1)) % n < n := Nat.mod_lt _ (by omega)
      obtain ⟨v, hv⟩ : ∃ v, valW k (l.take j) % n = v := ⟨_, rfl⟩
      obtain ⟨z, hz⟩ : ∃ z, valW k (l.take (j + 1)) % n = z := ⟨_, rfl⟩
      rw [hv] at hstep hv1 ⊢
      rw [hz] at hstep hv2
      obtain ⟨a, ha⟩ : ∃ a, v * k = a := ⟨_, rfl⟩
      have ha16 : a ≤ 16384 * 4 := by rw [← ha]; exact Nat.mul_le_mul (by omega) h4
      have hvk : ((v : Int) * (k : Int)) = (a : Int) := by rw [← ha]; push_cast; rfl
      rw [ha] at hstep
      have wvk : IntKind.i64.wrap ((v : Int) * (k : Int)) = (a : Int) := by rw [hvk, IntWalk.i64_in _ (by omega)]
      have wax : IntKind.i64.wrap ((a : Int) + (y : Int)) = (a : Int) + (y : Int) := by rw [IntWalk.i64_in _ (by omega)]
      have e1 : ((a : Int) + (y : Int)) % (n : Int) = (z : Int) := by rw [← hstep]; push_cast; rfl
      have t1 : ((a : Int) + (y : Int)).tmod (n : Int) = (z : Int) := by rw [Int.tmod_eq_emod_of_nonneg (by omega), e1]
      have hn0 : ¬ (n : Int) = 0 := by omega
      by_cases hjR : j < R2
      · have e2 : j - R2 = 0 := by omega
        have e3 : j + 1 - R2 = 0 := by omega
        rw [e2] at ho
        have HS := Lib.hid (And.intro hz (And.intro hb (And.intro ho e3)))
        clear hc hx hv hz ha hvk hstep hml hb ho hbw hBx e2 e3
        go_wp2_with fail
        go_roundw
        case rel => exact ⟨j + 1, by omega, by go_num, by rw [HS.out.1], by rw [HS.out.2.2.2]; exact HS.out.2.2.1, HS.out.2.1⟩
        case measure => simp [intOf]; omega
      · obtain ⟨i, hi⟩ : ∃ i, j - R2 = i := ⟨_, rfl⟩
        have hiu : i < u := by have := H.out.2.2.2.2.2.2.2.2.2.2; omega
        have wji : IntKind.i64.wrap ((j : Int) - (R2 : Int)) = (i : Int) := by rw [IntWalk.i64_in _ (by omega)]; omega
        have hIi := H.out.2.2.2.2.2.2.1 i (by have := H.out.2.2.2.2.2.2.2.2.2.2; omega)
        have hwm := win_mod (k := k) (w := l) (i := i) (n := R2 + 1) H.out.2.2.2.2.2.2.2.2.2.1 (by omega)
        rw [show i + (R2 + 1) = j + 1 by omega, ← H.out.2.2.2.2.2.2.2.2.1, hz] at hwm
        rw [← hwm] at hIi
        have hzt : z < t.length := by have := H.out.2.1; omega
        have hg := ent_get hzt
        obtain ⟨b2, off2, rfl, hb2, hc2'⟩ := H.out.1.cell (by rintro rfl; simp at hzt)
        have hcz : wr.cell? ⟨b2, off2 + z, none⟩ = some (.int .i64 (ent t z)) := (hbw.cell (p := ⟨b2, off2 + z, none⟩) hb2).trans (hc2' _ _ hg)
        obtain ⟨f, hf⟩ : ∃ f, ent t z = f := ⟨_, rfl⟩
        rw [hf] at hcz hIi
        rw [hi] at ho
        have hput := put_next hIi hiu
        have hmid := mid_len (l := I) (j := i) (n := u) (by have := H.out.2.2.2.2.2.2.2.1; omega) (by omega)
        obtain ⟨xs, hxs⟩ : ∃ xs, I.take i ++ List.replicate (u - i) (0 : Int) = xs := ⟨_, rfl⟩
        rw [hxs] at ho hput hmid
        have hown : wr.ownsRow w1.heap.size 3 1 (.slice (some ⟨w1.heap.size, 0, none⟩) u u) u (cI xs) := by
          unfold IntO at ho
          rwa [hmid] at ho
        obtain ⟨y0, hy0⟩ := getI (l := xs) (k := i) (by omega)
        have hcy : wr.cell? ⟨w1.heap.size, i, none⟩ = some (.int .i64 y0) := (hown.cellAt i (by omega)).trans (cI_get hy0)
        have hfy : wr.frozen? ⟨w1.heap.size, i, none⟩ = false := hown.frozenAt i
        obtain ⟨s1, t1'⟩ := hown.stored i (.int .i64 f)
        rw [← cI_set, hput] at s1
        have hb1 : Below w1.heap.size w1 (wr.setCell ⟨w1.heap.size, i, none⟩ (.int .i64 f)) := hb.setCell (p := ⟨w1.heap.size, i, none⟩) (Nat.le_refl _) _
        have hmid1 := mid_len (l := I) (j := i + 1) (n := u) (by have := H.out.2.2.2.2.2.2.2.1; omega) (by omega)
        have hij : j + 1 - R2 = i + 1 := by omega
        have HS := Lib.hid (And.intro hz (And.intro hb1 (And.intro s1 (And.intro hmid1 hij))))
        have hzn : z < n := hv2
        clear hc hx hv hz ha hvk hstep hml hb ho hbw hBx hi hIi hwm hzt hg hf hput hmid hxs hown s1 t1' hb1 hmid1 hij hc2' hy0
        go_wp2_with fail
        go_region
        go_wp2_with fail
        go_roundw
        case rel => exact ⟨j + 1, by omega, by go_num, by rw [HS.out.1], by rw [HS.out.2.2.2.2]; unfold IntO; rw [HS.out.2.2.2.1]; exact HS.out.2.2.1, HS.out.2.1.drew⟩
        case measure => simp [intOf]; omega
    · obtain rfl : j = m := by omega
      have hju : j - R2 = u := H.out.2.2.2.2.2.2.2.2.2.2
      have hIu := H.out.2.2.2.2.2.2.2.1
      have he : I.take u ++ List.replicate (u - u) (0 : Int) = I := by rw [Nat.sub_self, List.replicate_zero, List.append_nil, ← hIu, List.take_length]
      rw [hju, he] at ho
      have HF := Lib.hid (And.intro (ho.base (Nat.le_of_lt hs01)) hbw)
      clear ho hb he hbw hBx hju hIu
      go_wp2_with fail
      go_ret2
      exact ⟨_, _, by rw [H.out.2.2.2.2.2.2.2.1]; rfl, HF.out.1, HF.out.2⟩
end Go.Proofs.YthafjbegkifekaaDoor
end
section
namespace Go.Proofs.YthafjbegkifekaaDoor
open Go.RowKit Go.Extern.Stop Go.Stop Go.Extern WordM NatM

/-- bytes in a block of the call's own -/
def ByteO (base : Nat) (w : World) (g n : Nat) (l : List Nat) : Prop := w.ownsRow base 5 1 (.slice (some ⟨g, 0, none⟩) n n) n (cells8 l)
theorem ByteO.made (w : World) (n : Nat) (hn : n ≤ 17592186044000) : ByteO w.heap.size (w.alloc (.cells (madeCells #[.int .u8 0] n) 5)) w.heap.size n (List.replicate n 0) := by
  refine ⟨by simp [cells8], Or.inr ⟨w.heap.size, n, madeCells #[.int .u8 0] n, rfl, Nat.le_refl _, heap_newN _ _, Nat.le_refl _, by unfold maxLen; omega, by rw [size_madeCells, Nat.mul_one], ?_⟩⟩
  rw [madeI_list, Nat.mul_one, List.take_of_length_le (by simp)]
  simp [cells8]

/-- the digits of a word's text -/
def txL (l : List Int) : List Nat := l.map fun x => 48 + x.toNat
def txW (l : List Int) : ByteArray := strOfNums ((txL l).map fun (d : Nat) => (d : Int))
theorem txL_length (l : List Int) : (txL l).length = l.length := by simp [txL]
theorem txL_get {l : List Int} {j : Nat} {x : Int} (h : l[j]? = some x) : (txL l)[j]? = some (48 + x.toNat) := by simp [txL, h]
theorem txW_size (l : List Int) : (txW l).size = l.length := by unfold txW; rw [strOfNums_size, List.length_map, txL_length]
/-- read back -/
theorem sW_txW {k : Nat} (hk : k ≤ 4) {l : List Int} (h : okW k l) : sW (txW l) = l := by
  unfold sW txW
  rw [bsOf_strOfNums]
  · unfold txL
    rw [List.map_map]
    conv => rhs; rw [← List.map_id l]
    apply List.map_congr_left
    intro x hx
    have := h x hx
    simp
    omega
  · intro x hx
    unfold txL at hx
    obtain ⟨y, hy, rfl⟩ := List.mem_map.1 hx
    have := h y hy
    omega
/-- written again -/
theorem txW_sW {k : Nat} {s : ByteArray} (h : okW k (sW s)) : txW (sW s) = s := by
  unfold txW
  have e : txL (sW s) = bsOf s := by
    unfold txL
    unfold sW at h ⊢
    rw [List.map_map]
    conv => rhs; rw [← List.map_id (bsOf s)]
    apply List.map_congr_left
    intro x hx
    have := h ((x : Int) - 48) (List.mem_map.2 ⟨x, hx, rfl⟩)
    simp
    omega
  rw [e, strOfNums_bsOf]
theorem put_nextB {l : List Nat} {j n x : Nat} (h : l[j]? = some x) (hj : j < n) : (l.take j ++ List.replicate (n - j) 0).set j x = l.take (j + 1) ++ List.replicate (n - (j + 1)) 0 := by
  have hl := (List.getElem?_eq_some_iff.1 h).1
  rw [List.set_append_right _ _ (by rw [List.length_take]; omega), List.length_take, Nat.min_eq_left (by omega), Nat.sub_self, List.take_add_one, h]
  obtain ⟨m, hm⟩ : ∃ m, n - j = m + 1 := ⟨n - j - 1, by omega⟩
  rw [hm, show n - (j + 1) = m by omega, List.replicate_succ]
  simp

/-- a text, and no error -/
def StrOk (w : World) (s : ByteArray) (e : Ending) (w' : World) : Prop := e = .returned (.tuple #[.string s, .nilIface]) ∧ Below w.heap.size w w'
def TextWRel (w : World) (n g : Nat) (l : List Int) (v : Value) (wr : World) : Prop :=
  ∃ j : Nat, j ≤ n ∧ v = .int .i64 (j : Int) ∧ ByteO w.heap.size wr g n ((txL l).take j ++ List.replicate (n - j) 0) ∧ Below w.heap.size w wr
end Go.Proofs.YthafjbegkifekaaDoor
end
section
namespace Go.Proofs
open Go.Shelf
shelf_tried
end Go.Proofs
end
section
namespace Go.Proofs.YthafjbegkifekaaDoor
open Go.RowKit WordM

theorem sizeI : (Tryd.prog.info? 3).map (·.size) = some 1 := by kernel_rfl
theorem cI_one {l : List Int} {v : Value} (h : v ∈ cI l) : v.oneCell' = true := by
  unfold cI at h
  obtain ⟨x, _, rfl⟩ := List.mem_map.1 h
  rfl
/-- the first k of them, the rest 0 -/
def fillW (X : List Int) (k : Nat) : List Int := X.take k ++ List.replicate (X.length - k) 0
theorem fillW_length {X : List Int} {k : Nat} (hk : k ≤ X.length) : (fillW X k).length = X.length := by simp [fillW]; omega
theorem fillW_zero (X : List Int) : fillW X 0 = List.replicate X.length 0 := by simp [fillW]
theorem fillW_all (X : List Int) : fillW X X.length = X := by simp [fillW]
theorem splice_fill {X cs : List Int} {k : Nat} (hk : k + cs.length ≤ X.length) (hcs : ∀ j, j < cs.length → cs[j]? = X[k + j]?) : splice (cI (fillW X k)) k (cI cs) = cI (fillW X (k + cs.length)) := by
  have e : cs = (X.drop k).take cs.length := by
    apply List.ext_getElem?
    intro j
    rw [List.getElem?_take, List.getElem?_drop]
    by_cases hj : j < cs.length
    · rw [if_pos hj, hcs j hj]
    · rw [if_neg hj, List.getElem?_eq_none (by omega)]
  have e2 : X.take (k + cs.length) = X.take k ++ cs := by
    rw [List.take_add]
    congr 1
    exact e.symm
  unfold splice fillW
  rw [e2]
  simp only [cI_app]
  have hl : (cI (X.take k)).length = k := by rw [cI_length, List.length_take]; omega
  rw [List.take_append_of_le_length (by rw [hl]; exact Nat.le_refl _), List.take_of_length_le (by rw [hl]; exact Nat.le_refl _), cI_length, List.drop_append, hl]
  have h0 : (cI (X.take k)).drop (k + cs.length) = [] := List.drop_eq_nil_of_le (by omega)
  rw [h0, List.nil_append, List.append_assoc]
  congr 2
  unfold cI
  rw [← List.map_drop, List.drop_replicate]
  congr 2
  omega
theorem times_shift {l : List Int} {m k j : Nat} (hd : l.length ∣ k) (hj : k + j < m * l.length) : (timesW l m)[j]? = (timesW l m)[k + j]? := by
  rw [timesW_get l m _ hj, timesW_get l m _ (by omega)]
  congr 1
  obtain ⟨q, rfl⟩ := hd
  unfold F
  rw [Nat.mul_add_mod]
theorem times_front {l : List Int} {m j : Nat} (hj : j < l.length) (hm : 1 ≤ m) : l[j]? = (timesW l m)[0 + j]? := by
  rw [Nat.zero_add, timesW_get l m _ (by have := Nat.mul_le_mul_right l.length hm; omega), F_get hj]
/-- block g is a whole list of ints -/
def BlockI (w : World) (g : Nat) (l : List Int) : Prop := w.heap[g]? = some (.cells (cI l).toArray 3 (0, 0))
theorem BlockI.eq {w : World} {g : Nat} {l : List Int} (h : BlockI w g l) : w.heap[g]? = some (.cells (cI l).toArray 3 (0, 0)) := h
theorem BlockI.cell {w : World} {g : Nat} {l : List Int} (h : BlockI w g l) {j : Nat} {x : Int} (hx : l[j]? = some x) : w.cell? ⟨g, j, none⟩ = some (.int .i64 x) := by
  rw [cell_of_row w g j _ _ _ h, List.getElem?_toArray]
  exact cI_get hx
def RepRel (w : World) (l X : List Int) (g : Nat) (v : Value) (wr : World) : Prop :=
  ∃ k : Nat, k ≤ X.length ∧ (0 < X.length → 0 < k) ∧ l.length ∣ k ∧ v = .int .i64 (k : Int) ∧ BlockI wr g (fillW X k) ∧ Below w.heap.size w wr

end Go.Proofs.YthafjbegkifekaaDoor
end
section
namespace Go.Proofs.YthafjbegkifekaaDoor
open Go.RowKit Go.Extern.Stop Go.Stop Go.Extern WordM NatM

end Go.Proofs.YthafjbegkifekaaDoor
end
section
namespace Go.Proofs.YthafjbegkifekaaDoor
open Go.RowKit Go.Extern.Stop Go.Stop Go.Extern WordM NatM

/-- a number and no error, both new -/
def NumOk (w : World) (n : Nat) (e : Ending) (w' : World) : Prop :=
  ∃ p c, e = .returned (.tuple #[.slice p (D32 n).length c, .nilIface]) ∧ NatO w.heap.size w' p c (D32 n) ∧ Below w.heap.size w w'
theorem valW_len {k : Nat} {l : List Int} (h4 : k ≤ 4) (h : okW k l) : (D32 (valW k l)).length ≤ l.length := by
  apply D32_len
  exact Nat.lt_of_lt_of_le (valW_lt h) (Nat.pow_le_pow_left (by omega) _)
theorem valW_take {k : Nat} {l : List Int} {j : Nat} {x : Int} (h : l[j]? = some x) : valW k (l.take (j + 1)) = valW k (l.take j) * k + x.toNat := by
  rw [List.take_add_one, h]
  exact valW_snoc k _ x
def IndexRel (w : World) (k : Nat) (l : List Int) (v8 v26 : Value) (wr : World) : Prop :=
  ∃ (j : Nat) (p : Option Addr) (c : Nat), j ≤ l.length ∧ v26 = .int .i64 (j : Int) ∧ v8 = .slice p (D32 (valW k (l.take j))).length c ∧ NatO w.heap.size wr p c (D32 (valW k (l.take j))) ∧ Below w.heap.size w wr
set_option maxRecDepth 100000 in
set_option maxHeartbeats 4000000 in
theorem index_ok (k : Nat) (p : Option Addr) (n c : Nat) (l : List Int) (w : World) (hn : n = l.length) (h : IntV w.heap.size w p c l) (hc : chkW k l = none) (h256 : n ≤ 256) :
    Calls Tryd.prog 51 #[.int .i64 (k : Int), .slice p n c] w (NumOk w (valW k l)) := by
  have hck := check_ok (k : Int) p n c l w hn h hc
  obtain ⟨k', hk', h1, h4, hl, ho⟩ := chkW_none hc
  obtain rfl : k = k' := by omega
  have hle := h.le
  have hcap := h.cap
  unfold maxLen at hcap
  have hnc : n ≤ c := by omega
  have H := Lib.hid (And.intro h (And.intro ho hn))
  have HCK := Lib.hid hck
  clear h hc hl ho hck hn hle hk'
  go_enter Tryd.func51, Tryd.ntmps51
  go_wp2_with fail
  refine HCK.out.mono ?_
  rintro e w1 ⟨rfl, hb1⟩
  have HB1 := Lib.hid hb1
  clear hb1
  go_wp2_with fail
  refine (from_any k w1 (by omega)).mono ?_
  rintro e w2 ⟨p7, c7, rfl, ho7, hb2⟩
  have hkl : (D32 k).length ≤ 100000 := by
    have := D32_len (n := k) (k := 1) (by omega)
    omega
  have HB2 := Lib.hid (And.intro (HB1.out.trans (hb2.mono HB1.out.size)) (And.intro ho7.toV hkl))
  clear hb2 ho7 hkl
  go_wp2_with fail
  go_loopw [8, 26] (fun v8 v26 wr => IndexRel w2 k l v8 v26 wr) (fun _ v _ => n - (intOf v).toNat)
  case atStart => exact ⟨0, none, 0, Nat.zero_le _, rfl, by rw [List.take_zero, show valW k [] = 0 from rfl, D32_nil.2 rfl]; rfl, by rw [List.take_zero, show valW k [] = 0 from rfl, D32_nil.2 rfl]; exact NatO.nothing _ _, Below.refl _ _⟩
  case round =>
    obtain ⟨j, q, cq, hj, rfl, rfl, hoq, hb⟩ := hrel
    have hjn : j ≤ n := by have := H.out.2.2; omega
    by_cases hlt : j < n
    · have hnl := H.out.2.2
      obtain ⟨b, off, rfl, hbb, hcc⟩ := ((H.out.1.next HB2.out.1).next hb).cell (by rintro rfl; simp at hnl; omega)
      obtain ⟨x, hx⟩ := getI (l := l) (k := j) (by omega)
      have hcx := hcc j x hx
      have hxo := H.out.2.1 x (List.mem_of_getElem? hx)
      obtain ⟨y, rfl⟩ : ∃ y : Nat, x = (y : Int) := ⟨x.toNat, by omega⟩
      have hst := valW_take (k := k) hx
      rw [Int.toNat_natCast] at hst
      have hvl := valW_len h4 (okW_take H.out.2.1 j)
      have hvl2 := valW_len h4 (okW_take H.out.2.1 (j + 1))
      rw [List.length_take] at hvl hvl2
      obtain ⟨v, hv⟩ : ∃ v, valW k (l.take j) = v := ⟨_, rfl⟩
      rw [hv] at hoq hst hvl ⊢
      have hmul := mul_any q p7 cq c7 (D32 v) (D32 k) wr hoq.toV (HB2.out.2.1.next hb) (by omega) HB2.out.2.2
      rw [V32_D32, V32_D32] at hmul
      have hy4 : y ≤ 4 := by omega
      have hvm : (D32 (v * k)).length ≤ 100000 := by
        have h1 : v * k ≤ v * k + y := Nat.le_add_right _ _
        rw [hst] at hvl2
        rcases Nat.lt_or_ge 100000 (D32 (v * k)).length with h2 | h2
        · have := cmp_len (m := v * k + y) (n := v * k) (by omega)
          omega
        · exact h2
      have HS := Lib.hid (And.intro hst (And.intro hb (And.intro hmul hvm)))
      clear hcc hx hxo hst hvl hvl2 hv hoq hb hmul hvm hnl
      go_wp2_with fail
      refine HS.out.2.2.1.mono ?_
      rintro e w3 ⟨p3, c3, rfl, ho3, hb3⟩
      have HM := Lib.hid (And.intro ho3 hb3)
      clear ho3 hb3
      go_wp2_with fail
      refine (from_any y w3 (by omega)).mono ?_
      rintro e w4 ⟨p4, c4, rfl, ho4, hb4⟩
      have hyl : (D32 y).length ≤ 100000 := by
        have := D32_len (n := y) (k := 1) (by omega)
        omega
      have hadd := add_any p3 p4 c3 c4 (D32 (v * k)) (D32 y) w4 (HM.out.1.toV.next hb4) ho4.toV HS.out.2.2.2 hyl
      rw [V32_D32, V32_D32] at hadd
      have HA := Lib.hid (And.intro hadd (HM.out.2.trans (hb4.mono HM.out.2.size)))
      clear ho4 hb4 hyl hadd
      go_wp2_with fail
      refine HA.out.1.mono ?_
      rintro e w5 ⟨p5, c5, rfl, ho5, hb5⟩
      have hbb5 : Below w2.heap.size w2 w5 := HS.out.2.1.trans ((HA.out.2.trans (hb5.mono HA.out.2.size)).mono HS.out.2.1.size)
      have ho5' : NatO w2.heap.size w5 p5 c5 (D32 (v * k + y)) := ho5.base (Nat.le_trans HS.out.2.1.size HA.out.2.size)
      have HF := Lib.hid (And.intro ho5' hbb5)
      clear ho5 ho5' hb5 hbb5
      go_wp2_with fail
      go_roundw
      case rel => exact ⟨j + 1, p5, c5, by have := H.out.2.2; omega, by go_num, by rw [HS.out.1], by rw [HS.out.1]; exact HF.out.1, HF.out.2⟩
      case measure => simp [intOf]; omega
    · obtain rfl : j = n := by omega
      have he : l.take j = l := by rw [H.out.2.2, List.take_length]
      rw [he] at hoq ⊢
      have HF := Lib.hid (And.intro (hoq.base HB2.out.1.size) (HB2.out.1.trans (hb.mono HB2.out.1.size)))
      clear hoq hb he
      go_wp2_with fail
      go_ret2
      exact ⟨q, cq, rfl, HF.out.1, HF.out.2⟩
set_option maxRecDepth 100000 in
theorem index_bad (k : Int) (p : Option Addr) (n c : Nat) (l : List Int) (w : World) (A : Nat → Addr) (hr : Roots w A) (hn : n = l.length) (h : IntV w.heap.size w p c l) (i m : Nat) (hc : chkW k l = some (i, m)) :
    Calls Tryd.prog 51 #[.int .i64 k, .slice p n c] w (Err2 w A wordOp i m (.slice none 0 0)) := by
  have hck := check_bad k p n c l w A hr hn h i m hc
  have HCK := Lib.hid hck
  clear h hc hck hr hn
  go_enter Tryd.func51, Tryd.ntmps51
  go_wp2_with fail
  refine HCK.out.mono ?_
  rintro e w1 ⟨b, rfl, hl1, hb1⟩
  have H := Lib.hid (And.intro hl1 hb1)
  clear hl1 hb1
  go_wp2_with fail
  go_ret2
  exact ⟨_, rfl, H.out.1, H.out.2⟩
set_option maxRecDepth 100000 in
theorem index_big (k : Int) (p : Option Addr) (n c : Nat) (l : List Int) (w : World) (A : Nat → Addr) (hr : Roots w A) (hn : n = l.length) (h : IntV w.heap.size w p c l) (hc : chkW k l = none) (h256 : 256 < n) (hn2 : n ≤ 9223372036854775807) :
    Calls Tryd.prog 51 #[.int .i64 k, .slice p n c] w (Err2 w A wordOp 0 4 (.slice none 0 0)) := by
  have hck := check_ok k p n c l w hn h hc
  have HCK := Lib.hid (And.intro hck hr)
  clear h hc hck hr hn
  go_enter Tryd.func51, Tryd.ntmps51
  go_wp2_with fail
  refine HCK.out.1.mono ?_
  rintro e w1 ⟨rfl, hb1⟩
  have H1 := Lib.hid (And.intro hb1 (HCK.out.2.below hb1))
  clear hb1
  go_wp2_with fail
  refine (new_at wordOp 0 4 w1 A H1.out.2 (by omega)).mono ?_
  rintro e w2 ⟨b, rfl, hl1, hb2⟩
  have H := Lib.hid (And.intro hl1 (H1.out.1.trans (hb2.mono H1.out.1.size)))
  clear hl1 hb2
  go_wp2_with fail
  go_ret2
  exact ⟨_, rfl, H.out.1, H.out.2⟩
end Go.Proofs.YthafjbegkifekaaDoor
end
section
namespace Go.Proofs.YthafjbegkifekaaDoor
open Go.RowKit Go.Extern.Stop Go.Stop Go.Extern WordM NatM

/-- the word of n symbols with this number, and no error -/
def AtOk (w : World) (k n i : Nat) (e : Ending) (w' : World) : Prop := ∃ x : List Int, x.length = n ∧ okW k x ∧ valW k x = i ∧ IntOk w x e w'
def AtRel (w : World) (k n i : Nat) (g : Nat) (v2 v11 : Value) (wr : World) : Prop :=
  ∃ (j R : Nat) (x : List Int) (q : Option Addr) (cq : Nat) (b : List Nat), j ≤ n ∧ v11 = .int .i64 ((j : Int) - 1) ∧ v2 = .slice q b.length cq ∧ V32 b = R ∧ NatV wr.heap.size wr q cq b ∧ b.length ≤ 100000 ∧
    x.length = n - j ∧ okW k x ∧ valW k x + k ^ (n - j) * R = i ∧ IntO w.heap.size wr (some ⟨g, 0, none⟩) n (List.replicate j 0 ++ x) ∧ w.heap.size ≤ g ∧ Below w.heap.size w wr
def OverIs (w : World) (q d : Nat) (e : Ending) (w' : World) : Prop :=
  ∃ p c, e = .returned (.tuple #[.slice p (D32 q).length c, .int .u32 (d : Int), .nilIface]) ∧ NatO w.heap.size w' p c (D32 q) ∧ Below w.heap.size w w'
theorem over_is {w : World} {n d q r : Nat} {e : Ending} {w' : World} (hq : n / d = q) (hr : n % d = r) (h : OverPost w n d e w') : OverIs w q r e w' := by
  subst hq hr
  exact h
theorem set_front {x : List Int} {j : Nat} {v : Int} : (List.replicate (j + 1) (0 : Int) ++ x).set j v = List.replicate j 0 ++ v :: x := by
  rw [List.replicate_succ', List.append_assoc, List.set_append_right _ _ (by simp), List.length_replicate, Nat.sub_self]
  rfl
set_option maxRecDepth 100000 in
set_option maxHeartbeats 4000000 in
theorem at_ok (k n : Nat) (p : Option Addr) (m c : Nat) (a : List Nat) (w : World) (hm : m = a.length) (h : NatV w.heap.size w p c a) (hl : a.length ≤ 100000) (h1 : 1 ≤ k) (h4 : k ≤ 4) (h256 : n ≤ 256) (hlt : V32 a < k ^ n) :
    Calls Tryd.prog 56 #[.int .i64 (k : Int), .int .i64 (n : Int), .slice p m c] w (AtOk w k n (V32 a)) := by
  subst hm
  have hpow := pow_any k n (by omega) (by omega) w
  have hpl : (D32 (k ^ n)).length ≤ 100000 := by
    have h2 : k ^ n ≤ 4294967296 ^ n := Nat.pow_le_pow_left (by omega) n
    have h3 : 4294967296 ^ n < 4294967296 ^ (n + 1) := Nat.pow_lt_pow_right (by omega) (by omega)
    have := D32_len (n := k ^ n) (k := n + 1) (by omega)
    omega
  have hck := cmp_lt hlt
  have H := Lib.hid (And.intro h (And.intro hl (And.intro hlt (And.intro hpl (And.intro hck hpow)))))
  clear h hl hlt hpow hpl hck
  have hdn : decide ((n : Int) < 0) = false := by rw [decide_eq_false_iff_not]; omega
  go_enter Tryd.func56, Tryd.ntmps56
  go_wp2_with fail
  refine (alpha_yes _ _ (by omega) (by omega)).mono ?_
  rintro e w' ⟨rfl, rfl⟩
  go_wp2_with fail
  refine H.out.2.2.2.2.2.mono ?_
  rintro e w1 ⟨p1, c1, rfl, ho1, hb1⟩
  have hcmp := cmp_any p p1 c c1 a (D32 (k ^ n)) w1 (H.out.1.next hb1) ho1.toV
  have hcv : cmpV a (D32 (k ^ n)) = .int .i64 (-1) := by unfold cmpV; rw [V32_D32, H.out.2.2.2.2.1]
  rw [hcv] at hcmp
  have HB1 := Lib.hid (And.intro hb1 hcmp)
  clear ho1 hb1 hcmp hcv
  go_wp2_with fail
  refine HB1.out.2.mono ?_
  rintro e w2 ⟨rfl, hb2⟩
  have hmk := makeI n (by omega) w2
  have hb02 : Below w.heap.size w w2 := HB1.out.1.trans (hb2.mono HB1.out.1.size)
  have HB2 := Lib.hid hb02
  clear hb2 hb02
  go_wp2_with fail
  clear hmk
  have ho0 := IntO.made w2 n (by omega)
  have hbm : Below w.heap.size w (w2.alloc (.cells (madeCells #[.int .i64 0] n) 3)) := HB2.out.alloc HB2.out.size _
  obtain ⟨g, hg⟩ : ∃ g, g = w2.heap.size := ⟨_, rfl⟩
  rw [← hg] at ho0 ⊢
  have HM := Lib.hid (And.intro (ho0.base (by rw [hg]; exact HB2.out.size : w.heap.size ≤ g)) (And.intro hbm (by rw [hg]; exact HB2.out.size : w.heap.size ≤ g)))
  clear ho0 hbm hg
  go_loopw [2, 11] (fun v2 v11 wr => AtRel w k n (V32 a) g v2 v11 wr) (fun _ v _ => (intOf v + 1).toNat)
  case atStart => exact ⟨n, V32 a, [], p, c, a, Nat.le_refl _, rfl, rfl, rfl, H.out.1.next HM.out.2.1, H.out.2.1, by simp, okW_nil k, by rw [Nat.sub_self, Nat.pow_zero, Nat.one_mul]; exact Nat.zero_add _, by rw [List.append_nil]; exact HM.out.1, HM.out.2.2, HM.out.2.1⟩
  case round =>
    obtain ⟨j, R, x, q, cq, b, hj, rfl, rfl, hR, hbv, hbl, hxl, hxo, hxv, ho, hgB, hb⟩ := hrel
    rcases Nat.eq_zero_or_pos j with rfl | hj0
    · have hxa : valW k x = V32 a := at_done hxv (by rw [Nat.sub_zero]; exact H.out.2.2.1)
      rw [Nat.sub_zero] at hxl
      have ho' : IntO w.heap.size wr (some ⟨g, 0, none⟩) n x := ho
      have HF := Lib.hid (And.intro hxl (And.intro hxo (And.intro hxa (And.intro ho' hb))))
      clear hR hbv hbl hxl hxo hxv ho ho' hb hxa
      go_wp2_with fail
      go_ret2
      exact ⟨x, HF.out.1, HF.out.2.1, HF.out.2.2.1, _, _, by rw [HF.out.1]; rfl, HF.out.2.2.2.1, HF.out.2.2.2.2⟩
    · obtain ⟨i, rfl⟩ : ∃ i, j = i + 1 := ⟨j - 1, by omega⟩
      have e1 : (((i + 1 : Nat) : Int) - 1) = (i : Int) := by omega
      rw [e1]
      have hov := over_any q cq b k wr hbv hbl h1 (by omega)
      rw [hR] at hov
      have hq : (D32 (R / k)).length ≤ 100000 := by
        have h2 : R / k ≤ R := Nat.div_le_self _ _
        rcases Nat.lt_or_ge 100000 (D32 (R / k)).length with h3 | h3
        · have h5 : (D32 R).length ≤ b.length := by rw [← hR]; exact D32_le hbv.ok
          have := cmp_len (m := R) (n := R / k) (by omega)
          omega
        · exact h3
      have hst := at_step (k := k) (p := n - (i + 1)) (i := R) (i0 := V32 a) hxl hxv
      obtain ⟨d, hd⟩ : ∃ d, R % k = d := ⟨_, rfl⟩
      obtain ⟨Q, hQ⟩ : ∃ Q, R / k = Q := ⟨_, rfl⟩
      have hdk : d < k := by rw [← hd]; exact Nat.mod_lt _ h1
      have hov := hov.mono fun e w' h => over_is hQ hd h
      rw [hd, hQ] at hst
      rw [hQ] at hq
      have hlen : (List.replicate (i + 1) (0 : Int) ++ x).length = n := by simp; omega
      have hown : wr.ownsRow w.heap.size 3 1 (.slice (some ⟨g, 0, none⟩) n n) n (cI (List.replicate (i + 1) 0 ++ x)) := by
        unfold IntO at ho
        rwa [hlen] at ho
      have hin : i < n := by omega
      have HS := Lib.hid (And.intro hov (And.intro hq (And.intro hst (And.intro hown (And.intro hb (And.intro hxo hxl))))))
      clear hov hq hst hown hb hxo hxl hxv ho hlen hR hbv hbl hd hQ e1
      go_wp2_with fail
      refine HS.out.1.mono ?_
      rintro e w3 ⟨p3, c3, rfl, ho3, hb3⟩
      have hown3 := ownsRow_below hb3 HS.out.2.2.2.1
      obtain ⟨y, hy⟩ := getI (l := List.replicate (i + 1) (0 : Int) ++ x) (k := i) (by simp; omega)
      have hcy : w3.cell? ⟨g, i, none⟩ = some (.int .i64 y) := (hown3.cellAt i (by omega)).trans (cI_get hy)
      have hfy : w3.frozen? ⟨g, i, none⟩ = false := hown3.frozenAt i
      obtain ⟨s1, t1⟩ := hown3.stored i (.int .i64 (d : Int))
      rw [← cI_set, set_front] at s1
      have hb03 : Below w.heap.size w w3 := HS.out.2.2.2.2.1.trans (hb3.mono HS.out.2.2.2.2.1.size)
      have hb4 : Below w.heap.size w (w3.setCell ⟨g, i, none⟩ (.int .i64 (d : Int))) := hb03.setCell (p := ⟨g, i, none⟩) hgB _
      have hv3 : NatV (w3.setCell ⟨g, i, none⟩ (.int .i64 (d : Int))).heap.size (w3.setCell ⟨g, i, none⟩ (.int .i64 (d : Int))) p3 c3 (D32 Q) := by
        have hgl : g < wr.heap.size := by
          rcases own_shape HS.out.2.2.2.1 with ⟨hv, h0, _⟩ | ⟨g', cap, hv, _, hlt', _⟩
          · simp at hv
          · have e : g = g' := by simpa using (Value.slice.inj hv).1
            omega
        have ho4 : NatO wr.heap.size (w3.setCell ⟨g, i, none⟩ (.int .i64 (d : Int))) p3 c3 (D32 Q) := ⟨ownsRow_setCell_below ho3.own (a := ⟨g, i, none⟩) hgl _, ho3.ok⟩
        exact ho4.toV
      have HF := Lib.hid (And.intro s1 (And.intro hb4 hv3))
      clear hown3 hy s1 t1 hb03 hb4 hv3 ho3 hb3
      go_wp2_with fail
      go_roundw
      case rel =>
        refine ⟨i, Q, (d : Int) :: x, p3, c3, D32 Q, by omega, rfl, rfl, V32_D32 Q, HF.out.2.2, HS.out.2.1, ?_, ?_, ?_, ?_, hgB, HF.out.2.1⟩
        · rw [List.length_cons, HS.out.2.2.2.2.2.2]; omega
        · intro z hz
          rcases List.mem_cons.1 hz with rfl | hz
          · omega
          · exact HS.out.2.2.2.2.2.1 z hz
        · have := HS.out.2.2.1
          rw [show n - (i + 1) + 1 = n - i by omega] at this
          exact this
        · unfold IntO
          have hlen : (List.replicate i (0 : Int) ++ (d : Int) :: x).length = n := by simp; have := HS.out.2.2.2.2.2.2; omega
          rw [hlen]; exact HF.out.1
      case measure => simp [intOf]
end Go.Proofs.YthafjbegkifekaaDoor
end
section
namespace Go.Proofs.YthafjbegkifekaaDoor
open Go.RowKit Go.Extern.Stop Go.Stop Go.Extern WordM NatM

set_option maxRecDepth 100000 in
set_option maxHeartbeats 1000000 in
theorem at_arg (k n : Int) (p : Option Addr) (m c : Nat) (w : World) (A : Nat → Addr) (hr : Roots w A) (h : (k < 1 ∨ 4 < k) ∨ n < 0) :
    Calls Tryd.prog 56 #[.int .i64 k, .int .i64 n, .slice p m c] w (Err2 w A wordOp 0 3 (.slice none 0 0)) := by
  have HR := Lib.hid hr
  clear hr
  by_cases hk : k < 1 ∨ 4 < k
  · clear h
    go_enter Tryd.func56, Tryd.ntmps56
    go_wp2_with fail
    refine (alpha_no _ _ hk).mono ?_
    rintro e w' ⟨rfl, rfl⟩
    go_wp2_with fail
    refine (new_at wordOp 0 3 _ A HR.out (by omega)).mono ?_
    rintro e w1 ⟨b, rfl, hl1, hb1⟩
    have H := Lib.hid (And.intro hl1 hb1)
    clear hl1 hb1
    go_wp2_with fail
    go_ret2
    exact ⟨_, rfl, H.out.1, H.out.2⟩
  · have hn : n < 0 := by omega
    have hk1 : 1 ≤ k := by omega
    have hk4 : k ≤ 4 := by omega
    clear h hk
    go_enter Tryd.func56, Tryd.ntmps56
    go_wp2_with fail
    refine (alpha_yes _ _ hk1 hk4).mono ?_
    rintro e w' ⟨rfl, rfl⟩
    go_wp2_with fail
    refine (new_at wordOp 0 3 _ A HR.out (by omega)).mono ?_
    rintro e w1 ⟨b, rfl, hl1, hb1⟩
    have H := Lib.hid (And.intro hl1 hb1)
    clear hl1 hb1
    go_wp2_with fail
    go_ret2
    exact ⟨_, rfl, H.out.1, H.out.2⟩
set_option maxRecDepth 100000 in
set_option maxHeartbeats 1000000 in
theorem at_long (k n : Int) (p : Option Addr) (m c : Nat) (w : World) (A : Nat → Addr) (hr : Roots w A) (hk1 : 1 ≤ k) (hk4 : k ≤ 4) (hn : 256 < n) :
    Calls Tryd.prog 56 #[.int .i64 k, .int .i64 n, .slice p m c] w (Err2 w A wordOp 0 4 (.slice none 0 0)) := by
  have HR := Lib.hid hr
  have hn0 : ¬ n < 0 := by omega
  clear hr
  go_enter Tryd.func56, Tryd.ntmps56
  go_wp2_with fail
  refine (alpha_yes _ _ hk1 hk4).mono ?_
  rintro e w' ⟨rfl, rfl⟩
  go_wp2_with fail
  refine (new_at wordOp 0 4 _ A HR.out (by omega)).mono ?_
  rintro e w1 ⟨b, rfl, hl1, hb1⟩
  have H := Lib.hid (And.intro hl1 hb1)
  clear hl1 hb1
  go_wp2_with fail
  go_ret2
  exact ⟨_, rfl, H.out.1, H.out.2⟩
set_option maxRecDepth 100000 in
set_option maxHeartbeats 4000000 in
theorem at_over (k n : Nat) (p : Option Addr) (m c : Nat) (a : List Nat) (w : World) (A : Nat → Addr) (hr : Roots w A) (hm : m = a.length) (h : NatV w.heap.size w p c a) (h1 : 1 ≤ k) (h4 : k ≤ 4) (h256 : n ≤ 256) (hge : k ^ n ≤ V32 a) :
    Calls Tryd.prog 56 #[.int .i64 (k : Int), .int .i64 (n : Int), .slice p m c] w (Err2 w A wordOp 0 3 (.slice none 0 0)) := by
  subst hm
  have hpow := pow_any k n (by omega) (by omega) w
  have hcv : ∃ r : Int, 0 ≤ r ∧ cmpN (V32 a) (k ^ n) = r := by
    rcases Nat.lt_or_ge (k ^ n) (V32 a) with h1 | h1
    · exact ⟨1, by omega, by rw [cmp_gt h1]⟩
    · exact ⟨0, by omega, by rw [show V32 a = k ^ n by omega, cmp_eq]⟩
  obtain ⟨r, hr0, hcr⟩ := hcv
  have H := Lib.hid (And.intro h (And.intro hcr (And.intro hpow hr)))
  clear h hcr hpow hr hge
  have hdn : decide ((n : Int) < 0) = false := by rw [decide_eq_false_iff_not]; omega
  go_enter Tryd.func56, Tryd.ntmps56
  go_wp2_with fail
  refine (alpha_yes _ _ (by omega) (by omega)).mono ?_
  rintro e w' ⟨rfl, rfl⟩
  go_wp2_with fail
  refine H.out.2.2.1.mono ?_
  rintro e w1 ⟨p1, c1, rfl, ho1, hb1⟩
  have hcmp := cmp_any p p1 c c1 a (D32 (k ^ n)) w1 (H.out.1.next hb1) ho1.toV
  have hcv : cmpV a (D32 (k ^ n)) = .int .i64 r := by unfold cmpV; rw [V32_D32, H.out.2.1]
  rw [hcv] at hcmp
  have HB1 := Lib.hid (And.intro hb1 hcmp)
  clear ho1 hb1 hcmp hcv
  go_wp2_with fail
  refine HB1.out.2.mono ?_
  rintro e w2 ⟨rfl, hb2⟩
  have hb02 : Below w.heap.size w w2 := HB1.out.1.trans (hb2.mono HB1.out.1.size)
  have HB2 := Lib.hid (And.intro hb02 (H.out.2.2.2.below hb02))
  clear hb2 hb02
  go_wp2_with fail
  refine (new_at wordOp 0 3 _ A HB2.out.2 (by omega)).mono ?_
  rintro e w3 ⟨b, rfl, hl3, hb3⟩
  have HF := Lib.hid (And.intro hl3 (HB2.out.1.trans (hb3.mono HB2.out.1.size)))
  clear hl3 hb3
  go_wp2_with fail
  go_ret2
  exact ⟨_, rfl, HF.out.1, HF.out.2⟩

/-- whatever Pow tells -/
def PowSome (w : World) (e : Ending) (w' : World) : Prop := ∃ p n c v, e = .returned (.tuple #[.slice p n c, v]) ∧ Below w.heap.size w w'
theorem pow_some (k n : Int) (w : World) (A : Nat → Addr) (hr : Roots w A) (hk : 0 ≤ k) (hk2 : k < 4294967296) : Calls Tryd.prog 82 #[.int .u32 k, .int .i64 n] w (PowSome w) := by
  rcases (by omega : n < 0 ∨ 1024 < n ∨ (0 ≤ n ∧ n ≤ 1024)) with h | h | ⟨h1, h2⟩
  · refine (pow_neg k n h w A hr).mono fun e w' ⟨b, he, _, hb⟩ => ⟨_, _, _, _, he, hb⟩
  · refine (pow_big k n h w A hr).mono fun e w' ⟨b, he, _, hb⟩ => ⟨_, _, _, _, he, hb⟩
  · obtain ⟨m, rfl⟩ : ∃ m : Nat, n = (m : Int) := ⟨n.toNat, by omega⟩
    obtain ⟨q, rfl⟩ : ∃ q : Nat, k = (q : Int) := ⟨k.toNat, by omega⟩
    refine (pow_any q m (by omega) (by omega) w).mono fun e w' ⟨p, c, he, _, hb⟩ => ⟨_, _, _, _, he, hb⟩
end Go.Proofs.YthafjbegkifekaaDoor
end
section
namespace Go.Proofs.YthafjbegkifekaaDoor
open Go.RowKit Go.Extern.Stop Go.Stop Go.Extern WordM RuleM NatM
attribute [local go_sem ↓] Go.wp_at_zero Go.wp_at_succ

set_option maxRecDepth 100000 in
set_option maxHeartbeats 2000000 in
theorem step_bad (k r : Int) (p q : Option Addr) (n c m d : Nat) (t l : List Int) (w : World) (A : Nat → Addr) (hr : Roots w A) (hn : n = t.length) (hm : m = l.length) (h : IntV w.heap.size w p c t) (hl : IntV w.heap.size w q d l) (i a : Nat) (hc : chkT k r t l = some (i, a)) :
    Calls Tryd.prog 20 #[.agg #[.int .i64 k, .int .i64 r, .slice p n c], .slice q m d] w (Err2 w A ruleOp i a (.slice none 0 0)) := by
  have start : ∀ (w0 : World), w0 = w.alloc (.cells #[.int .i64 k, .int .i64 r, .slice p n c] 24) → Below w.heap.size w w0 ∧ Rul3 w0 w.heap.size (.int .i64 k) (.int .i64 r) (.slice p n c) := fun w0 hw0 =>
    ⟨by rw [hw0]; exact (Below.refl _ _).alloc (Nat.le_refl _) _, by rw [hw0]; exact Rul3.new w _ _ _⟩
  have ST := Lib.hid start
  clear start
  unfold chkT at hc
  split at hc
  · obtain ⟨rfl, rfl⟩ := Prod.mk.inj (Option.some.inj hc)
    rename_i hcr
    have H := Lib.hid (And.intro h (And.intro hn (And.intro hr hcr)))
    clear h hn hr hcr hc hm hl
    go_enter Tryd.func20, Tryd.ntmps20
    go_wp2_with fail
    obtain ⟨w0, hw0⟩ : ∃ w0, w0 = w.alloc (.cells #[.int .i64 k, .int .i64 r, .slice p n c] 24) := ⟨_, rfl⟩
    rw [← hw0]
    obtain ⟨hb0, hE0⟩ := ST.out w0 hw0
    obtain ⟨⟨hf0, hf1, hf2⟩, hc0, hc1, hc2⟩ := hE0.facts
    have HE := Lib.hid (And.intro hE0 hb0)
    clear hw0 hE0 hb0
    go_wp2_with fail
    refine (rcheck_bad k r p n c t w0 A (H.out.2.2.1.below HE.out.2) H.out.2.1 (H.out.1.next HE.out.2) _ H.out.2.2.2).mono ?_
    rintro e w1 ⟨b, rfl, hl1, hb1⟩
    have HF := Lib.hid (And.intro hl1 (HE.out.2.trans (hb1.mono HE.out.2.size)))
    clear hl1 hb1
    go_wp2_with fail
    go_ret2
    exact ⟨_, rfl, HF.out.1, HF.out.2⟩
  · rename_i hcr
    obtain ⟨K, R, rfl, rfl, ho⟩ := chkR_none hcr
    have h4 := ho.k4
    have hle := hl.le
    have hcap := hl.cap
    unfold maxLen at hcap
    have hmx : m ≤ 9223372036854775807 := by omega
    split at hc
    · obtain ⟨rfl, rfl⟩ := Prod.mk.inj (Option.some.inj hc)
      rename_i hne
      have hne' : 4096 < m := by omega
      have H := Lib.hid (And.intro h (And.intro hn (And.intro hr ho)))
      clear h hn hr hcr hc hm hl ho hne hle hcap
      go_enter Tryd.func20, Tryd.ntmps20
      go_wp2_with fail
      obtain ⟨w0, hw0⟩ : ∃ w0, w0 = w.alloc (.cells #[.int .i64 (K : Int), .int .i64 (R : Int), .slice p n c] 24) := ⟨_, rfl⟩
      rw [← hw0]
      obtain ⟨hb0, hE0⟩ := ST.out w0 hw0
      obtain ⟨⟨hf0, hf1, hf2⟩, hc0, hc1, hc2⟩ := hE0.facts
      have HE := Lib.hid (And.intro hE0 hb0)
      clear hw0 hE0 hb0
      go_wp2_with fail
      refine (rcheck_ok K R p n c t w0 H.out.2.1 (H.out.1.next HE.out.2) H.out.2.2.2).mono ?_
      rintro e w1 ⟨rfl, hb1⟩
      have H1 := Lib.hid (And.intro (HE.out.1.next hb1) (HE.out.2.trans (hb1.mono HE.out.2.size)))
      clear hb1 hf0 hf1 hf2 hc0 hc1 hc2
      obtain ⟨⟨hf0, hf1, hf2⟩, hc0, hc1, hc2⟩ := H1.out.1.facts
      go_wp2_with fail
      refine (new_at ruleOp 0 4 w1 A (H.out.2.2.1.below H1.out.2) (by omega)).mono ?_
      rintro e w2 ⟨b, rfl, hl2, hb2⟩
      have HF := Lib.hid (And.intro hl2 (H1.out.2.trans (hb2.mono H1.out.2.size)))
      clear hl2 hb2
      go_wp2_with fail
      go_ret2
      exact ⟨_, rfl, HF.out.1, HF.out.2⟩
    · rename_i hlen
      obtain ⟨j, hj, he⟩ := Option.map_eq_some_iff.1 hc
      obtain ⟨rfl, rfl⟩ := Prod.mk.inj he
      have hjl := strayN_lt hj
      have hst := strayN_bad hj
      have hjm : j < m := by omega
      have hm4 : ¬ 4096 < m := by omega
      have H := Lib.hid (And.intro h (And.intro hn (And.intro hr (And.intro ho (And.intro hst (And.intro hl hm))))))
      clear h hn hr hcr hc hm hl ho hle hcap hst hjl hj hlen he
      go_enter Tryd.func20, Tryd.ntmps20
      go_wp2_with fail
      obtain ⟨w0, hw0⟩ : ∃ w0, w0 = w.alloc (.cells #[.int .i64 (K : Int), .int .i64 (R : Int), .slice p n c] 24) := ⟨_, rfl⟩
      rw [← hw0]
      obtain ⟨hb0, hE0⟩ := ST.out w0 hw0
      obtain ⟨⟨hf0, hf1, hf2⟩, hc0, hc1, hc2⟩ := hE0.facts
      have HE := Lib.hid (And.intro hE0 hb0)
      clear hw0 hE0 hb0
      go_wp2_with fail
      refine (rcheck_ok K R p n c t w0 H.out.2.1 (H.out.1.next HE.out.2) H.out.2.2.2.1).mono ?_
      rintro e w1 ⟨rfl, hb1⟩
      have H1 := Lib.hid (And.intro (HE.out.1.next hb1) (HE.out.2.trans (hb1.mono HE.out.2.size)))
      clear hb1 hf0 hf1 hf2 hc0 hc1 hc2
      obtain ⟨⟨hf0, hf1, hf2⟩, hc0, hc1, hc2⟩ := H1.out.1.facts
      go_wp2_with fail
      refine (stray_any (K : Int) q m d l w1 H.out.2.2.2.2.2.2 (H.out.2.2.2.2.2.1.next H1.out.2)).mono ?_
      rintro e w2 ⟨rfl, rfl⟩
      rw [H.out.2.2.2.2.1]
      go_wp2_with fail
      refine (new_at ruleOp j 2 w1 A (H.out.2.2.1.below H1.out.2) (by omega)).mono ?_
      rintro e w2 ⟨b, rfl, hl2, hb2⟩
      have HF := Lib.hid (And.intro hl2 (H1.out.2.trans (hb2.mono H1.out.2.size)))
      clear hl2 hb2
      go_wp2_with fail
      go_ret2
      exact ⟨_, rfl, HF.out.1, HF.out.2⟩
/-- Step, whatever is asked that it does not refuse -/
theorem step_ok (k r : Int) (p q : Option Addr) (n c m d : Nat) (t l : List Int) (w : World) (hn : n = t.length) (hm : m = l.length) (h : IntV w.heap.size w p c t) (hl : IntV w.heap.size w q d l) (hc : chkT k r t l = none) :
    Calls Tryd.prog 20 #[.agg #[.int .i64 k, .int .i64 r, .slice p n c], .slice q m d] w (IntOk w (imgW k.toNat r.toNat t l)) := by
  obtain ⟨K, R, rfl, rfl, ho, hl4, hw⟩ := chkT_none hc
  rw [Int.toNat_natCast, Int.toNat_natCast]
  rcases Nat.lt_or_ge (2 * R) m with h1 | h1
  · exact step_long K R p q n c m d t l w hn hm h hl ho h1 (by omega) hw
  · exact step_short K R p q n c m d t l w hn hm h hl ho h1 hw

set_option maxRecDepth 100000 in
set_option maxHeartbeats 4000000 in
theorem code_ok (k r : Nat) (p : Option Addr) (n c : Nat) (t : List Int) (w : World) (hn : n = t.length) (h : IntV w.heap.size w p c t) (ho : OkR k r t) (hs : t.length ≤ 256) :
    Calls Tryd.prog 27 #[.agg #[.int .i64 (k : Int), .int .i64 (r : Int), .slice p n c]] w (NumOk w (codeR k t)) := by
  have hck : chkW k t.reverse = none := chkW_ok ho.k1 ho.k4 (by rw [List.length_reverse]; omega) ho.rev
  have hcode : codeR k t = valW k t.reverse := rfl
  have hrl : t.reverse.length ≤ 256 := by rw [List.length_reverse]; exact hs
  have hback := fun wx hx => back_any p n c t wx hn hx (by omega)
  obtain ⟨tr, htr⟩ : ∃ tr, t.reverse = tr := ⟨_, rfl⟩
  rw [htr] at hck hcode hrl
  simp only [htr] at hback
  rw [hcode]
  have H := Lib.hid (And.intro h (And.intro hn (And.intro ho (And.intro hs (And.intro hck (And.intro hrl hback))))))
  clear h hn ho hs hck hcode hrl hback htr
  go_enter Tryd.func27, Tryd.ntmps27
  go_wp2_with fail
  obtain ⟨w0, hw0⟩ : ∃ w0, w0 = w.alloc (.cells #[.int .i64 (k : Int), .int .i64 (r : Int), .slice p n c] 24) := ⟨_, rfl⟩
  have hb0 : Below w.heap.size w w0 := by rw [hw0]; exact (Below.refl _ _).alloc (Nat.le_refl _) _
  have hE0 : Rul3 w0 w.heap.size (.int .i64 (k : Int)) (.int .i64 (r : Int)) (.slice p n c) := by rw [hw0]; exact Rul3.new w _ _ _
  rw [← hw0]
  obtain ⟨⟨hf0, hf1, hf2⟩, hc0, hc1, hc2⟩ := hE0.facts
  have HE := Lib.hid (And.intro hE0 hb0)
  clear hw0 hE0 hb0
  go_wp2_with fail
  refine (small_ok k r p n c t w0 H.out.2.1 (H.out.1.next HE.out.2) H.out.2.2.1 H.out.2.2.2.1).mono ?_
  rintro e w1 ⟨rfl, hb1⟩
  have hE1 := HE.out.1.next hb1
  have hbw1 := HE.out.2.trans (hb1.mono HE.out.2.size)
  have hbk : ∀ wx : World, Below w1.heap.size w1 wx → Calls Tryd.prog 52 #[.slice p n c] wx (IntPost wx tr) := fun wx hbx =>
    H.out.2.2.2.2.2.2 wx ((H.out.1.next hbw1).next hbx)
  have hix : ∀ (wx : World) (pa : Option Addr) (ca : Nat), IntV wx.heap.size wx pa ca tr → Calls Tryd.prog 51 #[.int .i64 (k : Int), .slice pa tr.length ca] wx (NumOk wx (valW k tr)) := fun wx pa ca hx =>
    index_ok k pa _ ca tr wx rfl hx H.out.2.2.2.2.1 H.out.2.2.2.2.2.1
  have hxA : ∀ wx : World, Below w1.heap.size w1 wx → wx.cell? ⟨w.heap.size, 0, none⟩ = some (.int .i64 (k : Int)) := fun wx hbx => (hE1.next hbx).facts.2.1
  have hxB : ∀ wx : World, Below w1.heap.size w1 wx → wx.cell? ⟨w.heap.size, 2, none⟩ = some (.slice p n c) := fun wx hbx => (hE1.next hbx).facts.2.2.2
  have hd0 : Below w1.heap.size w1 w1.drew := (Below.refl _ _).drew
  have HS := Lib.hid hbw1
  clear hf0 hf1 hf2 hc0 hc1 hc2 hb1 hbw1 hE1
  go_wp2_with fail
  go_region_held3 (fun w' => w'.cell? ⟨w.heap.size, 0, none⟩ = some (.int .i64 (k : Int)) ∧ w'.cell? ⟨w.heap.size, 2, none⟩ = some (.slice p n c)) (first | exact ⟨hxA _ (by assumption), hxB _ (by assumption)⟩ | exact ⟨hxA _ (Below.refl _ _), hxB _ (Below.refl _ _)⟩ | exact ⟨hxA _ hd0, hxB _ hd0⟩ | go_keep) (first
    | (go_at_call 52; refine (hbk _ (by first | assumption | exact Below.refl _ _)).mono ?_; rintro e wa ⟨pa, ca, rfl, hoa, hba⟩; have hBa : Below w1.heap.size w1 wa := (by first | exact hba | exact hd0.trans (hba.mono hd0.size)))
    | (go_at_call 51; refine (hix _ pa ca hoa.toV).mono ?_; rintro e wb ⟨pb, cb, rfl, hob, hbb⟩; have hBb : Below w1.heap.size w1 wb := hBa.trans (hbb.mono hBa.size)))
  all_goals
    have HF := Lib.hid (And.intro (hob.base (Nat.le_trans HS.out.size hBa.size)) (HS.out.trans (hBb.mono HS.out.size)))
    clear hbk hix hxA hxB hba hbb hBa hBb hoa hob
    go_wp2_with fail
    go_ret2
    exact ⟨_, _, rfl, HF.out.1, HF.out.2⟩
set_option maxRecDepth 100000 in
set_option maxHeartbeats 2000000 in
theorem code_bad (k r : Int) (p : Option Addr) (n c : Nat) (t : List Int) (w : World) (A : Nat → Addr) (hr : Roots w A) (hn : n = t.length) (h : IntV w.heap.size w p c t) (i m : Nat) (hc : chkS k r t = some (i, m)) :
    Calls Tryd.prog 27 #[.agg #[.int .i64 k, .int .i64 r, .slice p n c]] w (Err2 w A ruleOp i m (.slice none 0 0)) := by
  have H := Lib.hid (And.intro h (And.intro hn (And.intro hr hc)))
  clear h hn hr hc
  go_enter Tryd.func27, Tryd.ntmps27
  go_wp2_with fail
  obtain ⟨w0, hw0⟩ : ∃ w0, w0 = w.alloc (.cells #[.int .i64 k, .int .i64 r, .slice p n c] 24) := ⟨_, rfl⟩
  have hb0 : Below w.heap.size w w0 := by rw [hw0]; exact (Below.refl _ _).alloc (Nat.le_refl _) _
  have hE0 : Rul3 w0 w.heap.size (.int .i64 k) (.int .i64 r) (.slice p n c) := by rw [hw0]; exact Rul3.new w _ _ _
  rw [← hw0]
  obtain ⟨⟨hf0, hf1, hf2⟩, hc0, hc1, hc2⟩ := hE0.facts
  have HE := Lib.hid hb0
  clear hw0 hE0 hb0
  go_wp2_with fail
  refine (small_bad k r p n c t w0 A (H.out.2.2.1.below HE.out) H.out.2.1 (H.out.1.next HE.out) i m H.out.2.2.2).mono ?_
  rintro e w1 ⟨b, rfl, hl1, hb1⟩
  have HF := Lib.hid (And.intro hl1 (HE.out.trans (hb1.mono HE.out.size)))
  clear hl1 hb1
  go_wp2_with fail
  go_ret2
  exact ⟨_, rfl, HF.out.1, HF.out.2⟩
end Go.Proofs.YthafjbegkifekaaDoor
end
section
namespace Go.Proofs.YthafjbegkifekaaDoor
open Go.RowKit Go.Extern.Stop Go.Stop Go.Extern WordM RuleM NatM

theorem setCell_same {w : World} {h i : Nat} {cs : Array Value} {T : TypeId} {v : Value} (hh : w.heap[h]? = some (.cells cs T (0, 0))) (hv : cs[i]? = some v) : w.setCell ⟨h, i, none⟩ v = w := by
  have hm : (w.heap.modify h fun
      | .cells c elem frozen => .cells (if (none : Option (Nat × Nat)).isSome then c else c.setIfInBounds i v) elem frozen
      | o => o) = w.heap := by
    apply Array.ext_getElem?
    intro j
    rw [Array.getElem?_modify]
    split
    · rename_i e
      subst e
      rw [hh]
      have : cs.setIfInBounds i v = cs := by
        apply Array.ext_getElem?
        intro z
        rw [Array.getElem?_setIfInBounds]
        split
        · rename_i e; subst e
          split
          · exact hv.symm
          · rename_i hz; rw [Array.getElem?_eq_none (by omega)]
        · rfl
      simp [this]
    · rfl
  exact congrArg (fun h => ({ w with heap := h } : World)) hm
theorem put3_same {w : World} {h : Nat} {a b c : Value} (k : Rul3 w h a b c) : put3 w h a b c = w := by
  unfold put3
  rw [setCell_same k.heap rfl, setCell_same k.heap rfl, setCell_same k.heap rfl]
theorem IntO.put3 {base h : Nat} {w : World} {p : Option Addr} {c : Nat} {l : List Int} (ho : IntO base w p c l) (hh : h < base) (a b d : Value) : IntO base (put3 w h a b d) p c l :=
  ownsRow_setCell_below (ownsRow_setCell_below (ownsRow_setCell_below ho (a := ⟨h, 0, none⟩) hh a) (a := ⟨h, 1, none⟩) hh b) (a := ⟨h, 2, none⟩) hh d

/-- no rule -/
def noRule : Value := .agg #[.int .i64 0, .int .i64 0, .slice none 0 0]
/-- a new rule, and no error -/
def RuleOk (w : World) (k r : Nat) (t : List Int) (e : Ending) (w' : World) : Prop :=
  ∃ p c, e = .returned (.tuple #[.agg #[.int .i64 (k : Int), .int .i64 (r : Int), .slice p t.length c], .nilIface]) ∧ IntO w.heap.size w' p c t ∧ Below w.heap.size w w'
/-- the rule with this number, and no error -/
def FromOk (w : World) (k r i : Nat) (e : Ending) (w' : World) : Prop := ∃ t, OkR k r t ∧ codeR k t = i ∧ RuleOk w k r t e w'

set_option maxRecDepth 100000 in
set_option maxHeartbeats 4000000 in
theorem from_ok (k r : Nat) (p : Option Addr) (m c : Nat) (a : List Nat) (w : World) (hm : m = a.length) (h : NatV w.heap.size w p c a) (hl : a.length ≤ 100000) (h1 : 1 ≤ k) (h4 : k ≤ 4) (h3 : r ≤ 3) (hs : k ^ (2 * r + 1) ≤ 256) (hlt : V32 a < k ^ (k ^ (2 * r + 1))) :
    Calls Tryd.prog 29 #[.int .i64 (k : Int), .int .i64 (r : Int), .slice p m c] w (FromOk w k r (V32 a)) := by
  have hsz := fun W => small_size_ok k r W h1 h4 h3 hs
  obtain ⟨S, hS⟩ : ∃ S, k ^ (2 * r + 1) = S := ⟨_, rfl⟩
  rw [hS] at hs hlt
  simp only [hS] at hsz
  have hat := fun W hW => at_ok k S p m c a W hm hW hl h1 h4 hs hlt
  have H := Lib.hid (And.intro h (And.intro hsz (And.intro hat hS)))
  clear h hsz hat hS hl hm hlt
  go_enter Tryd.func29, Tryd.ntmps29
  go_wp2_with fail
  obtain ⟨w0, hw0⟩ : ∃ w0, w0 = w.alloc (.cells #[.int .i64 0, .int .i64 0, .slice none 0 0] 24) := ⟨_, rfl⟩
  have hb0 : Below w.heap.size w w0 := by rw [hw0]; exact (Below.refl _ _).alloc (Nat.le_refl _) _
  have hE0 : Rul3 w0 w.heap.size (.int .i64 0) (.int .i64 0) (.slice none 0 0) := by rw [hw0]; exact Rul3.new w _ _ _
  rw [← hw0]
  have HE := Lib.hid (And.intro hE0 hb0)
  clear hw0 hE0 hb0
  go_wp2_with fail
  refine (H.out.2.1 w0).mono ?_
  rintro e w1 ⟨rfl, rfl⟩
  go_wp2_with fail
  refine (H.out.2.2.1 w0 (H.out.1.next HE.out.2)).mono ?_
  rintro e w2 ⟨x, hxl, hxo, hxv, p2, c2, rfl, ho2, hb2⟩
  have hbk := back_any p2 S c2 x w2 hxl.symm ho2.toV (by omega)
  have hxr : x.reverse.length = S := by rw [List.length_reverse, hxl]
  obtain ⟨t, ht⟩ : ∃ t, x.reverse = t := ⟨_, rfl⟩
  rw [ht] at hbk hxr
  have hok : OkR k r t := ⟨h1, h4, h3, by rw [hxr, H.out.2.2.2], by rw [← ht]; exact okW_rev hxo⟩
  have hcd : codeR k t = V32 a := by unfold codeR; rw [← ht, List.reverse_reverse, hxv]
  have H2 := Lib.hid (And.intro (HE.out.1.next hb2) (And.intro (HE.out.2.trans (hb2.mono HE.out.2.size)) (And.intro hok (And.intro hcd (And.intro hbk hxr)))))
  rw [hxl]
  clear hxl hxo hxv ho2 hb2 hbk hxr ht hok hcd
  go_wp2_with fail
  refine H2.out.2.2.2.2.1.mono ?_
  rintro e w3 ⟨p3, c3, rfl, ho3, hb3⟩
  rw [H2.out.2.2.2.2.2]
  have hE3 := H2.out.1.next hb3
  obtain ⟨⟨hf0, hf1, hf2⟩, hc0, hc1, hc2⟩ := hE3.facts
  have hlt0 : w.heap.size < w2.heap.size := H2.out.1.lt
  have H3 := Lib.hid (And.intro ho3 (H2.out.2.1.trans (hb3.mono H2.out.2.1.size)))
  clear ho3 hb3 hE3
  go_wp2_with fail
  refine bodyPost_ret (v := .tuple #[.agg #[.int .i64 (k : Int), .int .i64 (r : Int), .slice p3 S c3], .nilIface]) (by simp [results, Tryd.results29, go_sem, hc0, hc1, hc2]) rfl ⟨t, H2.out.2.2.1, H2.out.2.2.2.1, p3, c3, by rw [H2.out.2.2.2.2.2], ?_, ?_⟩
  · exact (H3.out.1.put3 hlt0 _ _ _).base (Nat.le_of_lt hlt0)
  · exact put3_below H3.out.2 (Nat.le_refl _) _ _ _

/-- where From refuses: the place and the number -/
def chkF (k r : Int) (i : Nat) : Option (Nat × Nat) :=
  if (k < 1 ∨ 4 < k) ∨ r < 0 ∨ 3 < r then some (0, 3) else if 256 < k.toNat ^ (2 * r.toNat + 1) then some (0, 4) else if k.toNat ^ (k.toNat ^ (2 * r.toNat + 1)) ≤ i then some (1, 3) else none
set_option maxRecDepth 100000 in
set_option maxHeartbeats 4000000 in
theorem from_bad (k r : Int) (p : Option Addr) (m c : Nat) (a : List Nat) (w : World) (A : Nat → Addr) (hr : Roots w A) (hm : m = a.length) (h : NatV w.heap.size w p c a) (i n : Nat) (hc : chkF k r (V32 a) = some (i, n)) :
    Calls Tryd.prog 29 #[.int .i64 k, .int .i64 r, .slice p m c] w (Err2 w A ruleOp i n noRule) := by
  have start : ∀ (w0 : World), w0 = w.alloc (.cells #[.int .i64 0, .int .i64 0, .slice none 0 0] 24) → Below w.heap.size w w0 ∧ Rul3 w0 w.heap.size (.int .i64 0) (.int .i64 0) (.slice none 0 0) := fun w0 hw0 =>
    ⟨by rw [hw0]; exact (Below.refl _ _).alloc (Nat.le_refl _) _, by rw [hw0]; exact Rul3.new w _ _ _⟩
  have ST := Lib.hid start
  clear start
  unfold chkF at hc
  split at hc
  · obtain ⟨rfl, rfl⟩ := Prod.mk.inj (Option.some.inj hc)
    rename_i hk
    have hsz := fun W hW => small_size_bad k r W A hW hk
    have H := Lib.hid (And.intro hr hsz)
    clear hr hsz hm h hc hk
    go_enter Tryd.func29, Tryd.ntmps29
    go_wp2_with fail
    obtain ⟨w0, hw0⟩ : ∃ w0, w0 = w.alloc (.cells #[.int .i64 0, .int .i64 0, .slice none 0 0] 24) := ⟨_, rfl⟩
    rw [← hw0]
    have HE := Lib.hid (ST.out w0 hw0)
    clear hw0
    go_wp2_with fail
    refine (H.out.2 w0 (H.out.1.below HE.out.1)).mono ?_
    rintro e w1 ⟨b, rfl, hl1, hb1⟩
    have hE1 := HE.out.2.next hb1
    obtain ⟨⟨hf0, hf1, hf2⟩, hc0, hc1, hc2⟩ := hE1.facts
    have H3 := Lib.hid (And.intro hl1 (And.intro (HE.out.1.trans (hb1.mono HE.out.1.size)) (put3_same hE1)))
    clear hl1 hb1 hE1
    go_wp2_with fail
    refine bodyPost_ret (v := .tuple #[noRule, .iface 76 (.pointer (some ⟨b, 0, none⟩))]) (by simp [results, Tryd.results29, go_sem, hc0, hc1, hc2, noRule]) rfl ⟨b, rfl, ?_, ?_⟩
    · show (Tree.fault b ruleOp _ _).lies (put3 w1 w.heap.size _ _ _)
      rw [H3.out.2.2]; exact H3.out.1
    · show Below _ _ (put3 w1 w.heap.size _ _ _)
      rw [H3.out.2.2]; exact H3.out.2.1
  · rename_i hk
    obtain ⟨K, rfl⟩ : ∃ K : Nat, k = K := ⟨k.toNat, by omega⟩
    obtain ⟨R, rfl⟩ : ∃ R : Nat, r = R := ⟨r.toNat, by omega⟩
    have hk1 : 1 ≤ K := by omega
    have hk4 : K ≤ 4 := by omega
    have hr3 : R ≤ 3 := by omega
    rw [Int.toNat_natCast, Int.toNat_natCast] at hc
    split at hc
    · obtain ⟨rfl, rfl⟩ := Prod.mk.inj (Option.some.inj hc)
      rename_i hbig
      have hsz := fun W hW => small_size_big K R W A hW hk1 hk4 hr3 hbig
      have H := Lib.hid (And.intro hr hsz)
      clear hr hsz hm h hc hk hbig
      go_enter Tryd.func29, Tryd.ntmps29
      go_wp2_with fail
      obtain ⟨w0, hw0⟩ : ∃ w0, w0 = w.alloc (.cells #[.int .i64 0, .int .i64 0, .slice none 0 0] 24) := ⟨_, rfl⟩
      rw [← hw0]
      have HE := Lib.hid (ST.out w0 hw0)
      clear hw0
      go_wp2_with fail
      refine (H.out.2 w0 (H.out.1.below HE.out.1)).mono ?_
      rintro e w1 ⟨b, rfl, hl1, hb1⟩
      have hE1 := HE.out.2.next hb1
      obtain ⟨⟨hf0, hf1, hf2⟩, hc0, hc1, hc2⟩ := hE1.facts
      have H3 := Lib.hid (And.intro hl1 (And.intro (HE.out.1.trans (hb1.mono HE.out.1.size)) (put3_same hE1)))
      clear hl1 hb1 hE1
      go_wp2_with fail
      refine bodyPost_ret (v := .tuple #[noRule, .iface 76 (.pointer (some ⟨b, 0, none⟩))]) (by simp [results, Tryd.results29, go_sem, hc0, hc1, hc2, noRule]) rfl ⟨b, rfl, ?_, ?_⟩
      · show (Tree.fault b ruleOp _ _).lies (put3 w1 w.heap.size _ _ _)
        rw [H3.out.2.2]; exact H3.out.1
      · show Below _ _ (put3 w1 w.heap.size _ _ _)
        rw [H3.out.2.2]; exact H3.out.2.1
    · rename_i hsm
      split at hc
      · obtain ⟨rfl, rfl⟩ := Prod.mk.inj (Option.some.inj hc)
        rename_i hge
        have hsz := fun W => small_size_ok K R W hk1 hk4 hr3 (by omega)
        obtain ⟨S, hS⟩ : ∃ S, K ^ (2 * R + 1) = S := ⟨_, rfl⟩
        rw [hS] at hsm hge
        simp only [hS] at hsz
        have hat := fun W hR hW => at_over K S p m c a W A hR hm hW hk1 hk4 (by omega) hge
        have H := Lib.hid (And.intro hr (And.intro hsz (And.intro hat h)))
        clear hr hsz hm h hc hk hS hat hge
        go_enter Tryd.func29, Tryd.ntmps29
        go_wp2_with fail
        obtain ⟨w0, hw0⟩ : ∃ w0, w0 = w.alloc (.cells #[.int .i64 0, .int .i64 0, .slice none 0 0] 24) := ⟨_, rfl⟩
        rw [← hw0]
        have HE := Lib.hid (ST.out w0 hw0)
        clear hw0
        go_wp2_with fail
        refine (H.out.2.1 w0).mono ?_
        rintro e w1 ⟨rfl, rfl⟩
        go_wp2_with fail
        refine (H.out.2.2.1 w0 (H.out.1.below HE.out.1) (H.out.2.2.2.next HE.out.1)).mono ?_
        rintro e w1 ⟨b1, rfl, _, hb1⟩
        have hbw1 := HE.out.1.trans (hb1.mono HE.out.1.size)
        have H1 := Lib.hid (And.intro (HE.out.2.next hb1) hbw1)
        clear hb1 hbw1
        go_wp2_with fail
        refine (new_at ruleOp 1 3 w1 A (H.out.1.below H1.out.2) (by omega)).mono ?_
        rintro e w2 ⟨b, rfl, hl2, hb2⟩
        have hE1 := H1.out.1.next hb2
        obtain ⟨⟨hf0, hf1, hf2⟩, hc0, hc1, hc2⟩ := hE1.facts
        have H3 := Lib.hid (And.intro hl2 (And.intro (H1.out.2.trans (hb2.mono H1.out.2.size)) (put3_same hE1)))
        clear hl2 hb2 hE1
        go_wp2_with fail
        refine bodyPost_ret (v := .tuple #[noRule, .iface 76 (.pointer (some ⟨b, 0, none⟩))]) (by simp [results, Tryd.results29, go_sem, hc0, hc1, hc2, noRule]) rfl ⟨b, rfl, ?_, ?_⟩
        · show (Tree.fault b ruleOp _ _).lies (put3 w2 w.heap.size _ _ _)
          rw [H3.out.2.2]; exact H3.out.1
        · show Below _ _ (put3 w2 w.heap.size _ _ _)
          rw [H3.out.2.2]; exact H3.out.2.1
      · cases hc
end Go.Proofs.YthafjbegkifekaaDoor
end
