/- The document's own package of rules by its contracts: Small.
The document's own package of numbers by its contracts, seventh part: Sub where it is told.
The document's own package of numbers by its contracts, eighth part: Mul.
The document's own package of rules by its contracts: Code.
Package rule by its contracts, sixth part: From.
The document's own package of numbers by its contracts, ninth part: Over.
The document's own package of numbers by its contracts, tenth part: Pow.
The document's own package of rules by its contracts: From.
The document's own package of numbers by its contracts, thirteenth part: Text, its groups of four digits.
Package rule by its contracts, tenth part: Text of a rule that stands.
The document's own package of rules by its contracts: Text.
A rule's text: the program's and the document's are one. -/
import Derived.Test.YtgdjnohhofbcnaaGreatDoorB4
import Derived.Test.YtgdjnohhofbcnaaGreatDoorB3
import Derived.Test.YtgdjnohhofbcnaaGreatDoorB2
import Derived.Deep.RegionHeld3
import Derived.Deep.DrawnRows
import Derived.Lib.AppendIntMem
import Derived.Lib.ItoaLen
import Derived.Deep.RegionWith
import Derived.Laws.Concat
section
namespace Go.Proofs.YtgdjnohhofbcnaaGreatDoor
open Go.RowKit Go.Extern.Stop Go.Stop Go.Extern WordM RuleM NatM

set_option maxRecDepth 100000 in
set_option maxHeartbeats 4000000 in
theorem small_ref_ok (K R : Nat) (p : Option Addr) (n c : Nat) (t : List Int) (w : World) (hn : n = t.length) (h : IntV w.heap.size w p c t) (ho : OkR K R t) (hs : n ≤ 256) :
    Calls Tryz.prog 92 #[.agg #[.int .i64 (K : Int), .int .i64 (R : Int), .slice p n c]] w (Tells noErr w) := by
  have hs' : ¬ (256 : Int) < (n : Int) := by omega
  have H := Lib.hid (And.intro h (And.intro hn ho))
  clear h hn ho
  go_enter Tryz.func92, Tryz.ntmps92
  go_upto_region 1 with fail
  obtain ⟨w0, hw0⟩ : ∃ w0, w0 = (w.alloc (.cells #[.int .i64 (K : Int), .int .i64 (R : Int), .slice p n c] 24)).alloc (.cells #[.int .i64 0, .slice none 0 0, .slice none 0 0] 32) := ⟨_, rfl⟩
  obtain ⟨hb0, hR0, hE0⟩ := start_both w _ _ _ w0 hw0
  rw [← hw0]
  have hszb : (w.alloc (.cells #[.int .i64 (K : Int), .int .i64 (R : Int), .slice p n c] 24)).heap.size = w.heap.size + 1 := by simp
  obtain ⟨_, hr0, hr1, hr2⟩ := hR0.facts
  have HE := Lib.hid (And.intro hR0 (And.intro hE0 hb0))
  clear hw0 hR0 hE0 hb0
  go_wp2_with fail
  have hck : Calls Tryz.prog 144 #[.agg #[.int .i64 (K : Int), .int .i64 (R : Int), .slice p n c]] w0 (Tells (.agg #[.int .i64 0, .slice none 0 0, .slice none 0 0]) w0) := rcheck_ref_ok K R p n c t w0 H.out.2.1 (H.out.1.next HE.out.2.2) H.out.2.2
  refine hck.mono ?_
  clear hck
  rintro e w1 ⟨rfl, hb1⟩
  obtain ⟨wB, hwB⟩ : ∃ x, x = w1.alloc (.cells #[.int .i64 0, .slice none 0 0, .slice none 0 0] 32) := ⟨_, rfl⟩
  have hbB : Below w1.heap.size w1 wB := by rw [hwB]; exact (Below.refl _ _).alloc (Nat.le_refl _) _
  have hEB : Err3 wB w1.heap.size (.int .i64 0) (.slice none 0 0) (.slice none 0 0) := by rw [hwB]; exact ⟨heap_newN w1 _⟩
  have hRB := (HE.out.1.next hb1).next hbB
  have hE1 := (HE.out.2.1.next hb1).next hbB
  have hbw : Below w.heap.size w wB := (HE.out.2.2.trans (hb1.mono HE.out.2.2.size)).trans (hbB.mono (Nat.le_trans HE.out.2.2.size hb1.size))
  clear hr0 hr1 hr2
  obtain ⟨_, hk0, hk1, hk2⟩ := hEB.facts
  have H1 := Lib.hid (And.intro hRB (And.intro hE1 (And.intro hbw hEB)))
  clear hb1 hbB hEB hE1 hbw hRB
  go_upto_region 2 with fail
  rw [← hwB]
  clear hwB
  go_wp2_with fail
  refine (bad_no (.slice none 0 0) (.slice none 0 0) wB).mono ?_
  rintro e wq ⟨rfl, hbq⟩
  have hRq := H1.out.1.next hbq
  have hEq := H1.out.2.1.next hbq
  have hkq := H1.out.2.2.2.next hbq
  clear hk0 hk1 hk2
  obtain ⟨_, hr0, hr1, hr2⟩ := hRq.facts
  obtain ⟨_, hk0, hk1, hk2⟩ := hkq.facts
  have HQ := Lib.hid (And.intro hEq (H1.out.2.2.1.trans (hbq.mono H1.out.2.2.1.size)))
  clear hbq hRq hEq hkq

  obtain ⟨⟨hf0, hf1, hf2⟩, hc0, hc1, hc2⟩ := HQ.out.1.facts
  go_wp2_with fail
  refine bodyPost_ret (v := noErr) (by simp [results, Tryz.results92, go_sem, hc0, hc1, hc2, noErr]) rfl ⟨rfl, ?_⟩
  exact put3_below HQ.out.2 (Nat.le_succ _) _ _ _

set_option maxRecDepth 100000 in
set_option maxHeartbeats 4000000 in
theorem small_ref_big (K R : Nat) (p : Option Addr) (n c : Nat) (t : List Int) (w : World) (hn : n = t.length) (h : IntV w.heap.size w p c t) (ho : OkR K R t) (hs : 256 < n) :
    Calls Tryz.prog 92 #[.agg #[.int .i64 (K : Int), .int .i64 (R : Int), .slice p n c]] w (RefErrR1 w 0 4) := by
  have hs' : (256 : Int) < (n : Int) := by omega
  have hn63 : n ≤ 9223372036854775807 := by have := h.le; have := h.cap; unfold maxLen at this; omega
  have H := Lib.hid (And.intro h (And.intro hn ho))
  clear h hn ho
  go_enter Tryz.func92, Tryz.ntmps92
  go_upto_region 1 with fail
  obtain ⟨w0, hw0⟩ : ∃ w0, w0 = (w.alloc (.cells #[.int .i64 (K : Int), .int .i64 (R : Int), .slice p n c] 24)).alloc (.cells #[.int .i64 0, .slice none 0 0, .slice none 0 0] 32) := ⟨_, rfl⟩
  obtain ⟨hb0, hR0, hE0⟩ := start_both w _ _ _ w0 hw0
  rw [← hw0]
  have hszb : (w.alloc (.cells #[.int .i64 (K : Int), .int .i64 (R : Int), .slice p n c] 24)).heap.size = w.heap.size + 1 := by simp
  obtain ⟨_, hr0, hr1, hr2⟩ := hR0.facts
  have HE := Lib.hid (And.intro hR0 (And.intro hE0 hb0))
  clear hw0 hR0 hE0 hb0
  go_wp2_with fail
  have hck : Calls Tryz.prog 144 #[.agg #[.int .i64 (K : Int), .int .i64 (R : Int), .slice p n c]] w0 (Tells (.agg #[.int .i64 0, .slice none 0 0, .slice none 0 0]) w0) := rcheck_ref_ok K R p n c t w0 H.out.2.1 (H.out.1.next HE.out.2.2) H.out.2.2
  refine hck.mono ?_
  clear hck
  rintro e w1 ⟨rfl, hb1⟩
  obtain ⟨wB, hwB⟩ : ∃ x, x = w1.alloc (.cells #[.int .i64 0, .slice none 0 0, .slice none 0 0] 32) := ⟨_, rfl⟩
  have hbB : Below w1.heap.size w1 wB := by rw [hwB]; exact (Below.refl _ _).alloc (Nat.le_refl _) _
  have hEB : Err3 wB w1.heap.size (.int .i64 0) (.slice none 0 0) (.slice none 0 0) := by rw [hwB]; exact ⟨heap_newN w1 _⟩
  have hRB := (HE.out.1.next hb1).next hbB
  have hE1 := (HE.out.2.1.next hb1).next hbB
  have hbw : Below w.heap.size w wB := (HE.out.2.2.trans (hb1.mono HE.out.2.2.size)).trans (hbB.mono (Nat.le_trans HE.out.2.2.size hb1.size))
  clear hr0 hr1 hr2
  obtain ⟨_, hk0, hk1, hk2⟩ := hEB.facts
  have H1 := Lib.hid (And.intro hRB (And.intro hE1 (And.intro hbw hEB)))
  clear hb1 hbB hEB hE1 hbw hRB
  go_upto_region 2 with fail
  rw [← hwB]
  clear hwB
  go_wp2_with fail
  refine (bad_no (.slice none 0 0) (.slice none 0 0) wB).mono ?_
  rintro e wq ⟨rfl, hbq⟩
  have hRq := H1.out.1.next hbq
  have hEq := H1.out.2.1.next hbq
  have hkq := H1.out.2.2.2.next hbq
  clear hk0 hk1 hk2
  obtain ⟨_, hr0, hr1, hr2⟩ := hRq.facts
  obtain ⟨_, hk0, hk1, hk2⟩ := hkq.facts
  have HQ := Lib.hid (And.intro hEq (H1.out.2.2.1.trans (hbq.mono H1.out.2.2.1.size)))
  clear hbq hRq hEq hkq

  go_wp2_with fail
  refine (raw_fresh ruleOp 0 4 wq).mono ?_
  rintro e w2 ⟨g, g', rfl, hg, hcg, hcg', hb2⟩
  obtain ⟨⟨hf0, hf1, hf2⟩, hc0, hc1, hc2⟩ := (HQ.out.1.next hb2).facts
  have HB := Lib.hid (RefErrR.laid (k := 4) HQ.out.2 (Nat.le_succ _) HQ.out.1.lt hg hcg hcg' hb2)
  clear hb2 hcg hcg' hg
  go_wp2_with fail
  refine bodyPost_ret (v := .agg #[.int .i64 4, .slice (some ⟨g, 0, none⟩) 1 1, .slice (some ⟨g', 0, none⟩) 1 1]) (by simp [results, Tryz.results92, go_sem, hc0, hc1, hc2]) rfl ⟨_, rfl, ?_⟩
  exact HB.out _ _ _

set_option maxRecDepth 100000 in
set_option maxHeartbeats 4000000 in
theorem small_ref_fault (k r : Int) (p : Option Addr) (n c : Nat) (t : List Int) (w : World) (hn : n = t.length) (h : IntV w.heap.size w p c t) (i : Nat) (hc : chkR k r t = some i) :
    Calls Tryz.prog 92 #[.agg #[.int .i64 k, .int .i64 r, .slice p n c]] w (RefErrR1 w i 1) := by
  have H := Lib.hid (And.intro h (And.intro hn hc))
  clear h hn hc
  go_enter Tryz.func92, Tryz.ntmps92
  go_upto_region 1 with fail
  obtain ⟨w0, hw0⟩ : ∃ w0, w0 = (w.alloc (.cells #[.int .i64 k, .int .i64 r, .slice p n c] 24)).alloc (.cells #[.int .i64 0, .slice none 0 0, .slice none 0 0] 32) := ⟨_, rfl⟩
  obtain ⟨hb0, hR0, hE0⟩ := start_both w _ _ _ w0 hw0
  rw [← hw0]
  have hszb : (w.alloc (.cells #[.int .i64 k, .int .i64 r, .slice p n c] 24)).heap.size = w.heap.size + 1 := by simp
  obtain ⟨_, hr0, hr1, hr2⟩ := hR0.facts
  have HE := Lib.hid (And.intro hR0 (And.intro hE0 hb0))
  clear hw0 hR0 hE0 hb0
  go_wp2_with fail
  refine (rcheck_ref_bad k r p n c t w0 H.out.2.1 (H.out.1.next HE.out.2.2) i H.out.2.2).mono ?_
  rintro e w1 ⟨v, rfl, g, g', rfl, ⟨hg1, hg2⟩, hw, hb1⟩
  obtain ⟨wB, hwB⟩ : ∃ x, x = w1.alloc (.cells #[.int .i64 1, .slice (some ⟨g, 0, none⟩) 1 1, .slice (some ⟨g', 0, none⟩) 1 1] 32) := ⟨_, rfl⟩
  have hbB : Below w1.heap.size w1 wB := by rw [hwB]; exact (Below.refl _ _).alloc (Nat.le_refl _) _
  have hEB : Err3 wB w1.heap.size (.int .i64 1) (.slice (some ⟨g, 0, none⟩) 1 1) (.slice (some ⟨g', 0, none⟩) 1 1) := by rw [hwB]; exact ⟨heap_newN w1 _⟩
  have hE1 := (HE.out.2.1.next hb1).next hbB
  have hlt0 := HE.out.2.1.lt
  have hbw : Below w.heap.size w wB := (HE.out.2.2.trans (hb1.mono HE.out.2.2.size)).trans (hbB.mono (Nat.le_trans HE.out.2.2.size hb1.size))
  clear hr0 hr1 hr2
  obtain ⟨_, hk0, hk1, hk2⟩ := hEB.facts
  have H1 := Lib.hid (And.intro hE1 (And.intro hEB (And.intro hbw (hw.next hbB))))
  clear hb1 hbB hEB hE1 hbw hw
  go_upto_region 2 with fail
  rw [← hwB]
  clear hwB
  go_wp2_with fail
  refine (bad_yes 1 (by omega) (.slice (some ⟨g, 0, none⟩) 1 1) (.slice (some ⟨g', 0, none⟩) 1 1) wB).mono ?_
  rintro e wq ⟨rfl, hbq⟩
  obtain ⟨⟨hf0, hf1, hf2⟩, hc0, hc1, hc2⟩ := (H1.out.1.next hbq).facts
  obtain ⟨_, hg0, hg1', hg2'⟩ := (H1.out.2.1.next hbq).facts
  have HQ := Lib.hid (And.intro (H1.out.2.2.1.trans (hbq.mono H1.out.2.2.1.size)) (H1.out.2.2.2.next hbq))
  clear hbq hk0 hk1 hk2
  go_wp2_with fail
  refine bodyPost_ret (v := .agg #[.int .i64 1, .slice (some ⟨g, 0, none⟩) 1 1, .slice (some ⟨g', 0, none⟩) 1 1]) (by simp [results, Tryz.results92, go_sem, hc0, hc1, hc2]) rfl ⟨_, rfl, g, g', rfl, ⟨by omega, by omega⟩, ?_, ?_⟩
  · exact HQ.out.2.put3 (by omega) (by omega) _ _ _
  · exact put3_below HQ.out.1 (Nat.le_succ _) _ _ _
end Go.Proofs.YtgdjnohhofbcnaaGreatDoor
end
section
namespace Go.Proofs.YtgdjnohhofbcnaaGreatDoor
open Go.RowKit NatM

/-- the difference of two lists of digits, up to place k, in a list of its own -/
structure BInv (a b : List Nat) (k c : Nat) (t : List Nat) : Prop where
  ok : okB 65536 t
  len : t.length = a.length
  car : c ≤ 1
  val : V16 (t.take k) + V16 (b.take k) = V16 (a.take k) + 65536 ^ k * c
theorem BInv.start (a b : List Nat) : BInv a b 0 0 (List.replicate a.length 0) := ⟨okB_replicate (by omega) _, by simp, by omega, by simp [V16, valB]⟩
theorem BInv.step {a b : List Nat} {k c x D : Nat} {t : List Nat} (hb : okB 65536 b) (h : BInv a b k c t) (hx : a[k]? = some x) (hxl : x < 65536) (hD : D + c + limbAt b k = x + 65536) : BInv a b (k + 1) (1 - D / 65536) (t.set k (D % 65536)) := by
  have hk := get_lt hx
  obtain ⟨z, hz⟩ := some_get (l := t) (k := k) (by rw [h.len]; exact hk)
  have hy := limb_lt (B := 65536) (by omega) hb k
  have hc := h.car
  refine ⟨okB_set h.ok (by omega) _, by rw [List.length_set]; exact h.len, by omega, ?_⟩
  show valB 65536 _ + valB 65536 _ = valB 65536 _ + _
  rw [set_takeq hz, valB_snoc, List.length_take, Nat.min_eq_left (by have := h.len; omega), valB_take_limb, valB_takeq 65536 hx, Nat.pow_succ]
  exact sub_step h.val (by omega)
theorem BInv.done {a b : List Nat} {c : Nat} {t : List Nat} (hbl : b.length ≤ a.length) (hle : V16 b ≤ V16 a) (h : BInv a b a.length c t) : V16 t = V16 a - V16 b := by
  have hv := h.val
  have hl := h.len
  have hc := h.car
  rw [List.take_of_length_le (by omega), List.take_of_length_le hbl, List.take_of_length_le (Nat.le_refl _)] at hv
  have h1 := valB_lt (B := 65536) (by omega) h.ok
  rw [hl] at h1
  change V16 t < _ at h1
  rcases (show c = 0 ∨ c = 1 by omega) with rfl | rfl
  · omega
  · omega

theorem make32u (n : Nat) (hn : n ≤ 1099511627776) (w : World) :
    (Instr.makeSlice 43 (.int .i64 (n : Int)) (.int .i64 (n : Int))).run Tryz.prog w = .ok (.slice (some ⟨w.heap.size, 0, none⟩) n n) (w.alloc (.cells (madeCells #[.int .u32 0] n) 94)) := by
  obtain ⟨i0, hi, hz0, hz1, hz2⟩ := info_parts info32
  have h := run_make (P := Tryz.prog) w 43 94 i0 (.int .u32 0) Tryz.underlying43 hi hz0 .i64 .i64 n n (by omega) (by omega) (by rw [hz2]; omega) (by omega)
  rw [hz1] at h
  simpa [Value.cells] using h
def SubRefRel (B : Nat) (w3 : World) (a b : List Nat) (p : Option Addr) (cap : Nat) (v9 v10 : Value) (wr : World) : Prop :=
  ∃ (i c : Nat) (t : List Nat), i ≤ a.length ∧ v9 = .int .u32 (c : Int) ∧ v10 = .int .i64 (i : Int) ∧ BInv a b i c t ∧ NatO B wr p cap t ∧ Below B w3 wr

end Go.Proofs.YtgdjnohhofbcnaaGreatDoor
end
section
namespace Go.Proofs.YtgdjnohhofbcnaaGreatDoor
open Go.RowKit NatM

/-- a list of n digits with a carry at place k; together T -/
structure PInv (n k c T : Nat) (t : List Nat) : Prop where
  ok : okB 65536 t
  len : t.length = n
  car : c < 65536
  val : V16 t + 65536 ^ k * c = T
theorem PInv.start (n k : Nat) : PInv n k 0 0 (List.replicate n 0) := ⟨okB_replicate (by omega) _, by simp, by omega, by simp [V16, valB_replicate]⟩
theorem PInv.at {n k k' T : Nat} {t : List Nat} (h : PInv n k 0 T t) : PInv n k' 0 T t := ⟨h.ok, h.len, h.car, by have := h.val; simpa using this⟩
theorem mul_arith {x y c z : Nat} (hx : x < 65536) (hy : y < 65536) (hc : c < 65536) (hz : z < 65536) :
    x * y + c ≤ 4294901760 ∧ (x * y + c) / 65536 + (z + (x * y + c) % 65536) / 65536 < 65536 ∧ (z + (x * y + c) % 65536) % 65536 + 65536 * ((x * y + c) / 65536 + (z + (x * y + c) % 65536) / 65536) = z + x * y + c := by
  have h1 : x * y ≤ 65535 * 65535 := Nat.mul_le_mul (by omega) (by omega)
  obtain ⟨m, hm⟩ : ∃ m, x * y = m := ⟨_, rfl⟩
  rw [hm] at h1 ⊢
  omega
theorem put_step {T0 T1 P z r c c' d : Nat} (h1 : T1 + P * z = T0 + P * r) (h2 : r + 65536 * c' = z + d + c) : T1 + P * 65536 * c' = T0 + P * c + P * d := by
  have e : P * (r + 65536 * c') = P * (z + d + c) := by rw [h2]
  rw [Nat.mul_add, Nat.mul_add, Nat.mul_add, ← Nat.mul_assoc] at e
  omega
theorem PInv.put {n k c T z r c' d : Nat} {t : List Nat} (h : PInv n k c T t) (hz : t[k]? = some z) (hr : r < 65536) (hc : c' < 65536) (he : r + 65536 * c' = z + d + c) : PInv n (k + 1) c' (T + 65536 ^ k * d) (t.set k r) := by
  refine ⟨okB_set h.ok hr _, by rw [List.length_set]; exact h.len, hc, ?_⟩
  have hs := valB_setq 65536 r hz
  rw [Nat.pow_succ, ← h.val]
  exact put_step hs he
theorem PInv.mul {n i j c S x y z : Nat} {b t : List Nat} (h : PInv n (i + j) c (S + 65536 ^ i * (x * V16 (b.take j))) t) (hx : x < 65536) (hb : okB 65536 b) (hy : b[j]? = some y) (hz : t[i + j]? = some z) :
    PInv n (i + (j + 1)) ((x * y + c) / 65536 + (z + (x * y + c) % 65536) / 65536) (S + 65536 ^ i * (x * V16 (b.take (j + 1)))) (t.set (i + j) ((z + (x * y + c) % 65536) % 65536)) := by
  obtain ⟨_, h2, h3⟩ := mul_arith hx (ok_get hb hy) h.car (ok_get h.ok hz)
  have := h.put hz (r := (z + (x * y + c) % 65536) % 65536) (by omega) h2 h3
  have e : S + 65536 ^ i * (x * V16 (b.take j)) + 65536 ^ (i + j) * (x * y) = S + 65536 ^ i * (x * V16 (b.take (j + 1))) := by
    show _ = S + 65536 ^ i * (x * valB 65536 (b.take (j + 1)))
    rw [valB_takeq 65536 hy, Nat.pow_add, Nat.mul_add, Nat.mul_add, Nat.add_assoc]
    congr 2
    rw [Nat.mul_assoc, Nat.mul_left_comm x]
  rw [e] at this
  exact this
theorem PInv.carry {n k c T z : Nat} {t : List Nat} (h : PInv n k c T t) (hz : t[k]? = some z) : PInv n (k + 1) ((z + c) / 65536) T (t.set k ((z + c) % 65536)) := by
  have hc := h.car
  have hzl := ok_get h.ok hz
  have := h.put hz (r := (z + c) % 65536) (c' := (z + c) / 65536) (d := 0) (by omega) (by omega) (by omega)
  simpa using this
theorem PInv.room {n k c T L : Nat} {t : List Nat} (h : PInv n k c T t) (hT : T < 65536 ^ L) (hc : 0 < c) : k < L := by
  rcases Nat.lt_or_ge k L with h1 | h1
  · exact h1
  · exfalso
    have h2 : 65536 ^ L ≤ 65536 ^ k := Nat.pow_le_pow_right (by omega) h1
    have h3 : 65536 ^ k * 1 ≤ 65536 ^ k * c := Nat.mul_le_mul_left _ hc
    have := h.val
    omega
theorem mul_take {a b : List Nat} {i x : Nat} (hx : a[i]? = some x) : V16 (a.take i) * V16 b + 65536 ^ i * (x * V16 b) = V16 (a.take (i + 1)) * V16 b := by
  show _ = valB 65536 (a.take (i + 1)) * V16 b
  rw [valB_takeq 65536 hx, Nat.add_mul, Nat.mul_assoc]; rfl
theorem mul_bound {a b : List Nat} (ha : okB 65536 a) (hb : okB 65536 b) (i : Nat) (hi : i < a.length) : V16 (a.take (i + 1)) * V16 b < 65536 ^ (i + 1 + b.length) := by
  have h1 := valB_lt (B := 65536) (by omega) (okB_take ha (i + 1))
  have h2 := valB_lt (B := 65536) (by omega) hb
  rw [List.length_take, Nat.min_eq_left (by omega)] at h1
  rw [Nat.pow_add]
  exact Nat.mul_lt_mul'' h1 h2

def MulRefRel (B : Nat) (w3 : World) (a b : List Nat) (n : Nat) (p : Option Addr) (v8 : Value) (wr : World) : Prop :=
  ∃ (i : Nat) (t : List Nat), i ≤ a.length ∧ v8 = .int .i64 (i : Int) ∧ PInv n 0 0 (V16 (a.take i) * V16 b) t ∧ NatO B wr p n t ∧ Below B w3 wr
def MulRefRel2 (B : Nat) (w3 : World) (b : List Nat) (n i x S : Nat) (p : Option Addr) (v9 v10 : Value) (wr : World) : Prop :=
  ∃ (j c : Nat) (t : List Nat), j ≤ b.length ∧ v9 = .int .u32 (c : Int) ∧ v10 = .int .i64 (j : Int) ∧ PInv n (i + j) c (S + 65536 ^ i * (x * V16 (b.take j))) t ∧ NatO B wr p n t ∧ Below B w3 wr
def MulRefRel3 (B : Nat) (w3 : World) (n T L : Nat) (p : Option Addr) (v9 v13 : Value) (wr : World) : Prop :=
  ∃ (k c : Nat) (t : List Nat), k ≤ L ∧ v9 = .int .u32 (c : Int) ∧ v13 = .int .i64 (k : Int) ∧ PInv n k c T t ∧ NatO B wr p n t ∧ Below B w3 wr

set_option maxRecDepth 100000 in
set_option maxHeartbeats 4000000 in
theorem mul_ref (p q : Option Addr) (c d : Nat) (l m : List Nat) (w : World) (h : NatV w.heap.size w p c l) (k : NatV w.heap.size w q d m) (hl : l.length ≤ 1000000) (hm : m.length ≤ 1000000) :
    Calls Tryz.prog 94 #[.slice p l.length c, .slice q m.length d] w (NatPost w (V32 l * V32 m)) := by
  have H := Lib.hid (And.intro h k)
  have HT := Lib.hid (half_any p c l w h (by omega))
  have HM := Lib.hid hm
  have hal := half_len h.ok
  have hbl := half_len k.ok
  obtain ⟨A, hA⟩ : ∃ A, V32 l = A := ⟨_, rfl⟩
  obtain ⟨B, hB⟩ : ∃ B, V32 m = B := ⟨_, rfl⟩
  have HBB := Lib.hid hB
  rw [hA] at HT hal ⊢
  rw [hB] at hbl ⊢
  have hal2 : (D16 A).length ≤ 2000000 := by omega
  have hbl2 : (D16 B).length ≤ 2000000 := by omega
  clear h k hm hal hbl hl
  go_enter Tryz.func94, Tryz.ntmps94
  go_wp2_with fail
  refine HT.out.mono ?_
  rintro e w1 ⟨p1, c1, rfl, ho1, hb1⟩
  have HT2 := half_any q d m w1 (H.out.2.next hb1) (by have := HM.out; omega)
  rw [HBB.out] at HT2
  have HO := Lib.hid (And.intro ho1 hb1)
  clear ho1 hb1 hA hB
  go_wp2_with fail
  refine HT2.mono ?_
  rintro e w3 ⟨p2, c2, rfl, ho2, hb2⟩
  have hva : V16 (D16 A) = A := V16_D16 _
  have hvb : V16 (D16 B) = B := V16_D16 _
  have HV := Lib.hid (And.intro (HO.out.1.next hb2).toV (And.intro ho2.toV (And.intro (D16_ok A) (And.intro (D16_ok B) (And.intro hva (And.intro hvb (HO.out.2.trans (hb2.mono HO.out.2.size))))))))
  clear HT2 ho2 hb2 hva hvb
  obtain ⟨a, ha⟩ : ∃ a, D16 A = a := ⟨_, rfl⟩
  obtain ⟨b, hb⟩ : ∃ b, D16 B = b := ⟨_, rfl⟩
  rw [ha] at HV hal2 ⊢
  rw [hb] at HV hbl2 ⊢
  clear ha hb
  obtain ⟨n, hn⟩ : ∃ n, n = a.length + b.length + 1 := ⟨_, rfl⟩
  have hmk := make32u n (by omega) w3
  have hn2 : (a.length : Int) + (b.length : Int) + 1 = (n : Int) := by omega
  have HN := Lib.hid hn
  have hnb : n ≤ 4194305 := by omega
  clear hn
  go_wp2_with fail
  have hm0 := NatO.made w3 n (by omega)
  have hB3m : Below w3.heap.size w3 (w3.alloc (.cells (madeCells #[.int .u32 0] n) 94)) := (Below.refl w3.heap.size w3).alloc (Nat.le_refl _) _
  obtain ⟨w4, hw4⟩ : ∃ w4, w4 = w3.alloc (.cells (madeCells #[.int .u32 0] n) 94) := ⟨_, rfl⟩
  rw [← hw4] at hm0 hB3m ⊢
  have HM4 := Lib.hid (And.intro hm0 hB3m)
  have HN2 := Lib.hid hn2
  clear hm0 hB3m hw4 hmk hn2
  go_loopw [8] (fun v8 wr => MulRefRel w3.heap.size w3 a b n (some ⟨w3.heap.size, 0, none⟩) v8 wr) (fun v _ => a.length - (intOf v).toNat)
  case atStart => exact ⟨0, List.replicate n 0, Nat.zero_le _, rfl, by have := PInv.start n 0; simpa [V16, valB] using this, HM4.out.1, HM4.out.2⟩
  case round =>
    obtain ⟨i, t0, hi, rfl, hP0, ho0, hbx0⟩ := hrel
    have hwB : w3.heap.size ≤ wr.heap.size := hbx0.size
    have HP := Lib.hid (And.intro hP0 (And.intro ho0 hbx0))
    obtain ⟨wo, rfl⟩ : ∃ wo : World, wo = wr := ⟨_, rfl⟩
    by_cases hlt : i < a.length
    · obtain ⟨x, hx⟩ := some_get hlt
      have hxl : x < 65536 := ok_get HV.out.2.2.1 hx
      have hmt := mul_take (b := b) hx
      have hbd := mul_bound HV.out.2.2.1 HV.out.2.2.2.1 i hlt
      obtain ⟨S, hS⟩ : ∃ S, V16 (a.take i) * V16 b = S := ⟨_, rfl⟩
      rw [hS] at HP hmt
      have HX := Lib.hid (And.intro hx (And.intro hmt hbd))
      clear hx hmt hbd hP0 ho0 hbx0 hS
      go_wp2_with fail
      go_loopw [9, 10] (fun v9 v10 wr => MulRefRel2 w3.heap.size w3 b n i x S (some ⟨w3.heap.size, 0, none⟩) v9 v10 wr) (fun _ v _ => b.length - (intOf v).toNat)
      case atStart => exact ⟨0, 0, t0, Nat.zero_le _, rfl, rfl, by have := HP.out.1.at (k' := i + 0); simpa [V16, valB] using this, HP.out.2.1, HP.out.2.2⟩
      case round =>
        obtain ⟨j, c, t, hj, rfl, rfl, hP, ho, hbx⟩ := hrel
        have hcl : c < 65536 := hP.car
        have hn0 : n = a.length + b.length + 1 := HN.out
        have htl : t.length = n := hP.len
        by_cases hjl : j < b.length
        · obtain ⟨y, hy⟩ := some_get hjl
          obtain ⟨ba, off, rfl, hba, hca⟩ := (HV.out.1.below hbx).cell (List.length_pos_iff.1 (by omega))
          have hcx := hca i x HX.out.1
          obtain ⟨bb, off', rfl, hbb, hcb⟩ := (HV.out.2.1.below hbx).cell (List.length_pos_iff.1 (by omega))
          have hcy := hcb j y hy
          have hyl : y < 65536 := ok_get HV.out.2.2.2.1 hy
          obtain ⟨g, hg, hgb, hgl, hcells, hfrz⟩ := ho.shape (by omega)
          obtain rfl : w3.heap.size = g := by simpa using hg
          obtain ⟨z, hz⟩ := some_get (l := t) (k := i + j) (by omega)
          have hcz := hcells (i + j) z hz
          have hfz := hfrz (i + j)
          have hzl : z < 65536 := ok_get hP.ok hz
          have hst := PInv.mul hP hxl HV.out.2.2.2.1 hy hz
          obtain ⟨hm1, hm2, hm3⟩ := mul_arith hxl hyl hcl hzl
          obtain ⟨m, hm⟩ : ∃ m, x * y = m := ⟨_, rfl⟩
          have hmi : (x : Int) * (y : Int) = (m : Int) := by rw [← hm, Int.natCast_mul]
          rw [hm] at hst hm1 hm2
          have hijn : i + j < n := by omega
          have hos := fun nq => NatO.store (ho.next (below_drewN (Below.refl _ _) nq)) (i + j) ((z + (m + c) % 65536) % 65536) (by omega)
          have HS := Lib.hid (And.intro hst (And.intro hos (And.intro hbx htl)))
          clear hst hos hbx hn0 hcb hca hcells hfrz hy hz hP ho hg htl hm hm3
          go_wp2_with fail
          go_quiet (fail)
          go_wp2_with fail
          go_roundw
          case rel =>
            refine ⟨j + 1, (m + c) / 65536 + (z + (m + c) % 65536) / 65536, t.set (i + j) ((z + (m + c) % 65536) % 65536), by omega, ?_, by go_num, HS.out.1, ?_, ?_⟩
            · go_num
            · rw [show ((z : Int) + ((m : Int) + (c : Int))) % 65536 = (((z + (m + c) % 65536) % 65536 : Nat) : Int) by omega]
              exact HS.out.2.1 _
            · exact (below_drewN HS.out.2.2.1 _).setCell (Nat.le_refl _) _
          case measure => simp [intOf]; omega
        · obtain rfl : j = b.length := by omega
          obtain ⟨T, hT⟩ : ∃ T, S + 65536 ^ i * (x * V16 b) = T := ⟨_, rfl⟩
          rw [List.take_of_length_le (Nat.le_refl _), hT] at hP
          have hTT : T = V16 (a.take (i + 1)) * V16 b := by rw [← hT]; exact HX.out.2.1
          have hTb : T < 65536 ^ (i + 1 + b.length) := by rw [hTT]; exact HX.out.2.2
          have HQ := Lib.hid (And.intro hP (And.intro ho (And.intro hbx (And.intro hTT hTb))))
          have HN0 := Lib.hid hn0
          clear hP ho hbx htl hT hTT hTb hn0
          go_wp2_with fail
          go_loopw [9, 13] (fun v9 v13 wr => MulRefRel3 w3.heap.size w3 n T (i + 1 + b.length) (some ⟨w3.heap.size, 0, none⟩) v9 v13 wr) (fun _ v _ => i + 1 + b.length - (intOf v).toNat)
          case atStart => exact ⟨i + b.length, c, t, by omega, rfl, by go_num, HQ.out.1, HQ.out.2.1, HQ.out.2.2.1⟩
          case round =>
            obtain ⟨k, c', t', hk, rfl, rfl, hP, ho, hbx⟩ := hrel
            have hcl' : c' < 65536 := hP.car
            have hn0 : n = a.length + b.length + 1 := HN0.out
            have htl : t'.length = n := hP.len
            by_cases hc0 : 0 < c'
            · have hkL := hP.room HQ.out.2.2.2.2 hc0
              obtain ⟨g, hg, hgb, hgl, hcells, hfrz⟩ := ho.shape (by omega)
              obtain rfl : w3.heap.size = g := by simpa using hg
              obtain ⟨z, hz⟩ := some_get (l := t') (k := k) (by omega)
              have hcz := hcells k z hz
              have hfz := hfrz k
              have hzl : z < 65536 := ok_get hP.ok hz
              have hst := hP.carry hz
              have hkn : k < n := by omega
              have hos := NatO.store ho k ((z + c') % 65536) (by omega)
              have HS := Lib.hid (And.intro hst (And.intro hos hbx))
              clear hst hos hbx hn0 hcells hfrz hz hP ho hg htl
              go_wp2_with fail
              go_roundw
              case rel =>
                refine ⟨k + 1, (z + c') / 65536, t'.set k ((z + c') % 65536), by omega, ?_, by go_num, HS.out.1, ?_, HS.out.2.2.setCell (Nat.le_refl _) _⟩
                · go_num
                · exact HS.out.2.1
              case measure => simp [intOf]; omega
            · obtain rfl : c' = 0 := by omega
              have HR := Lib.hid (And.intro (hP.at (k' := 0)) (And.intro ho hbx))
              clear hP ho hbx htl hn0
              go_wp2_with fail
              go_roundw
              case rel =>
                refine ⟨i + 1, t', by omega, by go_num, ?_, HR.out.2.1, HR.out.2.2⟩
                rw [← HQ.out.2.2.2.1]; exact HR.out.1
              case measure => simp [intOf]; omega
    · obtain rfl : i = a.length := by omega
      have htl := hP0.len
      have hd : V16 t0 = A * B := by
        have h1 := HP.out.1.val
        rw [List.take_of_length_le (Nat.le_refl _), HV.out.2.2.2.2.1, HV.out.2.2.2.2.2.1] at h1
        simpa using h1
      have hn0 : n = a.length + b.length + 1 := HN.out
      have hw := whole_any (some ⟨w3.heap.size, 0, none⟩) n t0 wo ho0.toV hP0.ok (by omega)
      clear hn0
      rw [hd, htl] at hw
      have hw3 := HV.out.2.2.2.2.2.2.size
      have HE := Lib.hid (HV.out.2.2.2.2.2.2.trans (hbx0.mono hw3))
      clear hP0 ho0 hbx0 htl hd hlt
      go_wp2_with fail
      refine hw.mono ?_
      rintro e w5 ⟨p5, c5, rfl, ho5, hb5⟩
      have hs5 := hb5.size
      have HW := Lib.hid (And.intro ho5 (HE.out.trans (hb5.mono (by omega))))
      clear hw ho5 hb5
      go_wp2_with fail
      go_ret
      exact ⟨p5, c5, rfl, HW.out.1.base (by omega), HW.out.2⟩
end Go.Proofs.YtgdjnohhofbcnaaGreatDoor
end
section
namespace Go.Proofs.YtgdjnohhofbcnaaGreatDoor
open Go.RowKit Go.Extern.Stop Go.Stop Go.Extern WordM RuleM NatM
attribute [local go_sem ↓] Go.wp_at_zero Go.wp_at_succ

theorem small_ref_bad (k r : Int) (p : Option Addr) (n c : Nat) (t : List Int) (w : World) (hn : n = t.length) (h : IntV w.heap.size w p c t) (i m : Nat) (hc : chkS k r t = some (i, m)) :
    Calls Tryz.prog 92 #[.agg #[.int .i64 k, .int .i64 r, .slice p n c]] w (RefErrR1 w i m) := by
  unfold chkS at hc
  split at hc
  · obtain ⟨rfl, rfl⟩ := Prod.mk.inj (Option.some.inj hc)
    rename_i hcr
    exact small_ref_fault k r p n c t w hn h _ hcr
  · rename_i hcr
    split at hc
    · obtain ⟨rfl, rfl⟩ := Prod.mk.inj (Option.some.inj hc)
      obtain ⟨K, R, rfl, rfl, ho⟩ := chkR_none hcr
      exact small_ref_big K R p n c t w hn h ho (by omega)
    · cases hc
def CodeRel (w : World) (K n : Nat) (tr : List Int) (v5 v6 : Value) (wr : World) : Prop :=
  ∃ (j : Nat) (q : Option Addr) (cq : Nat), j ≤ n ∧ v6 = .int .i64 ((j : Int) - 1) ∧ v5 = .slice q (D32 (valW K (tr.take (n - j)))).length cq ∧ NatO w.heap.size wr q cq (D32 (valW K (tr.take (n - j)))) ∧ Below w.heap.size w wr
set_option maxRecDepth 100000 in
set_option maxHeartbeats 8000000 in
theorem code_ref_ok (K R : Nat) (p : Option Addr) (n c : Nat) (t : List Int) (w : World) (hn : n = t.length) (h : IntV w.heap.size w p c t) (ho : OkR K R t) (hn256 : n ≤ 256) :
    Calls Tryz.prog 29 #[.agg #[.int .i64 (K : Int), .int .i64 (R : Int), .slice p n c]] w (RefOk2 w (codeR K t)) := by
  have h4 := ho.k4
  have h1 := ho.k1
  have hnpos : 1 ≤ n := by rw [hn, ho.len]; exact pow_pos h1
  have hcap := h.cap
  have hle := h.le
  unfold maxLen at hcap
  have hnc : n ≤ c := by omega
  have hwk : IntKind.u64.wrap (K : Int) = (K : Int) := by rw [IntKind.wrap_u64]; omega
  have hw1 : IntKind.i64.wrap ((n : Int) - 1) = (n : Int) - 1 := by rw [IntWalk.i64_in _ (by omega)]
  obtain ⟨tr, htr⟩ : ∃ tr, t.reverse = tr := ⟨_, rfl⟩
  have htl : tr.length = n := by rw [← htr, List.length_reverse, hn]
  have hto : okW K tr := by rw [← htr]; exact ho.rev
  have hget : ∀ i, i < n → tr[n - (i + 1)]? = t[i]? := fun i hi => by
    rw [← htr, List.getElem?_reverse (by omega)]
    congr 1
    omega
  have hcode : codeR K t = valW K tr := by unfold codeR; rw [htr]
  rw [hcode]
  have HW := Lib.hid (And.intro htl (And.intro hto hget))
  have H := Lib.hid (And.intro h (And.intro hn ho))
  clear h hn ho htr htl hto hget hcode hcap hle
  go_enter Tryz.func29, Tryz.ntmps29
  go_upto_region 1 with fail
  obtain ⟨w0, hw0⟩ : ∃ w0, w0 = (w.alloc (.cells #[.int .i64 (K : Int), .int .i64 (R : Int), .slice p n c] 24)).alloc (.cells #[.int .i64 0, .slice none 0 0, .slice none 0 0] 32) := ⟨_, rfl⟩
  obtain ⟨hb0, hR0, hE0⟩ := start_both w _ _ _ w0 hw0
  rw [← hw0]
  have hszb : (w.alloc (.cells #[.int .i64 (K : Int), .int .i64 (R : Int), .slice p n c] 24)).heap.size = w.heap.size + 1 := by simp
  obtain ⟨_, hr0, hr1, hr2⟩ := hR0.facts
  have HE := Lib.hid (And.intro hR0 (And.intro hE0 hb0))
  clear hw0 hR0 hE0 hb0
  go_wp2_with fail
  have hck : Calls Tryz.prog 92 #[.agg #[.int .i64 (K : Int), .int .i64 (R : Int), .slice p n c]] w0 (Tells (.agg #[.int .i64 0, .slice none 0 0, .slice none 0 0]) w0) := small_ref_ok K R p n c t w0 H.out.2.1 (H.out.1.next HE.out.2.2) H.out.2.2 hn256
  refine hck.mono ?_
  clear hck
  rintro e w1 ⟨rfl, hb1⟩
  obtain ⟨wB, hwB⟩ : ∃ x, x = w1.alloc (.cells #[.int .i64 0, .slice none 0 0, .slice none 0 0] 32) := ⟨_, rfl⟩
  have hbB : Below w1.heap.size w1 wB := by rw [hwB]; exact (Below.refl _ _).alloc (Nat.le_refl _) _
  have hEB : Err3 wB w1.heap.size (.int .i64 0) (.slice none 0 0) (.slice none 0 0) := by rw [hwB]; exact ⟨heap_newN w1 _⟩
  have hRB := (HE.out.1.next hb1).next hbB
  have hE1 := (HE.out.2.1.next hb1).next hbB
  have hbw : Below w.heap.size w wB := (HE.out.2.2.trans (hb1.mono HE.out.2.2.size)).trans (hbB.mono (Nat.le_trans HE.out.2.2.size hb1.size))
  clear hr0 hr1 hr2
  obtain ⟨_, hk0, hk1, hk2⟩ := hEB.facts
  have H1 := Lib.hid (And.intro hRB (And.intro hE1 hbw))
  clear hb1 hbB hEB hE1 hbw hRB
  go_upto_region 2 with fail
  rw [← hwB]
  clear hwB
  go_wp2_with fail
  refine (bad_no (.slice none 0 0) (.slice none 0 0) wB).mono ?_
  rintro e wq ⟨rfl, hbq⟩
  have hRq := H1.out.1.next hbq
  have hEq := H1.out.2.1.next hbq
  clear hk0 hk1 hk2
  obtain ⟨_, hr0, hr1, hr2⟩ := hRq.facts
  have hltq := hEq.lt
  have HQ := Lib.hid (And.intro hEq (And.intro (H1.out.2.2.trans (hbq.mono H1.out.2.2.size)) hRq))
  clear hbq hRq hEq
  go_wp2_with fail
  go_loopw [5, 6] (fun v5 v6 wr => CodeRel wq K n tr v5 v6 wr) (fun _ v _ => (intOf v + 1).toNat)
  case atStart => exact ⟨n, none, 0, Nat.le_refl _, rfl, by rw [Nat.sub_self, List.take_zero, show valW K [] = 0 from rfl, D32_nil.2 rfl]; rfl, by rw [Nat.sub_self, List.take_zero, show valW K [] = 0 from rfl, D32_nil.2 rfl]; exact NatO.nothing _ _, Below.refl _ _⟩
  case round =>
    obtain ⟨j, q, cq, hj, rfl, rfl, hoq, hb⟩ := hrel
    have hRr := HQ.out.2.2.next hb
    have hbw := HQ.out.2.1.trans (hb.mono HQ.out.2.1.size)
    clear hr0 hr1 hr2
    obtain ⟨_, hr0, hr1, hr2⟩ := hRr.facts
    rcases Nat.eq_zero_or_pos j with rfl | hj0
    · have he : tr.take (n - 0) = tr := by rw [Nat.sub_zero, ← HW.out.1, List.take_length]
      rw [he] at hoq ⊢
      have hE := HQ.out.1.next hb
      obtain ⟨⟨hf0, hf1, hf2⟩, hc0, hc1, hc2⟩ := hE.facts
      have HF := Lib.hid (And.intro hoq hbw)
      clear hoq hb he hbw hRr hE
      go_wp2_with fail
      refine bodyPost_ret (v := .tuple #[.slice q (D32 (valW K tr)).length cq, noErr]) (by simp [results, Tryz.results29, go_sem, hc0, hc1, hc2, noErr]) rfl ⟨_, _, rfl, ?_, ?_⟩
      · exact (HF.out.1.put3 hltq _ _ _).base (by omega)
      · exact put3_below HF.out.2 (Nat.le_succ _) _ _ _
    · obtain ⟨i, rfl⟩ : ∃ i, j = i + 1 := ⟨j - 1, by omega⟩
      have e1 : (((i + 1 : Nat) : Int) - 1) = (i : Int) := by omega
      rw [e1]
      have hnl := H.out.2.1
      obtain ⟨b, off, rfl, hbb, hcc⟩ := H.out.1.cell (by rintro rfl; simp at hnl; omega)
      obtain ⟨x, hx⟩ := getI (l := t) (k := i) (by omega)
      have hcx : ∀ wx : World, Below wr.heap.size wr wx → wx.cell? ⟨b, off + i, none⟩ = some (.int .i64 x) := fun wx hbx => ((hbw.trans (hbx.mono hbw.size)).cell (p := ⟨b, off + i, none⟩) hbb).trans (hcc i x hx)
      have hxo := H.out.2.2.ok x (List.mem_of_getElem? hx)
      obtain ⟨y, rfl⟩ : ∃ y : Nat, x = (y : Int) := ⟨x.toNat, by omega⟩
      have hgx := (HW.out.2.2 i (by omega)).trans hx
      have hst := valW_take (k := K) hgx
      rw [Int.toNat_natCast, show n - (i + 1) + 1 = n - i by omega] at hst
      have hvl := valW_len h4 (okW_take HW.out.2.1 (n - (i + 1)))
      have hvl2 := valW_len h4 (okW_take HW.out.2.1 (n - i))
      rw [List.length_take] at hvl hvl2
      obtain ⟨v, hv⟩ : ∃ v, valW K (tr.take (n - (i + 1))) = v := ⟨_, rfl⟩
      rw [hv] at hoq hst hvl ⊢
      have hy4 : y ≤ 4 := by omega
      have hvl' : (D32 v).length ≤ 100000 := by omega
      have hvm : (D32 (v * K)).length ≤ 100000 := by
        have h1 : v * K ≤ v * K + y := Nat.le_add_right _ _
        rw [hst] at hvl2
        rcases Nat.lt_or_ge 100000 (D32 (v * K)).length with h2 | h2
        · have := cmp_len (m := v * K + y) (n := v * K) (by omega)
          omega
        · exact h2
      have hwy : IntKind.u64.wrap (y : Int) = (y : Int) := by rw [IntKind.wrap_u64]; omega
      have hkl : (D32 K).length ≤ 100000 := by
        have := D32_len (n := K) (k := 1) (by omega)
        omega
      have hyl : (D32 y).length ≤ 100000 := by
        have := D32_len (n := y) (k := 1) (by omega)
        omega
      have hf1 : ∀ wx : World, Below wr.heap.size wr wx → Calls Tryz.prog 95 #[.int .u64 (K : Int)] wx (NatPost wx K) := fun wx _ => from_ref K wx (by omega)
      have hf2 : ∀ (wx : World) (pa : Option Addr) (ca : Nat), Below wr.heap.size wr wx → NatV wx.heap.size wx pa ca (D32 K) → Calls Tryz.prog 94 #[.slice q (D32 v).length cq, .slice pa (D32 K).length ca] wx (NatPost wx (v * K)) := fun wx pa ca hbx hk => by
        have := mul_ref q pa cq ca (D32 v) (D32 K) wx (hoq.next hbx).toV hk (by omega) (by omega)
        rwa [V32_D32, V32_D32] at this
      have hf3 : ∀ wx : World, Below wr.heap.size wr wx → Calls Tryz.prog 95 #[.int .u64 (y : Int)] wx (NatPost wx y) := fun wx _ => from_ref y wx (by omega)
      have hf4 : ∀ (wx : World) (pa pb : Option Addr) (ca cb : Nat), NatV wx.heap.size wx pa ca (D32 (v * K)) → NatV wx.heap.size wx pb cb (D32 y) → Calls Tryz.prog 93 #[.slice pa (D32 (v * K)).length ca, .slice pb (D32 y).length cb] wx (NatPost wx (v * K + y)) := fun wx pa pb ca cb h1 h2 => by
        have := add_ref pa pb ca cb (D32 (v * K)) (D32 y) wx h1 h2 (by omega) (by omega)
        rwa [V32_D32, V32_D32] at this
      have hxA : ∀ wx : World, Below wr.heap.size wr wx → wx.cell? ⟨w.heap.size, 0, none⟩ = some (.int .i64 (K : Int)) := fun wx hbx => (hRr.next hbx).facts.2.1
      have hxC : ∀ wx : World, Below wr.heap.size wr wx → wx.cell? ⟨w.heap.size, 2, none⟩ = some (.slice (some ⟨b, off, none⟩) n c) := fun wx hbx => (hRr.next hbx).facts.2.2.2
      have hd0 : Below wr.heap.size wr wr.drew := (Below.refl _ _).drew
      have hin : i < n := by omega
      have hin' : (i : Int) < (n : Int) := by omega
      have HS := Lib.hid (And.intro hst hb)
      clear hcc hx hxo hst hvl hvl2 hv hoq hb hvm hnl hvl' hkl hyl hgx hbw hRr e1
      go_wp2_with fail
      go_region_held3 (fun w' => w'.cell? ⟨w.heap.size, 0, none⟩ = some (.int .i64 (K : Int)) ∧ w'.cell? ⟨w.heap.size, 2, none⟩ = some (.slice (some ⟨b, off, none⟩) n c) ∧ w'.cell? ⟨b, off + i, none⟩ = some (.int .i64 (y : Int))) (first | exact ⟨hxA _ (by assumption), hxC _ (by assumption), hcx _ (by assumption)⟩ | exact ⟨hxA _ (Below.refl _ _), hxC _ (Below.refl _ _), hcx _ (Below.refl _ _)⟩ | go_keep) (first
        | (go_at_call 95; have hhb := hBb; refine (hf3 _ hBb).mono ?_; rintro e wc ⟨pc, cc, rfl, hoc, hbc⟩; have hBc : Below wr.heap.size wr wc := hBb.trans (hbc.mono hBb.size))
        | (go_at_call 95; refine (hf1 _ (by first | assumption | exact Below.refl _ _)).mono ?_; rintro e wa ⟨pa, ca, rfl, hoa, hba⟩; have hBa : Below wr.heap.size wr wa := (by first | exact hba | exact hd0.trans (hba.mono hd0.size)))
        | (go_at_call 94; refine (hf2 _ pa ca hBa hoa.toV).mono ?_; rintro e wb ⟨pb, cb, rfl, hob, hbb'⟩; have hBb : Below wr.heap.size wr wb := hBa.trans (hbb'.mono hBa.size))
        | (go_at_call 93; refine (hf4 _ pb pc cb cc (hob.next hbc).toV hoc.toV).mono ?_; rintro e wd ⟨pd, cd, rfl, hod, hbd⟩; have hBd : Below wr.heap.size wr wd := hBc.trans (hbd.mono hBc.size)))
      all_goals
        have HF := Lib.hid (And.intro (hod.base (Nat.le_trans HS.out.2.size hBc.size)) (HS.out.2.trans (hBd.mono HS.out.2.size)))
        have hj1 : i ≤ n := by omega
        have wi1 : IntKind.i64.wrap ((i : Int) - 1) = (i : Int) - 1 := by rw [IntWalk.i64_in _ (by omega)]
        clear hf1 hf2 hf3 hf4 hxA hxC hcx hba hbb' hbc hbd hBa hBb hBc hBd hoa hob hoc hod
        go_wp2_with fail
        go_roundw
        case rel => exact ⟨i, pd, cd, hj1, rfl, by rw [HS.out.1], by rw [HS.out.1]; exact HF.out.1, HF.out.2⟩
        case measure => simp [intOf]

set_option maxRecDepth 100000 in
set_option maxHeartbeats 8000000 in
theorem code_ref_bad (k r : Int) (p : Option Addr) (n c : Nat) (t : List Int) (w : World) (hn : n = t.length) (h : IntV w.heap.size w p c t) (i m : Nat) (hm : m ≠ 0) (hc : chkS k r t = some (i, m)) :
    Calls Tryz.prog 29 #[.agg #[.int .i64 k, .int .i64 r, .slice p n c]] w (RefErrR2 w (.slice none 0 0) i m) := by
  have H := Lib.hid (And.intro h (And.intro hn hc))
  clear h hn hc
  go_enter Tryz.func29, Tryz.ntmps29
  go_upto_region 1 with fail
  obtain ⟨w0, hw0⟩ : ∃ w0, w0 = (w.alloc (.cells #[.int .i64 k, .int .i64 r, .slice p n c] 24)).alloc (.cells #[.int .i64 0, .slice none 0 0, .slice none 0 0] 32) := ⟨_, rfl⟩
  obtain ⟨hb0, hR0, hE0⟩ := start_both w _ _ _ w0 hw0
  rw [← hw0]
  have hszb : (w.alloc (.cells #[.int .i64 k, .int .i64 r, .slice p n c] 24)).heap.size = w.heap.size + 1 := by simp
  obtain ⟨_, hr0, hr1, hr2⟩ := hR0.facts
  have HE := Lib.hid (And.intro hR0 (And.intro hE0 hb0))
  clear hw0 hR0 hE0 hb0
  go_wp2_with fail
  refine (small_ref_bad k r p n c t w0 H.out.2.1 (H.out.1.next HE.out.2.2) i m H.out.2.2).mono ?_
  rintro e w1 ⟨v, rfl, g, g', rfl, ⟨hg1, hg2⟩, hw, hb1⟩
  obtain ⟨wB, hwB⟩ : ∃ x, x = w1.alloc (.cells #[.int .i64 (m : Int), .slice (some ⟨g, 0, none⟩) 1 1, .slice (some ⟨g', 0, none⟩) 1 1] 32) := ⟨_, rfl⟩
  have hbB : Below w1.heap.size w1 wB := by rw [hwB]; exact (Below.refl _ _).alloc (Nat.le_refl _) _
  have hEB : Err3 wB w1.heap.size (.int .i64 (m : Int)) (.slice (some ⟨g, 0, none⟩) 1 1) (.slice (some ⟨g', 0, none⟩) 1 1) := by rw [hwB]; exact ⟨heap_newN w1 _⟩
  have hE1 := (HE.out.2.1.next hb1).next hbB
  have hlt0 := HE.out.2.1.lt
  have hbw : Below w.heap.size w wB := (HE.out.2.2.trans (hb1.mono HE.out.2.2.size)).trans (hbB.mono (Nat.le_trans HE.out.2.2.size hb1.size))
  have hs1 := hb1.size
  clear hr0 hr1 hr2
  obtain ⟨_, hk0, hk1, hk2⟩ := hEB.facts
  have H1 := Lib.hid (And.intro hE1 (And.intro hEB (And.intro hbw (hw.next hbB))))
  clear hb1 hbB hEB hE1 hbw hw
  go_upto_region 2 with fail
  rw [← hwB]
  clear hwB
  go_wp2_with fail
  refine (bad_yes (m : Int) (by omega) (.slice (some ⟨g, 0, none⟩) 1 1) (.slice (some ⟨g', 0, none⟩) 1 1) wB).mono ?_
  rintro e wq ⟨rfl, hbq⟩
  obtain ⟨⟨hf0, hf1, hf2⟩, hc0, hc1, hc2⟩ := (H1.out.1.next hbq).facts
  obtain ⟨_, hg0, hg1', hg2'⟩ := (H1.out.2.1.next hbq).facts
  have HQ := Lib.hid (And.intro (H1.out.2.2.1.trans (hbq.mono H1.out.2.2.1.size)) (H1.out.2.2.2.next hbq))
  clear hbq hk0 hk1 hk2
  have hne : w1.heap.size ≠ w.heap.size + 1 := by omega
  go_wp2_with fail
  go_region
  go_wp2_with fail
  refine bodyPost_ret (v := .tuple #[.slice none 0 0, .agg #[.int .i64 (m : Int), .slice (some ⟨g, 0, none⟩) 1 1, .slice (some ⟨g', 0, none⟩) 1 1]]) (by simp [results, Tryz.results29, go_sem, hc0, hc1, hc2]) rfl ⟨_, rfl, g, g', rfl, ⟨by omega, by omega⟩, ?_, ?_⟩
  · exact (HQ.out.2.put3 (by omega) (by omega) _ _ _).next (Below.refl _ _).drew
  · exact (put3_below HQ.out.1 (Nat.le_succ _) _ _ _).drew
end Go.Proofs.YtgdjnohhofbcnaaGreatDoor
end
section
namespace Go.Proofs.YtgdjnohhofbcnaaGreatDoor
open Go.RowKit Go.Extern.Stop Go.Stop Go.Extern WordM RuleM NatM

theorem setCell_same {w : World} {h i : Nat} {cs : Array Value} {T : TypeId} {v : Value} (hh : w.heap[h]? = some (.cells cs T (0, 0))) (hv : cs[i]? = some v) : w.setCell ⟨h, i, none⟩ v = w := by
  have hm : (w.heap.modify h fun
      | .cells c elem frozen => .cells (if (none : Option (Nat × Nat)).isSome then c else c.setIfInBounds i v) elem frozen
      | o => o) = w.heap := by
    apply Array.ext_getElem?
    intro j
    rw [Array.getElem?_modify]
    split
    · rename_i e
      subst e
      rw [hh]
      have : cs.setIfInBounds i v = cs := by
        apply Array.ext_getElem?
        intro z
        rw [Array.getElem?_setIfInBounds]
        split
        · rename_i e; subst e
          split
          · exact hv.symm
          · rename_i hz; rw [Array.getElem?_eq_none (by omega)]
        · rfl
      simp [this]
    · rfl
  exact congrArg (fun h => ({ w with heap := h } : World)) hm
theorem put3_same {w : World} {h : Nat} {a b c : Value} (k : Rul3 w h a b c) : put3 w h a b c = w := by
  unfold put3
  rw [setCell_same k.heap rfl, setCell_same k.heap rfl, setCell_same k.heap rfl]
theorem IntO.put3 {base h : Nat} {w : World} {p : Option Addr} {c : Nat} {l : List Int} (ho : IntO base w p c l) (hh : h < base) (a b d : Value) : IntO base (put3 w h a b d) p c l :=
  ownsRow_setCell_below (ownsRow_setCell_below (ownsRow_setCell_below ho (a := ⟨h, 0, none⟩) hh a) (a := ⟨h, 1, none⟩) hh b) (a := ⟨h, 2, none⟩) hh d

theorem Rul3.setOther {w : World} {h : Nat} {a b c : Value} (k : Rul3 w h a b c) (g i : Nat) (hg : g ≠ h) (v : Value) : Rul3 (w.setCell ⟨g, i, none⟩ v) h a b c := ⟨by
  show (w.heap.modify g _)[h]? = _
  rw [Array.getElem?_modify, if_neg hg]
  exact k.heap⟩
theorem Rul3.putOther {w : World} {h : Nat} {a b c : Value} (k : Rul3 w h a b c) (g : Nat) (hg : g ≠ h) (x y z : Value) : Rul3 (put3 w g x y z) h a b c := ((k.setOther g 0 hg x).setOther g 1 hg y).setOther g 2 hg z

/-- no rule -/
def noRule : Value := .agg #[.int .i64 0, .int .i64 0, .slice none 0 0]
/-- a new rule, and no error -/
def RuleOk (w : World) (k r : Nat) (t : List Int) (e : Ending) (w' : World) : Prop :=
  ∃ p c, e = .returned (.tuple #[.agg #[.int .i64 (k : Int), .int .i64 (r : Int), .slice p t.length c], .nilIface]) ∧ IntO w.heap.size w' p c t ∧ Below w.heap.size w w'
/-- the rule with this number, and no error -/
def FromOk (w : World) (k r i : Nat) (e : Ending) (w' : World) : Prop := ∃ t, OkR k r t ∧ codeR k t = i ∧ RuleOk w k r t e w'

set_option maxRecDepth 100000 in
set_option maxHeartbeats 4000000 in
theorem from_ok (k r : Nat) (p : Option Addr) (m c : Nat) (a : List Nat) (w : World) (hm : m = a.length) (h : NatV w.heap.size w p c a) (hl : a.length ≤ 100000) (h1 : 1 ≤ k) (h4 : k ≤ 4) (h3 : r ≤ 3) (hs : k ^ (2 * r + 1) ≤ 256) (hlt : V32 a < k ^ (k ^ (2 * r + 1))) :
    Calls Tryz.prog 37 #[.int .i64 (k : Int), .int .i64 (r : Int), .slice p m c] w (FromOk w k r (V32 a)) := by
  have hsz := fun W => small_size_ok k r W h1 h4 h3 hs
  obtain ⟨S, hS⟩ : ∃ S, k ^ (2 * r + 1) = S := ⟨_, rfl⟩
  rw [hS] at hs hlt
  simp only [hS] at hsz
  have hat := fun W hW => at_ok k S p m c a W hm hW hl h1 h4 hs hlt
  have H := Lib.hid (And.intro h (And.intro hsz (And.intro hat hS)))
  clear h hsz hat hS hl hm hlt
  go_enter Tryz.func37, Tryz.ntmps37
  go_wp2_with fail
  obtain ⟨w0, hw0⟩ : ∃ w0, w0 = w.alloc (.cells #[.int .i64 0, .int .i64 0, .slice none 0 0] 24) := ⟨_, rfl⟩
  have hb0 : Below w.heap.size w w0 := by rw [hw0]; exact (Below.refl _ _).alloc (Nat.le_refl _) _
  have hE0 : Rul3 w0 w.heap.size (.int .i64 0) (.int .i64 0) (.slice none 0 0) := by rw [hw0]; exact Rul3.new w _ _ _
  rw [← hw0]
  have HE := Lib.hid (And.intro hE0 hb0)
  clear hw0 hE0 hb0
  go_wp2_with fail
  refine (H.out.2.1 w0).mono ?_
  rintro e w1 ⟨rfl, rfl⟩
  go_wp2_with fail
  refine (H.out.2.2.1 w0 (H.out.1.next HE.out.2)).mono ?_
  rintro e w2 ⟨x, hxl, hxo, hxv, p2, c2, rfl, ho2, hb2⟩
  have hbk := back_any p2 S c2 x w2 hxl.symm ho2.toV (by omega)
  have hxr : x.reverse.length = S := by rw [List.length_reverse, hxl]
  obtain ⟨t, ht⟩ : ∃ t, x.reverse = t := ⟨_, rfl⟩
  rw [ht] at hbk hxr
  have hok : OkR k r t := ⟨h1, h4, h3, by rw [hxr, H.out.2.2.2], by rw [← ht]; exact okW_rev hxo⟩
  have hcd : codeR k t = V32 a := by unfold codeR; rw [← ht, List.reverse_reverse, hxv]
  have H2 := Lib.hid (And.intro (HE.out.1.next hb2) (And.intro (HE.out.2.trans (hb2.mono HE.out.2.size)) (And.intro hok (And.intro hcd (And.intro hbk hxr)))))
  rw [hxl]
  clear hxl hxo hxv ho2 hb2 hbk hxr ht hok hcd
  go_wp2_with fail
  refine H2.out.2.2.2.2.1.mono ?_
  rintro e w3 ⟨p3, c3, rfl, ho3, hb3⟩
  rw [H2.out.2.2.2.2.2]
  have hE3 := H2.out.1.next hb3
  obtain ⟨⟨hf0, hf1, hf2⟩, hc0, hc1, hc2⟩ := hE3.facts
  have hlt0 : w.heap.size < w2.heap.size := H2.out.1.lt
  have H3 := Lib.hid (And.intro ho3 (H2.out.2.1.trans (hb3.mono H2.out.2.1.size)))
  clear ho3 hb3 hE3
  go_wp2_with fail
  refine bodyPost_ret (v := .tuple #[.agg #[.int .i64 (k : Int), .int .i64 (r : Int), .slice p3 S c3], .nilIface]) (by simp [results, Tryz.results37, go_sem, hc0, hc1, hc2]) rfl ⟨t, H2.out.2.2.1, H2.out.2.2.2.1, p3, c3, by rw [H2.out.2.2.2.2.2], ?_, ?_⟩
  · exact (H3.out.1.put3 hlt0 _ _ _).base (Nat.le_of_lt hlt0)
  · exact put3_below H3.out.2 (Nat.le_refl _) _ _ _

/-- where From refuses: the place and the number -/
def chkF (k r : Int) (i : Nat) : Option (Nat × Nat) :=
  if (k < 1 ∨ 4 < k) ∨ r < 0 ∨ 3 < r then some (0, 3) else if 256 < k.toNat ^ (2 * r.toNat + 1) then some (0, 4) else if k.toNat ^ (k.toNat ^ (2 * r.toNat + 1)) ≤ i then some (1, 3) else none
set_option maxRecDepth 100000 in
set_option maxHeartbeats 4000000 in
theorem from_bad (k r : Int) (p : Option Addr) (m c : Nat) (a : List Nat) (w : World) (A : Nat → Addr) (hr : Roots w A) (hm : m = a.length) (h : NatV w.heap.size w p c a) (i n : Nat) (hc : chkF k r (V32 a) = some (i, n)) :
    Calls Tryz.prog 37 #[.int .i64 k, .int .i64 r, .slice p m c] w (Err2 w A ruleOp i n noRule) := by
  have start : ∀ (w0 : World), w0 = w.alloc (.cells #[.int .i64 0, .int .i64 0, .slice none 0 0] 24) → Below w.heap.size w w0 ∧ Rul3 w0 w.heap.size (.int .i64 0) (.int .i64 0) (.slice none 0 0) := fun w0 hw0 =>
    ⟨by rw [hw0]; exact (Below.refl _ _).alloc (Nat.le_refl _) _, by rw [hw0]; exact Rul3.new w _ _ _⟩
  have ST := Lib.hid start
  clear start
  unfold chkF at hc
  split at hc
  · obtain ⟨rfl, rfl⟩ := Prod.mk.inj (Option.some.inj hc)
    rename_i hk
    have hsz := fun W hW => small_size_bad k r W A hW hk
    have H := Lib.hid (And.intro hr hsz)
    clear hr hsz hm h hc hk
    go_enter Tryz.func37, Tryz.ntmps37
    go_wp2_with fail
    obtain ⟨w0, hw0⟩ : ∃ w0, w0 = w.alloc (.cells #[.int .i64 0, .int .i64 0, .slice none 0 0] 24) := ⟨_, rfl⟩
    rw [← hw0]
    have HE := Lib.hid (ST.out w0 hw0)
    clear hw0
    go_wp2_with fail
    refine (H.out.2 w0 (H.out.1.below HE.out.1)).mono ?_
    rintro e w1 ⟨b, rfl, hl1, hb1⟩
    have hE1 := HE.out.2.next hb1
    obtain ⟨⟨hf0, hf1, hf2⟩, hc0, hc1, hc2⟩ := hE1.facts
    have H3 := Lib.hid (And.intro hl1 (And.intro (HE.out.1.trans (hb1.mono HE.out.1.size)) (put3_same hE1)))
    clear hl1 hb1 hE1
    go_wp2_with fail
    refine bodyPost_ret (v := .tuple #[noRule, .iface 85 (.pointer (some ⟨b, 0, none⟩))]) (by simp [results, Tryz.results37, go_sem, hc0, hc1, hc2, noRule]) rfl ⟨b, rfl, ?_, ?_⟩
    · show (Tree.fault b ruleOp _ _).lies (put3 w1 w.heap.size _ _ _)
      rw [H3.out.2.2]; exact H3.out.1
    · show Below _ _ (put3 w1 w.heap.size _ _ _)
      rw [H3.out.2.2]; exact H3.out.2.1
  · rename_i hk
    obtain ⟨K, rfl⟩ : ∃ K : Nat, k = K := ⟨k.toNat, by omega⟩
    obtain ⟨R, rfl⟩ : ∃ R : Nat, r = R := ⟨r.toNat, by omega⟩
    have hk1 : 1 ≤ K := by omega
    have hk4 : K ≤ 4 := by omega
    have hr3 : R ≤ 3 := by omega
    rw [Int.toNat_natCast, Int.toNat_natCast] at hc
    split at hc
    · obtain ⟨rfl, rfl⟩ := Prod.mk.inj (Option.some.inj hc)
      rename_i hbig
      have hsz := fun W hW => small_size_big K R W A hW hk1 hk4 hr3 hbig
      have H := Lib.hid (And.intro hr hsz)
      clear hr hsz hm h hc hk hbig
      go_enter Tryz.func37, Tryz.ntmps37
      go_wp2_with fail
      obtain ⟨w0, hw0⟩ : ∃ w0, w0 = w.alloc (.cells #[.int .i64 0, .int .i64 0, .slice none 0 0] 24) := ⟨_, rfl⟩
      rw [← hw0]
      have HE := Lib.hid (ST.out w0 hw0)
      clear hw0
      go_wp2_with fail
      refine (H.out.2 w0 (H.out.1.below HE.out.1)).mono ?_
      rintro e w1 ⟨b, rfl, hl1, hb1⟩
      have hE1 := HE.out.2.next hb1
      obtain ⟨⟨hf0, hf1, hf2⟩, hc0, hc1, hc2⟩ := hE1.facts
      have H3 := Lib.hid (And.intro hl1 (And.intro (HE.out.1.trans (hb1.mono HE.out.1.size)) (put3_same hE1)))
      clear hl1 hb1 hE1
      go_wp2_with fail
      refine bodyPost_ret (v := .tuple #[noRule, .iface 85 (.pointer (some ⟨b, 0, none⟩))]) (by simp [results, Tryz.results37, go_sem, hc0, hc1, hc2, noRule]) rfl ⟨b, rfl, ?_, ?_⟩
      · show (Tree.fault b ruleOp _ _).lies (put3 w1 w.heap.size _ _ _)
        rw [H3.out.2.2]; exact H3.out.1
      · show Below _ _ (put3 w1 w.heap.size _ _ _)
        rw [H3.out.2.2]; exact H3.out.2.1
    · rename_i hsm
      split at hc
      · obtain ⟨rfl, rfl⟩ := Prod.mk.inj (Option.some.inj hc)
        rename_i hge
        have hsz := fun W => small_size_ok K R W hk1 hk4 hr3 (by omega)
        obtain ⟨S, hS⟩ : ∃ S, K ^ (2 * R + 1) = S := ⟨_, rfl⟩
        rw [hS] at hsm hge
        simp only [hS] at hsz
        have hat := fun W hR hW => at_over K S p m c a W A hR hm hW hk1 hk4 (by omega) hge
        have H := Lib.hid (And.intro hr (And.intro hsz (And.intro hat h)))
        clear hr hsz hm h hc hk hS hat hge
        go_enter Tryz.func37, Tryz.ntmps37
        go_wp2_with fail
        obtain ⟨w0, hw0⟩ : ∃ w0, w0 = w.alloc (.cells #[.int .i64 0, .int .i64 0, .slice none 0 0] 24) := ⟨_, rfl⟩
        rw [← hw0]
        have HE := Lib.hid (ST.out w0 hw0)
        clear hw0
        go_wp2_with fail
        refine (H.out.2.1 w0).mono ?_
        rintro e w1 ⟨rfl, rfl⟩
        go_wp2_with fail
        refine (H.out.2.2.1 w0 (H.out.1.below HE.out.1) (H.out.2.2.2.next HE.out.1)).mono ?_
        rintro e w1 ⟨b1, rfl, _, hb1⟩
        have hbw1 := HE.out.1.trans (hb1.mono HE.out.1.size)
        have H1 := Lib.hid (And.intro (HE.out.2.next hb1) hbw1)
        clear hb1 hbw1
        go_wp2_with fail
        refine (new_at ruleOp 1 3 w1 A (H.out.1.below H1.out.2) (by omega)).mono ?_
        rintro e w2 ⟨b, rfl, hl2, hb2⟩
        have hE1 := H1.out.1.next hb2
        obtain ⟨⟨hf0, hf1, hf2⟩, hc0, hc1, hc2⟩ := hE1.facts
        have H3 := Lib.hid (And.intro hl2 (And.intro (H1.out.2.trans (hb2.mono H1.out.2.size)) (put3_same hE1)))
        clear hl2 hb2 hE1
        go_wp2_with fail
        refine bodyPost_ret (v := .tuple #[noRule, .iface 85 (.pointer (some ⟨b, 0, none⟩))]) (by simp [results, Tryz.results37, go_sem, hc0, hc1, hc2, noRule]) rfl ⟨b, rfl, ?_, ?_⟩
        · show (Tree.fault b ruleOp _ _).lies (put3 w2 w.heap.size _ _ _)
          rw [H3.out.2.2]; exact H3.out.1
        · show Below _ _ (put3 w2 w.heap.size _ _ _)
          rw [H3.out.2.2]; exact H3.out.2.1
      · cases hc
end Go.Proofs.YtgdjnohhofbcnaaGreatDoor
end
section
namespace Go.Proofs.YtgdjnohhofbcnaaGreatDoor
open Go.RowKit NatM

/-- the quotient's digits from place j on, and the rest -/
structure QInv (a : List Nat) (d j r : Nat) (t : List Nat) : Prop where
  ok : okB 65536 t
  len : t.length = a.length
  car : r < d
  val : V16 (t.drop j) * d + r = V16 (a.drop j)
theorem QInv.start {a : List Nat} {d : Nat} (hd : 0 < d) : QInv a d a.length 0 (List.replicate a.length 0) := ⟨okB_replicate (by omega) _, by simp, hd, by rw [List.drop_length, List.drop_of_length_le (by simp)]; simp [V16, valB]⟩
theorem quo_lt {d r y : Nat} (hr : r < d) (hy : y < 65536) : (r * 65536 + y) / d < 65536 := by
  rw [Nat.div_lt_iff_lt_mul (by omega)]
  have : (r + 1) * 65536 ≤ d * 65536 := Nat.mul_le_mul_right _ hr
  omega
theorem quo_arith {q d r' r y Vd Vx : Nat} (h1 : d * q + r' = r * 65536 + y) (h2 : Vd * d + r = Vx) : (q + 65536 * Vd) * d + r' = y + 65536 * Vx := by
  rw [← h2, Nat.add_mul, Nat.mul_add, Nat.mul_assoc, Nat.mul_comm q d]
  omega
theorem QInv.step {a : List Nat} {d j r y : Nat} {t : List Nat} (h : QInv a d (j + 1) r t) (hy : a[j]? = some y) (hyl : y < 65536) : QInv a d j ((r * 65536 + y) % d) (t.set j ((r * 65536 + y) / d)) := by
  have hj := get_lt hy
  have hc := h.car
  obtain ⟨z, hz⟩ := some_get (l := t) (k := j) (by rw [h.len]; exact hj)
  refine ⟨okB_set h.ok (quo_lt hc hyl) _, by rw [List.length_set]; exact h.len, Nat.mod_lt _ (by omega), ?_⟩
  have hs : (t.set j ((r * 65536 + y) / d))[j]? = some ((r * 65536 + y) / d) := by rw [List.getElem?_set_self (get_lt hz)]
  show valB 65536 _ * d + _ = valB 65536 _
  rw [valB_dropq 65536 hs, valB_dropq 65536 hy, drop_set_succ]
  exact quo_arith (Nat.div_add_mod _ _) h.val
theorem QInv.done {a : List Nat} {d r : Nat} {t : List Nat} (h : QInv a d 0 r t) : V16 t = V16 a / d ∧ r = V16 a % d := by
  have hv := h.val
  have hc := h.car
  rw [List.drop_zero, List.drop_zero] at hv
  rw [← hv, Nat.mul_comm]
  constructor
  · rw [Nat.mul_add_div (by omega), Nat.div_eq_of_lt hc, Nat.add_zero]
  · rw [Nat.mul_add_mod, Nat.mod_eq_of_lt hc]

def OverRefErr (w : World) (e : Ending) (w' : World) : Prop := ∃ v, e = .returned (.tuple #[.slice none 0 0, .int .u32 0, v]) ∧ RefErr w 0 3 v w'
def OverRefOk (w : World) (n d : Nat) (e : Ending) (w' : World) : Prop :=
  ∃ p c, e = .returned (.tuple #[.slice p (D32 (n / d)).length c, .int .u32 ((n % d : Nat) : Int), noErr]) ∧ NatO w.heap.size w' p c (D32 (n / d)) ∧ Below w.heap.size w w'

set_option maxRecDepth 100000 in
set_option maxHeartbeats 2000000 in
theorem over_ref_zero (p : Option Addr) (n c : Nat) (w : World) :
    Calls Tryz.prog 97 #[.slice p n c, .int .u32 0] w (OverRefErr w) := by
  go_enter Tryz.func97, Tryz.ntmps97
  go_wp2_with fail
  obtain ⟨w0, hw0⟩ : ∃ w0, w0 = w.alloc (.cells #[.int .i64 0, .slice none 0 0, .slice none 0 0] 32) := ⟨_, rfl⟩
  rw [← hw0]
  have hb0 : Below w.heap.size w w0 := by rw [hw0]; exact (Below.refl _ _).alloc (Nat.le_refl _) _
  have hs0 : w.heap.size < w0.heap.size := by rw [hw0]; simp
  have hE0 : Err3 w0 w.heap.size (.int .i64 0) (.slice none 0 0) (.slice none 0 0) := by rw [hw0]; exact Err3.new w
  clear hw0
  refine (raw_fresh natOp 0 3 w0).mono ?_
  rintro e w2 ⟨g, g', rfl, ⟨hg1, hg2, hg3, hg4⟩, hcg, hcg', hb2⟩
  obtain ⟨⟨hf0, hf1, hf2⟩, hc0, hc1, hc2⟩ := (hE0.next hb2).facts
  have HB2 := Lib.hid (And.intro hcg (And.intro hcg' (hb0.trans (hb2.mono (by omega)))))
  clear hb2 hcg hcg' hb0 hE0
  go_wp2_with fail
  refine bodyPost_ret (v := .tuple #[.slice none 0 0, .int .u32 0, .agg #[.int .i64 3, .slice (some ⟨g, 0, none⟩) 1 1, .slice (some ⟨g', 0, none⟩) 1 1]]) (by simp [results, Tryz.results97, go_sem, hc0, hc1, hc2]) rfl ⟨_, rfl, _, _, rfl, ?_, ?_⟩
  · exact WantV.one (by simp; omega) (by simp; omega) ((put3_cell w2 w.heap.size _ _ _ _ (by simp; omega)).trans HB2.out.1) ((put3_cell w2 w.heap.size _ _ _ _ (by simp; omega)).trans HB2.out.2.1)
  · exact put3_below HB2.out.2.2 (Nat.le_refl _) _ _ _

def OverRefRel (B : Nat) (w3 : World) (a : List Nat) (d : Nat) (p : Option Addr) (cap : Nat) (v9 v10 : Value) (wr : World) : Prop :=
  ∃ (j r : Nat) (t : List Nat), j ≤ a.length ∧ v9 = .int .u64 (r : Int) ∧ v10 = .int .i64 ((j : Int) - 1) ∧ QInv a d j r t ∧ NatO B wr p cap t ∧ Below B w3 wr
set_option maxRecDepth 100000 in
set_option maxHeartbeats 4000000 in
theorem over_ref (p : Option Addr) (c : Nat) (l : List Nat) (d : Nat) (w : World) (h : NatV w.heap.size w p c l) (hl : l.length ≤ 1048576) (hd : 0 < d) (hdl : d < 4294967296) :
    Calls Tryz.prog 97 #[.slice p l.length c, .int .u32 (d : Int)] w (OverRefOk w (V32 l) d) := by
  have hal := half_len h.ok
  have H := Lib.hid h
  obtain ⟨A, hA⟩ : ∃ A, V32 l = A := ⟨_, rfl⟩
  have HA := Lib.hid hA
  rw [hA] at hal ⊢
  have hal2 : (D16 A).length ≤ 2097152 := by omega
  have hd0 : ((d : Int) == 0) = false := by rw [beq_eq_false_iff_ne]; omega
  clear h hA hal
  go_enter Tryz.func97, Tryz.ntmps97
  go_wp2_with fail
  obtain ⟨w0, hw0⟩ : ∃ w0, w0 = w.alloc (.cells #[.int .i64 0, .slice none 0 0, .slice none 0 0] 32) := ⟨_, rfl⟩
  rw [← hw0]
  have hb0 : Below w.heap.size w w0 := by rw [hw0]; exact (Below.refl _ _).alloc (Nat.le_refl _) _
  have hs0 : w.heap.size < w0.heap.size := by rw [hw0]; simp
  have hE0 : Err3 w0 w.heap.size (.int .i64 0) (.slice none 0 0) (.slice none 0 0) := by rw [hw0]; exact Err3.new w
  have hT1 := half_any p c l w0 (H.out.next hb0) hl
  rw [HA.out] at hT1
  clear hw0
  refine hT1.mono ?_
  clear hT1
  rintro e w3 ⟨p1, c1, rfl, ho1, hb2⟩
  have hs3 := hb2.size
  have hva : V16 (D16 A) = A := V16_D16 _
  have HV := Lib.hid (And.intro ho1.toV (And.intro (D16_ok A) hva))
  have HB3 := Lib.hid (And.intro (hE0.next hb2) (hb0.trans (hb2.mono (by omega))))
  clear ho1 hb2 hb0 hE0 hva
  obtain ⟨a, ha⟩ : ∃ a, D16 A = a := ⟨_, rfl⟩
  rw [ha] at HV hal2 ⊢
  clear ha
  have hmk := make32u a.length (by omega) w3
  go_wp2_with fail
  have hm0 := NatO.made w3 a.length (by omega)
  have hB3m : Below w3.heap.size w3 (w3.alloc (.cells (madeCells #[.int .u32 0] a.length) 94)) := (Below.refl w3.heap.size w3).alloc (Nat.le_refl _) _
  have hs4 : (w3.alloc (.cells (madeCells #[.int .u32 0] a.length) 94)).heap.size = w3.heap.size + 1 := by simp
  obtain ⟨w4, hw4⟩ : ∃ w4, w4 = w3.alloc (.cells (madeCells #[.int .u32 0] a.length) 94) := ⟨_, rfl⟩
  rw [← hw4] at hm0 hB3m hs4 ⊢
  have HM := Lib.hid (And.intro hm0 hB3m)
  clear hm0 hB3m hw4 hmk
  go_loopw [9, 10] (fun v9 v10 wr => OverRefRel w3.heap.size w3 a d (some ⟨w3.heap.size, 0, none⟩) a.length v9 v10 wr) (fun _ v _ => (intOf v + 1).toNat)
  case atStart => exact ⟨a.length, 0, List.replicate a.length 0, Nat.le_refl _, rfl, by go_num, QInv.start hd, HM.out.1, HM.out.2⟩
  case round =>
    obtain ⟨j, r, t, hj, rfl, rfl, hS, ho, hbx⟩ := hrel
    have hwB : w3.heap.size ≤ wr.heap.size := hbx.size
    have hrd := hS.car
    rcases Nat.eq_zero_or_pos j with rfl | hj0
    · have htl := hS.len
      obtain ⟨hd1, hd2⟩ := hS.done
      rw [HV.out.2.2] at hd1 hd2
      have hw := whole_any (some ⟨w3.heap.size, 0, none⟩) a.length t wr ho.toV hS.ok (by omega)
      rw [hd1, htl] at hw
      have HE := Lib.hid (And.intro (HB3.out.1.next hbx) (And.intro (HB3.out.2.trans (hbx.mono (by omega))) hd2))
      clear hS ho hbx htl hd1 hd2
      go_wp2_with fail
      refine hw.mono ?_
      rintro e w5 ⟨p5, c5, rfl, ho5, hb5⟩
      have hs5 := hb5.size
      obtain ⟨⟨hf0, hf1, hf2⟩, hk0, hk1, hk2⟩ := (HE.out.1.next hb5).facts
      have HW := Lib.hid (And.intro ho5 (HE.out.2.1.trans (hb5.mono (by omega))))
      clear hw ho5 hb5
      have hr32 : (r : Int) < 4294967296 := by omega
      go_wp2_with fail
      refine bodyPost_ret (v := .tuple #[.slice p5 (D32 (A / d)).length c5, .int .u32 (r : Int), noErr]) (by simp [results, Tryz.results97, go_sem, hk0, hk1, hk2, noErr]) rfl ⟨_, _, by rw [HE.out.2.2], ?_, ?_⟩
      · exact (HW.out.1.put3 (by omega) _ _ _).base (by omega)
      · exact put3_below HW.out.2 (Nat.le_refl _) _ _ _
    · obtain ⟨i, rfl⟩ : ∃ i, j = i + 1 := ⟨j - 1, by omega⟩
      rw [show (((i + 1 : Nat) : Int) - 1) = (i : Int) by omega]
      obtain ⟨y, hy⟩ := some_get (l := a) (k := i) (by omega)
      obtain ⟨ba, off, rfl, hba, hca⟩ := (HV.out.1.below hbx).cell (List.length_pos_iff.1 (by omega))
      have hcx := hca i y hy
      have hyl : y < 65536 := ok_get HV.out.2.1 hy
      have hst := hS.step hy hyl
      have hql := quo_lt hrd hyl
      have htl := hS.len
      obtain ⟨g, hg, hgb, hgl, hcells, hfrz⟩ := ho.shape (by omega)
      obtain rfl : w3.heap.size = g := by simpa using hg
      obtain ⟨z, hz⟩ := some_get (l := t) (k := i) (by omega)
      have hcz := hcells i z hz
      have hfz := hfrz i
      obtain ⟨N, hN⟩ : ∃ N, r * 65536 + y = N := ⟨_, rfl⟩
      have hNi : (r : Int) * 65536 + (y : Int) = (N : Int) := by omega
      have hNl : N < 281474976710656 := by omega
      rw [hN] at hst hql
      obtain ⟨Q, hQ⟩ : ∃ Q, N / d = Q := ⟨_, rfl⟩
      obtain ⟨R, hR⟩ : ∃ R, N % d = R := ⟨_, rfl⟩
      have hQi : (N : Int) / (d : Int) = (Q : Int) := by rw [← hQ]; omega
      have hRi : (N : Int) % (d : Int) = (R : Int) := by rw [← hR]; omega
      have hRl : R < d := by rw [← hR]; exact Nat.mod_lt _ hd
      rw [hQ] at hst hql
      rw [hR] at hst
      have HX := Lib.hid (And.intro hst (And.intro (NatO.store ho i Q (by omega)) hbx))
      have hil : i < a.length := by omega
      clear hca hy hst hS htl ho hg hcells hfrz hz hbx hN hQ hR
      go_wp2_with fail
      go_roundw
      case rel =>
        refine ⟨i, R, t.set i Q, by omega, by rw [hRi], rfl, HX.out.1, HX.out.2.1, HX.out.2.2.setCell (Nat.le_refl _) _⟩
      case measure => simp [intOf]
end Go.Proofs.YtgdjnohhofbcnaaGreatDoor
end
section
namespace Go.Proofs.YtgdjnohhofbcnaaGreatDoor
open Go.RowKit NatM

set_option maxRecDepth 100000 in
set_option maxHeartbeats 2000000 in
theorem pow_ref_neg (k n : Int) (w : World) (hn : n < 0) :
    Calls Tryz.prog 101 #[.int .u32 k, .int .i64 n] w (RefErr2 w 0 3) := by
  go_enter Tryz.func101, Tryz.ntmps101
  go_wp2_with fail
  obtain ⟨w0, hw0⟩ : ∃ w0, w0 = w.alloc (.cells #[.int .i64 0, .slice none 0 0, .slice none 0 0] 32) := ⟨_, rfl⟩
  rw [← hw0]
  have hb0 : Below w.heap.size w w0 := by rw [hw0]; exact (Below.refl _ _).alloc (Nat.le_refl _) _
  have hs0 : w.heap.size < w0.heap.size := by rw [hw0]; simp
  have hE0 : Err3 w0 w.heap.size (.int .i64 0) (.slice none 0 0) (.slice none 0 0) := by rw [hw0]; exact Err3.new w
  clear hw0
  refine (raw_fresh natOp 0 3 w0).mono ?_
  rintro e w2 ⟨g, g', rfl, ⟨hg1, hg2, hg3, hg4⟩, hcg, hcg', hb2⟩
  obtain ⟨⟨hf0, hf1, hf2⟩, hc0, hc1, hc2⟩ := (hE0.next hb2).facts
  have HB2 := Lib.hid (And.intro hcg (And.intro hcg' (hb0.trans (hb2.mono (by omega)))))
  clear hb2 hcg hcg' hb0 hE0
  go_wp2_with fail
  refine bodyPost_ret (v := .tuple #[.slice none 0 0, .agg #[.int .i64 3, .slice (some ⟨g, 0, none⟩) 1 1, .slice (some ⟨g', 0, none⟩) 1 1]]) (by simp [results, Tryz.results101, go_sem, hc0, hc1, hc2]) rfl ⟨_, rfl, _, _, rfl, ?_, ?_⟩
  · exact WantV.one (by simp; omega) (by simp; omega) ((put3_cell w2 w.heap.size _ _ _ _ (by simp; omega)).trans HB2.out.1) ((put3_cell w2 w.heap.size _ _ _ _ (by simp; omega)).trans HB2.out.2.1)
  · exact put3_below HB2.out.2.2 (Nat.le_refl _) _ _ _
set_option maxRecDepth 100000 in
set_option maxHeartbeats 2000000 in
theorem pow_ref_big (k n : Int) (w : World) (hn : 1024 < n) (h0 : ¬ n < 0) :
    Calls Tryz.prog 101 #[.int .u32 k, .int .i64 n] w (RefErr2 w 0 4) := by
  go_enter Tryz.func101, Tryz.ntmps101
  go_wp2_with fail
  obtain ⟨w0, hw0⟩ : ∃ w0, w0 = w.alloc (.cells #[.int .i64 0, .slice none 0 0, .slice none 0 0] 32) := ⟨_, rfl⟩
  rw [← hw0]
  have hb0 : Below w.heap.size w w0 := by rw [hw0]; exact (Below.refl _ _).alloc (Nat.le_refl _) _
  have hs0 : w.heap.size < w0.heap.size := by rw [hw0]; simp
  have hE0 : Err3 w0 w.heap.size (.int .i64 0) (.slice none 0 0) (.slice none 0 0) := by rw [hw0]; exact Err3.new w
  clear hw0
  refine (raw_fresh natOp 0 4 w0).mono ?_
  rintro e w2 ⟨g, g', rfl, ⟨hg1, hg2, hg3, hg4⟩, hcg, hcg', hb2⟩
  obtain ⟨⟨hf0, hf1, hf2⟩, hc0, hc1, hc2⟩ := (hE0.next hb2).facts
  have HB2 := Lib.hid (And.intro hcg (And.intro hcg' (hb0.trans (hb2.mono (by omega)))))
  clear hb2 hcg hcg' hb0 hE0
  go_wp2_with fail
  refine bodyPost_ret (v := .tuple #[.slice none 0 0, .agg #[.int .i64 4, .slice (some ⟨g, 0, none⟩) 1 1, .slice (some ⟨g', 0, none⟩) 1 1]]) (by simp [results, Tryz.results101, go_sem, hc0, hc1, hc2]) rfl ⟨_, rfl, _, _, rfl, ?_, ?_⟩
  · exact WantV.one (by simp; omega) (by simp; omega) ((put3_cell w2 w.heap.size _ _ _ _ (by simp; omega)).trans HB2.out.1) ((put3_cell w2 w.heap.size _ _ _ _ (by simp; omega)).trans HB2.out.2.1)
  · exact put3_below HB2.out.2.2 (Nat.le_refl _) _ _ _

theorem D32_pow {k i : Nat} (hk : k < 4294967296) : (D32 (k ^ i)).length ≤ i + 1 := by
  refine D32_len ?_
  have h1 : k ^ i ≤ 4294967296 ^ i := Nat.pow_le_pow_left (by omega) i
  have h2 : 4294967296 ^ i < 4294967296 ^ (i + 1) := Nat.pow_lt_pow_right (by omega) (by omega)
  omega
def PowRefRel (B : Nat) (w0 : World) (k n : Nat) (v6 v7 : Value) (wr : World) : Prop :=
  ∃ (i : Nat) (p : Option Addr) (c : Nat), i ≤ n ∧ v7 = .int .i64 (i : Int) ∧ v6 = .slice p (D32 (k ^ i)).length c ∧ NatO B wr p c (D32 (k ^ i)) ∧ Below B w0 wr
theorem NatO.one (w : World) (x : Nat) (hx : x < 4294967296) : NatO w.heap.size (w.alloc (.cells #[.int .u32 (x : Int)] 94)) (some ⟨w.heap.size, 0, none⟩) 1 [x] :=
  NatO.laid w [x] #[.int .u32 (x : Int)] 1 rfl rfl (by simp) (okB_one hx)
theorem V32_one (x : Nat) : V32 [x] = x := by simp [V32, valB]
set_option maxRecDepth 100000 in
set_option maxHeartbeats 2000000 in
theorem pow_ref (k n : Nat) (hk : k < 4294967296) (hn : n ≤ 1024) (w : World) :
    Calls Tryz.prog 101 #[.int .u32 (k : Int), .int .i64 (n : Int)] w (RefOk2 w (k ^ n)) := by
  go_enter Tryz.func101, Tryz.ntmps101
  go_wp2_with fail
  obtain ⟨w0, hw0⟩ : ∃ w0, w0 = w.alloc (.cells #[.int .i64 0, .slice none 0 0, .slice none 0 0] 32) := ⟨_, rfl⟩
  have hs1 : w.heap.size + 1 = w0.heap.size := by rw [hw0]; simp
  rw [← hw0]
  try rw [hs1]
  have hb0 : Below w.heap.size w w0 := by rw [hw0]; exact (Below.refl _ _).alloc (Nat.le_refl _) _
  have hE0 : Err3 w0 w.heap.size (.int .i64 0) (.slice none 0 0) (.slice none 0 0) := by rw [hw0]; exact Err3.new w
  have ho1 : NatO w0.heap.size (w0.alloc (.cells #[.int .u32 1] 94)) (some ⟨w0.heap.size, 0, none⟩) 1 (D32 1) := by rw [D32_1]; exact NatO.one w0 1 (by omega)
  have hb1 : Below w0.heap.size w0 (w0.alloc (.cells #[.int .u32 1] 94)) := (Below.refl _ _).alloc (Nat.le_refl _) _
  have H0 := Lib.hid (And.intro hE0 (And.intro hb0 (And.intro ho1 hb1)))
  clear hw0 hb0 hE0 ho1 hb1
  go_loopw [6, 7] (fun v6 v7 wr => PowRefRel w0.heap.size w0 k n v6 v7 wr) (fun _ v _ => n - (intOf v).toNat)
  case atStart => exact ⟨0, some ⟨w0.heap.size, 0, none⟩, 1, Nat.zero_le _, rfl, by rw [Nat.pow_zero, D32_1]; rfl, by rw [Nat.pow_zero]; exact H0.out.2.2.1, H0.out.2.2.2⟩
  case round =>
    obtain ⟨i, p, c, hi, rfl, rfl, ho, hb⟩ := hrel
    have hwB : w0.heap.size ≤ wr.heap.size := hb.size
    have hlen := D32_pow (i := i) hk
    by_cases hlt : i < n
    · have hw1 : Below wr.heap.size wr (wr.alloc (.cells #[.int .u32 (k : Int)] 94)) := (Below.refl _ _).alloc (Nat.le_refl _) _
      have hk1 := NatO.one wr k hk
      have hws : (wr.alloc (.cells #[.int .u32 (k : Int)] 94)).heap.size = wr.heap.size + 1 := by simp
      have hm := mul_ref p (some ⟨wr.heap.size, 0, none⟩) c 1 (D32 (k ^ i)) [k] (wr.alloc (.cells #[.int .u32 (k : Int)] 94)) (ho.next hw1).toV hk1.toV (by omega) (by simp)
      rw [V32_D32, V32_one, ← Nat.pow_succ] at hm
      have HB := Lib.hid (hb.trans (hw1.mono hwB))
      clear ho hb hlen hw1 hk1
      go_wp2_with fail
      refine hm.mono ?_
      rintro e w2 ⟨p2, c2, rfl, ho2, hb2⟩
      have H2 := Lib.hid (And.intro ho2 hb2)
      clear hm ho2 hb2
      go_wp2_with fail
      go_roundw
      case rel => exact ⟨i + 1, p2, c2, by omega, by go_num, rfl, H2.out.1.base (by omega), HB.out.trans (H2.out.2.mono (by omega))⟩
      case measure => simp [intOf]; omega
    · obtain rfl : i = n := by omega
      obtain ⟨⟨hf0, hf1, hf2⟩, hk0, hk1, hk2⟩ := (H0.out.1.next hb).facts
      have HW := Lib.hid (And.intro ho (H0.out.2.1.trans (hb.mono (by omega))))
      clear ho hb hlen
      go_wp2_with fail
      refine bodyPost_ret (v := .tuple #[.slice p (D32 (k ^ i)).length c, noErr]) (by simp [results, Tryz.results101, go_sem, hk0, hk1, hk2, noErr]) rfl ⟨_, _, rfl, ?_, ?_⟩
      · exact (HW.out.1.put3 (by omega) _ _ _).base (by omega)
      · exact put3_below HW.out.2 (Nat.le_refl _) _ _ _
end Go.Proofs.YtgdjnohhofbcnaaGreatDoor
end
section
namespace Go.Proofs.YtgdjnohhofbcnaaGreatDoor
open Go.RowKit Go.Extern.Stop Go.Stop Go.Extern WordM RuleM NatM

/-- what Pow tells, the error written out -/
def PowOutR (w : World) (N : Nat) (e : Ending) (w' : World) : Prop :=
  ∃ p c, e = .returned (.tuple #[.slice p (D32 N).length c, .agg #[.int .i64 0, .slice none 0 0, .slice none 0 0]]) ∧ NatO w.heap.size w' p c (D32 N) ∧ Below w.heap.size w w'
def SizeOutR (w : World) (n : Nat) (e : Ending) (w' : World) : Prop := e = .returned (.tuple #[.int .i64 (n : Int), .agg #[.int .i64 0, .slice none 0 0, .slice none 0 0]]) ∧ Below w.heap.size w w'
def OverOutR (w : World) (q d : Nat) (e : Ending) (w' : World) : Prop :=
  ∃ p c, e = .returned (.tuple #[.slice p (D32 q).length c, .int .u32 ((d : Nat) : Int), .agg #[.int .i64 0, .slice none 0 0, .slice none 0 0]]) ∧ NatO w.heap.size w' p c (D32 q) ∧ Below w.heap.size w w'
theorem D32_small {K S : Nat} (h4 : K ≤ 4) (hS : S ≤ 256) : (D32 (K ^ S)).length ≤ 300 :=
  Nat.le_trans (D32_len (k := S + 1) (Nat.lt_of_le_of_lt (Nat.pow_le_pow_left (Nat.le_trans h4 (by omega)) S) (Nat.pow_lt_pow_right (by omega) (by omega)))) (by omega)

/-- the rule with this number, and no error -/
def FromRef (w : World) (k r i : Nat) (e : Ending) (w' : World) : Prop :=
  ∃ t p c, OkR k r t ∧ codeR k t = i ∧ e = .returned (.tuple #[.agg #[.int .i64 (k : Int), .int .i64 (r : Int), .slice p t.length c], noErr]) ∧ IntO w.heap.size w' p c t ∧ Below w.heap.size w w'
def FromRefRel (wK : World) (K R S V : Nat) (v13 v14 : Value) (wr : World) : Prop :=
  ∃ (i X : Nat) (q : Option Addr) (cq : Nat) (x : List Int), i ≤ S ∧ v14 = .int .i64 (i : Int) ∧ v13 = .slice q (D32 X).length cq ∧ NatV wr.heap.size wr q cq (D32 X) ∧ (D32 X).length ≤ 100000 ∧
    x.length = i ∧ okW K x ∧ valW K x.reverse + K ^ i * X = V ∧ IntO wK.heap.size wr (some ⟨wK.heap.size, 0, none⟩) S (x ++ List.replicate (S - i) 0) ∧ Rul3 wr (wK.heap.size + 1) (.int .i64 (K : Int)) (.int .i64 (R : Int)) (.slice (some ⟨wK.heap.size, 0, none⟩) S S) ∧ Below wK.heap.size wK wr
set_option maxRecDepth 100000 in
set_option maxHeartbeats 8000000 in
theorem from_ref_ok (K R : Nat) (p : Option Addr) (al c : Nat) (a : List Nat) (w : World) (hal : a.length = al) (h : NatV w.heap.size w p c a) (hl : a.length ≤ 1000) (h1 : 1 ≤ K) (h4 : K ≤ 4) (h3 : R ≤ 3) (hs : K ^ (2 * R + 1) ≤ 256) (hlt : V32 a < K ^ (K ^ (2 * R + 1))) :
    Calls Tryz.prog 42 #[.int .i64 (K : Int), .int .i64 (R : Int), .slice p al c] w (FromRef w K R (V32 a)) := by
  have hsz : ∀ W, Calls Tryz.prog 39 #[.int .i64 (K : Int), .int .i64 (R : Int)] W (SizeOutR W (K ^ (2 * R + 1))) := fun W => size_ref_ok K R W h1 h4 h3
  obtain ⟨S, hS⟩ : ∃ S, K ^ (2 * R + 1) = S := ⟨_, rfl⟩
  rw [hS] at hs hlt
  simp only [hS] at hsz
  have HZ := Lib.hid hsz
  have hpw : ∀ W, Calls Tryz.prog 101 #[.int .u32 (K : Int), .int .i64 (S : Int)] W (PowOutR W (K ^ S)) := fun W => pow_ref K S (by omega) (by omega) W
  have hpl := D32_small h4 hs
  have hltp := hlt
  obtain ⟨PW, hPW⟩ : ∃ PW, K ^ S = PW := ⟨_, rfl⟩
  rw [hPW] at hpl hlt
  simp only [hPW] at hpw
  have HW := Lib.hid hpw
  have H := Lib.hid (And.intro h (And.intro hl (And.intro hpl (cmp_lt hlt))))
  have HV := Lib.hid (And.intro hltp hS)
  have hwk : IntKind.u32.wrap (K : Int) = (K : Int) := by rw [IntKind.wrap_u32]; omega
  have hs' : ¬ (256 : Int) < (S : Int) := by omega
  have hmk := makeI S (by omega)
  clear hsz hpw hPW hlt hpl h hl hltp hS
  go_enter Tryz.func42, Tryz.ntmps42
  go_upto_region 1 with fail
  obtain ⟨w0, hw0⟩ : ∃ w0, w0 = (w.alloc (.cells #[.int .i64 0, .int .i64 0, .slice none 0 0] 24)).alloc (.cells #[.int .i64 0, .slice none 0 0, .slice none 0 0] 32) := ⟨_, rfl⟩
  obtain ⟨hb0, hR0, hE0⟩ := start_both w _ _ _ w0 hw0
  rw [← hw0]
  have hszb : (w.alloc (.cells #[.int .i64 0, .int .i64 0, .slice none 0 0] 24)).heap.size = w.heap.size + 1 := by simp
  have HE := Lib.hid (And.intro hR0 (And.intro hE0 hb0))
  clear hw0 hR0 hE0 hb0
  go_wp2_with fail
  refine (HZ.out w0).mono ?_
  rintro e w1 ⟨rfl, hb1⟩
  obtain ⟨wB, hwB⟩ : ∃ x, x = w1.alloc (.cells #[.int .i64 0, .slice none 0 0, .slice none 0 0] 32) := ⟨_, rfl⟩
  have hbB : Below w1.heap.size w1 wB := by rw [hwB]; exact (Below.refl _ _).alloc (Nat.le_refl _) _
  have hEB : Err3 wB w1.heap.size (.int .i64 0) (.slice none 0 0) (.slice none 0 0) := by rw [hwB]; exact ⟨heap_newN w1 _⟩
  have hRB := (HE.out.1.next hb1).next hbB
  have hE1 := (HE.out.2.1.next hb1).next hbB
  have hbw : Below w.heap.size w wB := (HE.out.2.2.trans (hb1.mono HE.out.2.2.size)).trans (hbB.mono (Nat.le_trans HE.out.2.2.size hb1.size))
  obtain ⟨_, hk0, hk1, hk2⟩ := hEB.facts
  have H1 := Lib.hid (And.intro hRB (And.intro hE1 hbw))
  clear hb1 hbB hEB hE1 hbw hRB
  go_upto_region 2 with fail
  rw [← hwB]
  clear hwB
  go_wp2_with fail
  refine (bad_no (.slice none 0 0) (.slice none 0 0) wB).mono ?_
  rintro e wq ⟨rfl, hbq⟩
  have HQ := Lib.hid (And.intro (H1.out.1.next hbq) (And.intro (H1.out.2.1.next hbq) (H1.out.2.2.trans (hbq.mono H1.out.2.2.size))))
  clear hbq hk0 hk1 hk2
  go_wp2_with fail
  refine (HW.out wq).mono ?_
  rintro e w5 ⟨p5, c5, rfl, ho5, hb5⟩
  go_upto_region 7 with fail
  obtain ⟨wP, hwP⟩ : ∃ x, x = w5.alloc (.cells #[.int .i64 0, .slice none 0 0, .slice none 0 0] 32) := ⟨_, rfl⟩
  have hbP : Below w5.heap.size w5 wP := by rw [hwP]; exact (Below.refl _ _).alloc (Nat.le_refl _) _
  rw [← hwP]
  have hqP := hb5.trans (hbP.mono hb5.size)
  have HP := Lib.hid (And.intro (HQ.out.1.next hqP) (And.intro (HQ.out.2.1.next hqP) (And.intro (HQ.out.2.2.trans (hqP.mono HQ.out.2.2.size)) (ho5.next hbP).toV)))
  clear hwP hbP hqP ho5 hb5
  go_wp2_with fail
  have hcmp := cmp_ref p p5 c c5 a (D32 PW) wP (H.out.1.next HP.out.2.2.1) HP.out.2.2.2 (by have := H.out.2.1; omega) (by have := H.out.2.2.1; omega)
  rw [V32_D32, H.out.2.2.2] at hcmp
  rw [hal] at hcmp
  refine hcmp.mono ?_
  clear hcmp
  rintro e wK ⟨rfl, hbK⟩
  have hK1 := HP.out.1.next hbK
  have hK2 := HP.out.2.1.next hbK
  have HK := Lib.hid (And.intro hK1 (And.intro hK2 (HP.out.2.2.1.trans (hbK.mono HP.out.2.2.1.size))))
  clear hbK hK1 hK2
  go_wp2_with fail
  have hmk1 := hmk wK
  clear hmk
  go_upto_region 10 with fail
  have hO0 := IntO.made wK S (by omega)
  have hbm : Below wK.heap.size wK (wK.alloc (.cells (madeCells #[.int .i64 0] S) 3)) := (Below.refl _ _).alloc (Nat.le_refl _) _
  have hsm : (wK.alloc (.cells (madeCells #[.int .i64 0] S) 3)).heap.size = wK.heap.size + 1 := by simp
  obtain ⟨wM, hwM⟩ : ∃ x, x = (wK.alloc (.cells (madeCells #[.int .i64 0] S) 3)).alloc (.cells #[.int .i64 (K : Int), .int .i64 (R : Int), .slice (some ⟨wK.heap.size, 0, none⟩) S S] 24) := ⟨_, rfl⟩
  have hbM : Below (wK.alloc (.cells (madeCells #[.int .i64 0] S) 3)).heap.size (wK.alloc (.cells (madeCells #[.int .i64 0] S) 3)) wM := by rw [hwM]; exact (Below.refl _ _).alloc (Nat.le_refl _) _
  have hEM := Rul3.new (wK.alloc (.cells (madeCells #[.int .i64 0] S) 3)) (.int .i64 (K : Int)) (.int .i64 (R : Int)) (.slice (some ⟨wK.heap.size, 0, none⟩) S S)
  rw [← hwM, hsm] at hEM
  rw [← hwM]
  have hOM := hO0.next hbM
  have hKM : Below wK.heap.size wK wM := hbm.trans (hbM.mono (by omega))
  have HM := Lib.hid (And.intro hEM (And.intro hOM hKM))
  clear hEM hOM hKM hbM hwM hsm hbm hO0 hmk1
  go_wp2_with fail
  have hnorm := norm_any p c a wM ((H.out.1.next HK.out.2.2).next HM.out.2.2) (by have := H.out.2.1; omega)
  rw [hal] at hnorm
  refine hnorm.mono ?_
  clear hnorm
  rintro e w9 ⟨p9, c9, rfl, ho9, hb9⟩
  have H9 := Lib.hid (And.intro ho9.toV (And.intro (HM.out.1.next hb9) (And.intro (HM.out.2.1.next hb9) (HM.out.2.2.trans (hb9.mono HM.out.2.2.size)))))
  clear ho9 hb9
  obtain ⟨V, hV⟩ : ∃ V, V32 a = V := ⟨_, rfl⟩
  rw [hV]
  have HVV := Lib.hid hV
  clear hV
  go_wp2_with fail
  go_loopw [13, 14] (fun v13 v14 wr => FromRefRel wK K R S V v13 v14 wr) (fun _ v _ => S - (intOf v).toNat)
  case atStart => exact ⟨0, V, p9, c9, [], Nat.zero_le _, rfl, rfl, by rw [← HVV.out]; exact H9.out.1, Nat.le_trans (by rw [← HVV.out]; exact D32_le H.out.1.ok) (by have := H.out.2.1; omega), rfl, okW_nil K, by simp [valW], by simpa using H9.out.2.2.1, H9.out.2.1, H9.out.2.2.2⟩
  case round =>
    obtain ⟨i, X, q, cq, x, hi, rfl, rfl, hq, hql, hxl, hxo, hxv, ho, hbx, hb⟩ := hrel
    by_cases hlt : i < S
    · have hov : Calls Tryz.prog 97 #[.slice q (D32 X).length cq, .int .u32 (K : Int)] wr (OverOutR wr (X / K) (X % K)) := by
        have := over_ref q cq (D32 X) K wr hq (by omega) (by omega) (by omega)
        rw [V32_D32] at this
        exact this
      have hdl : X % K < K := Nat.mod_lt _ (by omega)
      have hst := at_step (k := K) (p := i) (i := X) (i0 := V) (l := x.reverse) (by rw [List.length_reverse, hxl]) hxv
      obtain ⟨D, hD⟩ : ∃ D, X % K = D := ⟨_, rfl⟩
      obtain ⟨Q, hQ⟩ : ∃ Q, X / K = Q := ⟨_, rfl⟩
      have hQl : (D32 Q).length ≤ 100000 := by
        have h1 : Q ≤ X := by rw [← hQ]; exact Nat.div_le_self _ _
        rcases Nat.lt_or_ge 100000 (D32 Q).length with h2 | h2
        · have := cmp_len (m := X) (n := Q) (by omega)
          omega
        · exact h2
      rw [hD] at hov hdl hst
      rw [hQ] at hov hst
      have HR := Lib.hid (And.intro hov (And.intro hst (And.intro hxl (And.intro hxo (And.intro ho (And.intro hbx (And.intro hb hQl)))))))
      have hD4 : D < 4 := by omega
      have HDK := Lib.hid hdl
      clear hov hst hxl hxo ho hbx hb hq hxv hD hQ hql hQl hdl
      go_wp2_with fail
      refine HR.out.1.mono ?_
      rintro e wO ⟨pO, cO, rfl, hoO, hbO⟩
      go_upto_region 15 with fail
      obtain ⟨wS, hwS⟩ : ∃ x, x = wO.alloc (.cells #[.int .i64 0, .slice none 0 0, .slice none 0 0] 32) := ⟨_, rfl⟩
      have hbS : Below wO.heap.size wO wS := by rw [hwS]; exact (Below.refl _ _).alloc (Nat.le_refl _) _
      rw [← hwS]
      have hrS := hbO.trans (hbS.mono hbO.size)
      have hrow := HR.out.2.2.2.2.1.next hrS
      have hbox := HR.out.2.2.2.2.2.1.next hrS
      have hlen : (x ++ List.replicate (S - i) (0 : Int)).length = S := by rw [List.length_append, List.length_replicate, HR.out.2.2.1]; omega
      have hset : ∀ v : Int, (x ++ List.replicate (S - i) (0 : Int)).set i v = x ++ [v] ++ List.replicate (S - (i + 1)) 0 := fun v => by
        obtain ⟨m, hm⟩ : ∃ m, S - i = m + 1 := ⟨S - i - 1, by omega⟩
        rw [hm, show S - (i + 1) = m by omega, List.replicate_succ, List.set_append_right _ _ (by rw [HR.out.2.2.1]; omega), HR.out.2.2.1, Nat.sub_self]
        simp
      obtain ⟨xs, hxs⟩ : ∃ xs, x ++ List.replicate (S - i) (0 : Int) = xs := ⟨_, rfl⟩
      rw [hxs] at hrow hlen
      simp only [hxs] at hset
      have hown : wS.ownsRow wK.heap.size 3 1 (.slice (some ⟨wK.heap.size, 0, none⟩) S S) S (cI xs) := by
        unfold IntO at hrow
        rwa [hlen] at hrow
      obtain ⟨y0, hy0⟩ := getI (l := xs) (k := i) (by omega)
      have hcy : wS.cell? ⟨wK.heap.size, i, none⟩ = some (.int .i64 y0) := (hown.cellAt i (by omega)).trans (cI_get hy0)
      have hfy : wS.frozen? ⟨wK.heap.size, i, none⟩ = false := hown.frozenAt i
      obtain ⟨s1, _⟩ := hown.stored i (.int .i64 (D : Int))
      rw [← cI_set, hset] at s1
      obtain ⟨_, hk0, hk1, hk2⟩ := hbox.facts
      have hltg : wK.heap.size < wr.heap.size := by have := HR.out.2.2.2.2.2.1.lt; omega
      have hbox2 := hbox.setOther wK.heap.size i (by omega) (.int .i64 (D : Int))
      have hbK2 : Below wK.heap.size wK (wS.setCell ⟨wK.heap.size, i, none⟩ (.int .i64 (D : Int))) := (HR.out.2.2.2.2.2.2.1.trans (hrS.mono HR.out.2.2.2.2.2.2.1.size)).setCell (p := ⟨wK.heap.size, i, none⟩) (Nat.le_refl _) _
      have hq2 : NatO wr.heap.size (wS.setCell ⟨wK.heap.size, i, none⟩ (.int .i64 (D : Int))) pO cO (D32 Q) := ⟨ownsRow_setCell_below (hoO.next hbS).own (a := ⟨wK.heap.size, i, none⟩) hltg _, (hoO.next hbS).ok⟩
      have HF := Lib.hid (And.intro s1 (And.intro hbox2 (And.intro hbK2 hq2.toV)))
      clear hwS hbS hrS hrow hbox hlen hset hxs hown hy0 s1 hbox2 hbK2 hq2 hoO hbO
      go_wp2_with fail
      go_roundw
      case rel =>
        refine ⟨i + 1, Q, pO, cO, x ++ [(D : Int)], by omega, by go_num, rfl, HF.out.2.2.2, HR.out.2.2.2.2.2.2.2, by rw [List.length_append, HR.out.2.2.1]; rfl, ?_, ?_, ?_, HF.out.2.1, HF.out.2.2.1⟩
        · exact okW_app HR.out.2.2.2.1 (fun y hy => by simp at hy; have := HDK.out; omega)
        · rw [List.reverse_append]; exact HR.out.2.1
        · unfold IntO
          have : (x ++ [(D : Int)] ++ List.replicate (S - (i + 1)) (0 : Int)).length = S := by rw [List.length_append, List.length_append, List.length_replicate, HR.out.2.2.1]; simp; omega
          rw [this]; exact HF.out.1
      case measure => simp [intOf]; omega
    · obtain rfl : i = S := by omega
      have hval : valW K x.reverse = V := at_done (n := i) (i := X) (l := x.reverse) hxv (by rw [← HVV.out]; exact HV.out.1)
      have hok : OkR K R x := ⟨h1, h4, h3, by rw [hxl, HV.out.2], hxo⟩
      have hx0 : x ++ List.replicate (i - i) (0 : Int) = x := by rw [Nat.sub_self, List.replicate_zero, List.append_nil]
      rw [hx0] at ho
      obtain ⟨_, hk0, hk1, hk2⟩ := hbx.facts
      obtain ⟨⟨hf0, hf1, hf2⟩, hc0, hc1, hc2⟩ := (HK.out.2.1.next hb).facts
      obtain ⟨⟨he0, he1, he2⟩, hd0, hd1, hd2⟩ := (HK.out.1.next hb).facts
      have hlt7 : w.heap.size + 1 < wK.heap.size := HK.out.2.1.lt
      have HF := Lib.hid (And.intro hval (And.intro hok (And.intro ho (And.intro (HK.out.2.2.trans (hb.mono HK.out.2.2.size)) hxl))))
      have hne1 : wK.heap.size + 1 ≠ w.heap.size := by omega
      have hne2 : wK.heap.size + 1 ≠ w.heap.size + 1 := by omega
      clear hval hok ho hbx hb hx0 hxl hxv hxo hq hql
      go_wp2_with fail
      refine bodyPost_ret (v := .tuple #[.agg #[.int .i64 (K : Int), .int .i64 (R : Int), .slice (some ⟨wK.heap.size, 0, none⟩) i i], noErr]) (by simp [results, Tryz.results42, go_sem, hc0, hc1, hc2, hd0, hd1, hd2, noErr]) rfl ⟨x, some ⟨wK.heap.size, 0, none⟩, i, HF.out.2.1, by rw [HVV.out]; exact HF.out.1, by rw [HF.out.2.2.2.2], ?_, ?_⟩
      · exact ((HF.out.2.2.1.put3 (by omega) _ _ _).put3 hlt7 _ _ _).base (by omega)
      · exact put3_below (put3_below HF.out.2.2.2.1 (Nat.le_refl _) _ _ _) (Nat.le_succ _) _ _ _


set_option maxRecDepth 100000 in
set_option maxHeartbeats 8000000 in
theorem from_ref_bad (k r : Int) (p : Option Addr) (al c : Nat) (a : List Nat) (w : World) (hal : a.length = al) (h : NatV w.heap.size w p c a) (hl : a.length ≤ 1000) (i m : Nat) (hc : chkF k r (V32 a) = some (i, m)) :
    Calls Tryz.prog 42 #[.int .i64 k, .int .i64 r, .slice p al c] w (RefErrR2 w noRule i m) := by
  unfold chkF at hc
  split at hc
  · obtain ⟨rfl, rfl⟩ := Prod.mk.inj (Option.some.inj hc)
    rename_i hk
    have hsz := fun W => size_ref_bad k r W hk
    have HZ := Lib.hid hsz
    clear hsz hal h hl hc hk
    go_enter Tryz.func42, Tryz.ntmps42
    go_upto_region 1 with fail
    obtain ⟨w0, hw0⟩ : ∃ w0, w0 = (w.alloc (.cells #[.int .i64 0, .int .i64 0, .slice none 0 0] 24)).alloc (.cells #[.int .i64 0, .slice none 0 0, .slice none 0 0] 32) := ⟨_, rfl⟩
    obtain ⟨hb0, hR0, hE0⟩ := start_both w _ _ _ w0 hw0
    rw [← hw0]
    have hszb : (w.alloc (.cells #[.int .i64 0, .int .i64 0, .slice none 0 0] 24)).heap.size = w.heap.size + 1 := by simp
    have HE := Lib.hid (And.intro hR0 (And.intro hE0 hb0))
    clear hw0 hR0 hE0 hb0
    go_wp2_with fail
    refine (HZ.out w0).mono ?_
    rintro e w1 ⟨v, rfl, g, g', rfl, ⟨hg1, hg2⟩, hw, hb1⟩
    obtain ⟨wB, hwB⟩ : ∃ x, x = w1.alloc (.cells #[.int .i64 3, .slice (some ⟨g, 0, none⟩) 1 1, .slice (some ⟨g', 0, none⟩) 1 1] 32) := ⟨_, rfl⟩
    have hbB : Below w1.heap.size w1 wB := by rw [hwB]; exact (Below.refl _ _).alloc (Nat.le_refl _) _
    have hEB : Err3 wB w1.heap.size (.int .i64 3) (.slice (some ⟨g, 0, none⟩) 1 1) (.slice (some ⟨g', 0, none⟩) 1 1) := by rw [hwB]; exact ⟨heap_newN w1 _⟩
    have hE1 := (HE.out.2.1.next hb1).next hbB
    have hR1 := (HE.out.1.next hb1).next hbB
    have hlt0 := HE.out.2.1.lt
    have hbw : Below w.heap.size w wB := (HE.out.2.2.trans (hb1.mono HE.out.2.2.size)).trans (hbB.mono (Nat.le_trans HE.out.2.2.size hb1.size))
    have hs1 := hb1.size
    obtain ⟨_, hk0, hk1, hk2⟩ := hEB.facts
    have H1 := Lib.hid (And.intro hE1 (And.intro hEB (And.intro hbw (And.intro (hw.next hbB) hR1))))
    clear hb1 hbB hEB hE1 hbw hw hR1
    go_upto_region 2 with fail
    rw [← hwB]
    clear hwB
    go_wp2_with fail
    refine (bad_yes 3 (by omega) (.slice (some ⟨g, 0, none⟩) 1 1) (.slice (some ⟨g', 0, none⟩) 1 1) wB).mono ?_
    rintro e wq ⟨rfl, hbq⟩
    have hRq := H1.out.2.2.2.2.next hbq
    obtain ⟨⟨hf0, hf1, hf2⟩, hc0, hc1, hc2⟩ := (H1.out.1.next hbq).facts
    obtain ⟨⟨he0, he1, he2⟩, hd0, hd1, hd2⟩ := hRq.facts
    obtain ⟨_, hg0, hg1', hg2'⟩ := (H1.out.2.1.next hbq).facts
    have HQ := Lib.hid (And.intro (H1.out.2.2.1.trans (hbq.mono H1.out.2.2.1.size)) (And.intro (H1.out.2.2.2.1.next hbq) hRq))
    clear hbq hk0 hk1 hk2 hRq
    have hne : w1.heap.size ≠ w.heap.size + 1 := by omega
    have hne0 : w1.heap.size ≠ w.heap.size := by omega
    go_wp2_with fail
    go_region
    all_goals
      go_wp2_with fail
      refine bodyPost_ret (v := .tuple #[noRule, .agg #[.int .i64 3, .slice (some ⟨g, 0, none⟩) 1 1, .slice (some ⟨g', 0, none⟩) 1 1]]) (by simp [results, Tryz.results42, go_sem, hc0, hc1, hc2, hd0, hd1, hd2, noRule]) rfl ⟨_, rfl, g, g', rfl, ⟨by omega, by omega⟩, ?_, ?_⟩
      · exact ((HQ.out.2.1.put3 (h := w.heap.size) (by omega) (by omega) _ _ _).put3 (h := w.heap.size + 1) (by omega) (by omega) _ _ _).next (Below.refl _ _).drew
      · exact (put3_below (put3_below HQ.out.1 (Nat.le_refl _) _ _ _) (Nat.le_succ _) _ _ _).drew
  · rename_i hk
    obtain ⟨K, rfl⟩ : ∃ K : Nat, k = K := ⟨k.toNat, by omega⟩
    obtain ⟨R, rfl⟩ : ∃ R : Nat, r = R := ⟨r.toNat, by omega⟩
    have h1 : 1 ≤ K := by omega
    have h4 : K ≤ 4 := by omega
    have h3 : R ≤ 3 := by omega
    rw [Int.toNat_natCast, Int.toNat_natCast] at hc
    have hsz : ∀ W, Calls Tryz.prog 39 #[.int .i64 (K : Int), .int .i64 (R : Int)] W (SizeOutR W (K ^ (2 * R + 1))) := fun W => size_ref_ok K R W h1 h4 h3
    have hSle := pow_le h4 h3
    obtain ⟨S, hS⟩ : ∃ S, K ^ (2 * R + 1) = S := ⟨_, rfl⟩
    rw [hS] at hc hSle
    simp only [hS] at hsz
    have HZ := Lib.hid hsz
    split at hc
    · obtain ⟨rfl, rfl⟩ := Prod.mk.inj (Option.some.inj hc)
      have hs' : (256 : Int) < (S : Int) := by omega
      clear hsz hc hk hS h hl hal
      go_enter Tryz.func42, Tryz.ntmps42
      go_upto_region 1 with fail
      obtain ⟨w0, hw0⟩ : ∃ w0, w0 = (w.alloc (.cells #[.int .i64 0, .int .i64 0, .slice none 0 0] 24)).alloc (.cells #[.int .i64 0, .slice none 0 0, .slice none 0 0] 32) := ⟨_, rfl⟩
      obtain ⟨hb0, hR0, hE0⟩ := start_both w _ _ _ w0 hw0
      rw [← hw0]
      have hszb : (w.alloc (.cells #[.int .i64 0, .int .i64 0, .slice none 0 0] 24)).heap.size = w.heap.size + 1 := by simp
      have HE := Lib.hid (And.intro hR0 (And.intro hE0 hb0))
      clear hw0 hR0 hE0 hb0
      go_wp2_with fail
      refine (HZ.out w0).mono ?_
      rintro e w1 ⟨rfl, hb1⟩
      obtain ⟨wB, hwB⟩ : ∃ x, x = w1.alloc (.cells #[.int .i64 0, .slice none 0 0, .slice none 0 0] 32) := ⟨_, rfl⟩
      have hbB : Below w1.heap.size w1 wB := by rw [hwB]; exact (Below.refl _ _).alloc (Nat.le_refl _) _
      have hEB : Err3 wB w1.heap.size (.int .i64 0) (.slice none 0 0) (.slice none 0 0) := by rw [hwB]; exact ⟨heap_newN w1 _⟩
      have hRB := (HE.out.1.next hb1).next hbB
      have hE1 := (HE.out.2.1.next hb1).next hbB
      have hbw : Below w.heap.size w wB := (HE.out.2.2.trans (hb1.mono HE.out.2.2.size)).trans (hbB.mono (Nat.le_trans HE.out.2.2.size hb1.size))
      obtain ⟨_, hk0, hk1, hk2⟩ := hEB.facts
      have H1 := Lib.hid (And.intro hRB (And.intro hE1 hbw))
      clear hb1 hbB hEB hE1 hbw hRB
      go_upto_region 2 with fail
      rw [← hwB]
      clear hwB
      go_wp2_with fail
      refine (bad_no (.slice none 0 0) (.slice none 0 0) wB).mono ?_
      rintro e wq ⟨rfl, hbq⟩
      have HQ := Lib.hid (And.intro (H1.out.1.next hbq) (And.intro (H1.out.2.1.next hbq) (H1.out.2.2.trans (hbq.mono H1.out.2.2.size))))
      clear hbq hk0 hk1 hk2
      go_wp2_with fail
      refine (raw_fresh ruleOp 0 4 wq).mono ?_
      rintro e w2 ⟨g, g', rfl, hg, hcg, hcg', hb2⟩
      obtain ⟨⟨hf0, hf1, hf2⟩, hc0, hc1, hc2⟩ := (HQ.out.2.1.next hb2).facts
      obtain ⟨⟨he0, he1, he2⟩, hd0, hd1, hd2⟩ := (HQ.out.1.next hb2).facts
      have hs2 := put3_same (HQ.out.1.next hb2)
      have HB := Lib.hid (And.intro (RefErrR.laid (k := 4) HQ.out.2.2 (Nat.le_succ _) HQ.out.2.1.lt hg hcg hcg' hb2) hs2)
      clear hb2 hcg hcg' hg hs2
      go_wp2_with fail
      refine bodyPost_ret (v := .tuple #[noRule, .agg #[.int .i64 4, .slice (some ⟨g, 0, none⟩) 1 1, .slice (some ⟨g', 0, none⟩) 1 1]]) (by simp [results, Tryz.results42, go_sem, hc0, hc1, hc2, hd0, hd1, hd2, noRule]) rfl ⟨_, rfl, ?_⟩
      show RefErrR _ _ _ _ (put3 (put3 w2 w.heap.size _ _ _) (w.heap.size + 1) _ _ _)
      rw [HB.out.2]
      exact HB.out.1 _ _ _
    · rename_i hsm
      split at hc
      · obtain ⟨rfl, rfl⟩ := Prod.mk.inj (Option.some.inj hc)
        rename_i hge
        have hs : S ≤ 256 := by omega
        have hpw : ∀ W, Calls Tryz.prog 101 #[.int .u32 (K : Int), .int .i64 (S : Int)] W (PowOutR W (K ^ S)) := fun W => pow_ref K S (by omega) (by omega) W
        have hpl := D32_small h4 hs
        have hcv : ∃ z : Int, 0 ≤ z ∧ cmpN (V32 a) (K ^ S) = z := by
          rcases Nat.lt_or_ge (K ^ S) (V32 a) with h1 | h1
          · exact ⟨1, by omega, by rw [cmp_gt h1]⟩
          · exact ⟨0, by omega, by rw [show V32 a = K ^ S by omega, cmp_eq]⟩
        obtain ⟨z, hz0, hcz⟩ := hcv
        obtain ⟨PW, hPW⟩ : ∃ PW, K ^ S = PW := ⟨_, rfl⟩
        rw [hPW] at hpl hcz
        simp only [hPW] at hpw
        have HW := Lib.hid hpw
        have H := Lib.hid (And.intro h (And.intro hl (And.intro hpl hcz)))
        have hwk : IntKind.u32.wrap (K : Int) = (K : Int) := by rw [IntKind.wrap_u32]; omega
        have hs' : ¬ (256 : Int) < (S : Int) := by omega
        clear hsz hpw hPW hpl h hl hc hge hcz hk hS hsm hSle
        go_enter Tryz.func42, Tryz.ntmps42
        go_upto_region 1 with fail
        obtain ⟨w0, hw0⟩ : ∃ w0, w0 = (w.alloc (.cells #[.int .i64 0, .int .i64 0, .slice none 0 0] 24)).alloc (.cells #[.int .i64 0, .slice none 0 0, .slice none 0 0] 32) := ⟨_, rfl⟩
        obtain ⟨hb0, hR0, hE0⟩ := start_both w _ _ _ w0 hw0
        rw [← hw0]
        have hszb : (w.alloc (.cells #[.int .i64 0, .int .i64 0, .slice none 0 0] 24)).heap.size = w.heap.size + 1 := by simp
        have HE := Lib.hid (And.intro hR0 (And.intro hE0 hb0))
        clear hw0 hR0 hE0 hb0
        go_wp2_with fail
        refine (HZ.out w0).mono ?_
        rintro e w1 ⟨rfl, hb1⟩
        obtain ⟨wB, hwB⟩ : ∃ x, x = w1.alloc (.cells #[.int .i64 0, .slice none 0 0, .slice none 0 0] 32) := ⟨_, rfl⟩
        have hbB : Below w1.heap.size w1 wB := by rw [hwB]; exact (Below.refl _ _).alloc (Nat.le_refl _) _
        have hEB : Err3 wB w1.heap.size (.int .i64 0) (.slice none 0 0) (.slice none 0 0) := by rw [hwB]; exact ⟨heap_newN w1 _⟩
        have hRB := (HE.out.1.next hb1).next hbB
        have hE1 := (HE.out.2.1.next hb1).next hbB
        have hbw : Below w.heap.size w wB := (HE.out.2.2.trans (hb1.mono HE.out.2.2.size)).trans (hbB.mono (Nat.le_trans HE.out.2.2.size hb1.size))
        obtain ⟨_, hk0, hk1, hk2⟩ := hEB.facts
        have H1 := Lib.hid (And.intro hRB (And.intro hE1 hbw))
        clear hb1 hbB hEB hE1 hbw hRB
        go_upto_region 2 with fail
        rw [← hwB]
        clear hwB
        go_wp2_with fail
        refine (bad_no (.slice none 0 0) (.slice none 0 0) wB).mono ?_
        rintro e wq ⟨rfl, hbq⟩
        have HQ := Lib.hid (And.intro (H1.out.1.next hbq) (And.intro (H1.out.2.1.next hbq) (H1.out.2.2.trans (hbq.mono H1.out.2.2.size))))
        clear hbq hk0 hk1 hk2
        go_wp2_with fail
        refine (HW.out wq).mono ?_
        rintro e w5 ⟨p5, c5, rfl, ho5, hb5⟩
        go_upto_region 7 with fail
        obtain ⟨wP, hwP⟩ : ∃ x, x = w5.alloc (.cells #[.int .i64 0, .slice none 0 0, .slice none 0 0] 32) := ⟨_, rfl⟩
        have hbP : Below w5.heap.size w5 wP := by rw [hwP]; exact (Below.refl _ _).alloc (Nat.le_refl _) _
        rw [← hwP]
        have hqP := hb5.trans (hbP.mono hb5.size)
        have HP := Lib.hid (And.intro (HQ.out.1.next hqP) (And.intro (HQ.out.2.1.next hqP) (And.intro (HQ.out.2.2.trans (hqP.mono HQ.out.2.2.size)) (ho5.next hbP).toV)))
        clear hwP hbP hqP ho5 hb5
        go_wp2_with fail
        have hcmp := cmp_ref p p5 c c5 a (D32 PW) wP (H.out.1.next HP.out.2.2.1) HP.out.2.2.2 (by have := H.out.2.1; omega) (by have := H.out.2.2.1; omega)
        rw [V32_D32, H.out.2.2.2] at hcmp
        rw [hal] at hcmp
        refine hcmp.mono ?_
        clear hcmp
        rintro e wK ⟨rfl, hbK⟩
        have hK1 := HP.out.1.next hbK
        have hK2 := HP.out.2.1.next hbK
        have HK := Lib.hid (And.intro hK1 (And.intro hK2 (HP.out.2.2.1.trans (hbK.mono HP.out.2.2.1.size))))
        clear hbK hK1 hK2
        go_wp2_with fail
        refine (raw_fresh ruleOp 1 3 wK).mono ?_
        rintro e w2 ⟨g, g', rfl, hg, hcg, hcg', hb2⟩
        obtain ⟨⟨hf0, hf1, hf2⟩, hc0, hc1, hc2⟩ := (HK.out.2.1.next hb2).facts
        obtain ⟨⟨he0, he1, he2⟩, hd0, hd1, hd2⟩ := (HK.out.1.next hb2).facts
        have hs2 := put3_same (HK.out.1.next hb2)
        have HB := Lib.hid (And.intro (RefErrR.laid (k := 3) HK.out.2.2 (Nat.le_succ _) HK.out.2.1.lt hg hcg hcg' hb2) hs2)
        clear hb2 hcg hcg' hg hs2
        go_wp2_with fail
        refine bodyPost_ret (v := .tuple #[noRule, .agg #[.int .i64 3, .slice (some ⟨g, 0, none⟩) 1 1, .slice (some ⟨g', 0, none⟩) 1 1]]) (by simp [results, Tryz.results42, go_sem, hc0, hc1, hc2, hd0, hd1, hd2, noRule]) rfl ⟨_, rfl, ?_⟩
        show RefErrR _ _ _ _ (put3 (put3 w2 w.heap.size _ _ _) (w.heap.size + 1) _ _ _)
        rw [HB.out.2]
        exact HB.out.1 _ _ _
      · cases hc
end Go.Proofs.YtgdjnohhofbcnaaGreatDoor
end
section
namespace Go.Proofs.YtgdjnohhofbcnaaGreatDoor
open Go.RowKit NatM

/-! ### groups of four digits, and digits -/
theorem group_step {n R : Nat} {gs : List Nat} (h : digs 10000 n = gs ++ digs 10000 R) (hR : 0 < R) : digs 10000 n = (gs ++ [R % 10000]) ++ digs 10000 (R / 10000) := by
  rw [h, digs_pos (by omega) hR, List.append_assoc]; rfl
theorem group_len {n L : Nat} (h : n < 4294967296 ^ L) : (digs 10000 n).length ≤ 3 * L := by
  refine digs_length_le (by omega) (Nat.lt_of_lt_of_le h ?_)
  rw [Nat.pow_mul]
  exact Nat.pow_le_pow_left (by decide) _
def dk (g k : Nat) : Nat := g / 10 ^ (3 - k) % 10
def vk (m g k : Nat) : Nat := m * 10 ^ k + g / 10 ^ (4 - k)
theorem vk_zero (m : Nat) {g : Nat} (hg : g < 10000) : vk m g 0 = m := by
  show m * 10 ^ 0 + g / 10 ^ 4 = m
  rw [Nat.pow_zero, Nat.mul_one, show 10 ^ 4 = 10000 by decide, Nat.div_eq_of_lt hg]; rfl
theorem vk_four (m g : Nat) : vk m g 4 = g + 10000 * m := by
  show m * 10 ^ 4 + g / 10 ^ 0 = _
  rw [show 10 ^ 4 = 10000 by decide, Nat.pow_zero, Nat.div_one]; omega
theorem vk_step (m : Nat) {g k : Nat} (hg : g < 10000) (hk : k < 4) : vk m g (k + 1) = 10 * vk m g k + dk g k := by
  unfold vk dk
  rcases (show k = 0 ∨ k = 1 ∨ k = 2 ∨ k = 3 by omega) with rfl | rfl | rfl | rfl
  · show m * 10 ^ 1 + g / 10 ^ 3 = 10 * (m * 10 ^ 0 + g / 10 ^ 4) + g / 10 ^ 3 % 10
    simp only [show 10 ^ 1 = 10 by decide, show 10 ^ 3 = 1000 by decide, show 10 ^ 4 = 10000 by decide, Nat.pow_zero]; omega
  · show m * 10 ^ 2 + g / 10 ^ 2 = 10 * (m * 10 ^ 1 + g / 10 ^ 3) + g / 10 ^ 2 % 10
    simp only [show 10 ^ 1 = 10 by decide, show 10 ^ 3 = 1000 by decide, show 10 ^ 2 = 100 by decide]; omega
  · show m * 10 ^ 3 + g / 10 ^ 1 = 10 * (m * 10 ^ 2 + g / 10 ^ 2) + g / 10 ^ 1 % 10
    simp only [show 10 ^ 1 = 10 by decide, show 10 ^ 3 = 1000 by decide, show 10 ^ 2 = 100 by decide]; omega
  · show m * 10 ^ 4 + g / 10 ^ 0 = 10 * (m * 10 ^ 3 + g / 10 ^ 1) + g / 10 ^ 0 % 10
    simp only [show 10 ^ 1 = 10 by decide, show 10 ^ 3 = 1000 by decide, show 10 ^ 4 = 10000 by decide, Nat.pow_zero]; omega
theorem dk_lt (g k : Nat) : dk g k < 10 := Nat.mod_lt _ (by omega)
/-- the decimal digits of a number, the highest first, none for 0 -/
def rev10 (v : Nat) : List Nat := (digs 10 v).reverse
theorem rev10_step {v c : Nat} (hc : c < 10) (h : 0 < v ∨ 0 < c) : rev10 (10 * v + c) = rev10 v ++ [c] := by
  unfold rev10
  rw [digs_pos (by omega) (by omega : 0 < 10 * v + c), show (10 * v + c) % 10 = c by omega, show (10 * v + c) / 10 = v by omega, List.reverse_cons]
theorem rev10_zero : rev10 0 = [] := by unfold rev10; rw [digs_zero]; rfl
theorem rev10_pos {v : Nat} (h : 0 < v) : 0 < (rev10 v).length := by
  unfold rev10
  rw [List.length_reverse]
  exact List.length_pos_iff.2 (fun e => by have := (digs_eq_nil (B := 10) (by omega)).1 e; omega)

theorem vk_le (m : Nat) {g k : Nat} (hg : g < 10000) (hk : k ≤ 4) : vk m g k ≤ g + 10000 * m := by
  have h0 : vk m g 1 = 10 * vk m g 0 + dk g 0 := vk_step m hg (show 0 < 4 by omega)
  have h1 : vk m g 2 = 10 * vk m g 1 + dk g 1 := vk_step m hg (show 1 < 4 by omega)
  have h2 : vk m g 3 = 10 * vk m g 2 + dk g 2 := vk_step m hg (show 2 < 4 by omega)
  have h3 : vk m g 4 = 10 * vk m g 3 + dk g 3 := vk_step m hg (show 3 < 4 by omega)
  have h4 := vk_four m g
  rcases (show k = 0 ∨ k = 1 ∨ k = 2 ∨ k = 3 ∨ k = 4 by omega) with rfl | rfl | rfl | rfl | rfl <;> omega
theorem drop_le {gs : List Nat} {i v : Nat} (hi : i ≤ gs.length) (hv : v ≤ valB 10000 (gs.drop i)) : v ≤ valB 10000 gs := by
  have h := valB_split 10000 gs i hi
  have h1 : 1 * valB 10000 (gs.drop i) ≤ 10000 ^ i * valB 10000 (gs.drop i) := Nat.mul_le_mul_right _ (Nat.pow_pos (by omega))
  omega
theorem rev10_len {v n L : Nat} (hv : v ≤ n) (hn : (digs 10000 n).length ≤ L) : (rev10 v).length ≤ 4 * L := by
  unfold rev10
  rw [List.length_reverse]
  refine digs_length_le (by omega) (Nat.lt_of_le_of_lt hv ?_)
  rw [Nat.pow_mul, show 10 ^ 4 = 10000 by decide]
  exact (digs_le_iff (by omega) n L).1 hn
def TextRefRel (B : Nat) (w : World) (n : Nat) (gk : Nat) (v3 v4 : Value) (wr : World) : Prop :=
  ∃ (R : Nat) (gs : List Nat) (p q : Option Addr) (c d : Nat), v3 = .slice p (D32 R).length c ∧ v4 = .slice q gs.length d ∧ digs 10000 n = gs ++ digs 10000 R ∧ NatO B wr p c (D32 R) ∧ NatO B wr q d gs ∧ Below B w wr ∧ R ≤ gk ∧ R ≤ n

theorem four_cells (w : World) (g : Nat) (j : Nat) (hj : j < 4) : (w.alloc (.cells #[.int .u8 (48 + (g : Int) / 1000), .int .u8 (48 + (g : Int) / 100 % 10), .int .u8 (48 + (g : Int) / 10 % 10), .int .u8 (48 + (g : Int) % 10)] 5)).cell? ⟨w.heap.size, j, none⟩ = some (.int .u8 ((48 + (if j = 0 then g / 1000 else dk g j) : Nat) : Int)) := by
  rw [cell_alloc_at _ _ _ _ _ rfl]
  rcases (show j = 0 ∨ j = 1 ∨ j = 2 ∨ j = 3 by omega) with rfl | rfl | rfl | rfl
  · simp
  · simp [dk]
  · simp [dk]
  · simp [dk]
/-- what Text has written so far: the digits of v -/
def OutRel (B : Nat) (w2 : World) (gs : List Nat) (v6 v7 : Value) (wr : World) : Prop :=
  ∃ (j : Nat), j ≤ gs.length ∧ v7 = .int .i64 ((j : Int) - 1) ∧ DigO B wr v6 (rev10 (valB 10000 (gs.drop j))) ∧ Below B w2 wr
def Four (B : Nat) (w4 : World) (h m g : Nat) (v6 v10 : Value) (wr : World) : Prop :=
  ∃ (k : Nat), k ≤ 4 ∧ v10 = .int .i64 (k : Int) ∧ DigO B wr v6 (rev10 (vk m g k)) ∧ v6.ownBlock ≠ some h ∧ h < wr.heap.size ∧ (∀ j, j < 4 → wr.cell? ⟨h, j, none⟩ = some (.int .u8 ((48 + dk g j : Nat) : Int))) ∧ Below B w4 wr
set_option maxRecDepth 100000 in
set_option maxHeartbeats 4000000 in
theorem text_ref (p : Option Addr) (cap : Nat) (l : List Nat) (w : World) (h : NatV w.heap.size w p cap l) (hl : l.length ≤ 100000) :
    Calls Tryz.prog 31 #[.slice p l.length cap] w (Tells (.string (textOf (V32 l))) w) := by
  obtain ⟨i0, hi, hz0, hz1, hz2⟩ := info_parts info32
  obtain ⟨i8, hi8, hy0, hy1, hy2⟩ := info_parts info8
  have hN := norm_any p cap l w h (by omega)
  have hgl := group_len (V32_lt h.ok)
  have hlen : (D32 (V32 l)).length ≤ 100000 := Nat.le_trans (D32_le h.ok) hl
  obtain ⟨n, hn⟩ : ∃ n, V32 l = n := ⟨_, rfl⟩
  rw [hn] at hN hgl hlen
  have HNN := Lib.hid hn
  have HL := Lib.hid hlen
  have hgl2 : (digs 10000 n).length ≤ 300000 := by omega
  have HGL := Lib.hid hgl2
  clear h hn hlen hgl hgl2
  go_enter Tryz.func31, Tryz.ntmps31
  go_wp2_with fail
  refine hN.mono ?_
  clear hN
  rintro e w1 ⟨p1, c1, rfl, ho1, hb1⟩
  have HO1 := Lib.hid (And.intro ho1 hb1)
  clear ho1 hb1
  go_wp2_with fail
  go_loopg [3, 4] n (fun gk v3 v4 wr => TextRefRel w.heap.size w n gk v3 v4 wr)
  case atStart => exact ⟨n, [], p1, none, c1, 0, rfl, rfl, rfl, HO1.out.1, NatO.nothing _ _, HO1.out.2, Nat.le_refl _, Nat.le_refl _⟩
  case round =>
    obtain ⟨R, gs, p', q, c, d, rfl, rfl, hG, ho, hq, hb, hgk, hRle⟩ := hrel
    have hwB : w.heap.size ≤ wr.heap.size := hb.size
    rcases Nat.eq_zero_or_pos R with rfl | hR0
    · have hl0 : (D32 0).length = 0 := by rw [D32_nil.2 rfl]; rfl
      rw [hl0]
      have hG2 : digs 10000 n = gs := by rw [hG, digs_zero, List.append_nil]
      have hgsl : gs.length ≤ 300000 := by rw [← hG2]; exact HGL.out
      rcases Nat.eq_zero_or_pos gs.length with hz | hz
      · have hn0 : n = 0 := by
          rw [List.eq_nil_of_length_eq_zero hz] at hG2
          exact (digs_eq_nil (by omega)).1 hG2
        have HE := Lib.hid (And.intro hb hn0)
        rw [hz]
        clear hl0 hG hG2 ho hq hb hz hn0 hgsl
        go_wp2_with fail
        go_ret
        refine ⟨?_, HE.out.1⟩
        rw [HNN.out, HE.out.2]
        rfl
      · have hne : ((gs.length : Int) == 0) = false := by rw [beq_eq_false_iff_ne]; omega
        have hgok : okB 10000 gs := by rw [← hG2]; exact digs_ok (by omega) n
        have hgv : valB 10000 gs = n := by rw [← hG2]; exact valB_digs (by omega) n
        have hn0 : n ≠ 0 := by
          rintro rfl
          rw [digs_zero] at hG2
          rw [← hG2] at hz
          exact absurd hz (by decide)
        have hqv := hq.toV
        have HQ := Lib.hid (And.intro hqv (And.intro hgok (And.intro hgv (And.intro hn0 hb))))
        clear hl0 hG hG2 ho hq hb hqv hgok hgv hn0
        go_wp2_with fail
        obtain ⟨w2, hw2⟩ : ∃ w2 : World, w2 = wr := ⟨_, rfl⟩
        subst hw2
        go_loopw [6, 7] (fun v6 v7 wr => OutRel w2.heap.size w2 gs v6 v7 wr) (fun _ v _ => (intOf v + 1).toNat)
        case atStart => exact ⟨gs.length, Nat.le_refl _, rfl, by rw [List.drop_length]; exact ⟨none, 0, by rw [show valB 10000 [] = 0 from rfl, rev10_zero]; rfl, by rw [show valB 10000 [] = 0 from rfl, rev10_zero]; exact World.ownsRow_nil _ _ _ _⟩, Below.refl _ _⟩
        case round =>
          obtain ⟨j, hj, rfl, ⟨pd, cd, rfl, hd⟩, hb⟩ := hrel
          have hwB2 : w2.heap.size ≤ wr.heap.size := hb.size
          rcases Nat.eq_zero_or_pos j with rfl | hj0
          · rw [List.drop_zero, HQ.out.2.2.1] at hd ⊢
            have hpos := rev10_pos (v := n) (by have := HQ.out.2.2.2.1; omega)
            obtain ⟨bs, hbs⟩ : ∃ bs, chars (rev10 n) = bs := ⟨_, rfl⟩
            have hbl : (rev10 n).length = bs.length := by rw [← hbs, chars_length]
            rw [hbs] at hd
            rw [hbl] at hd hpos ⊢
            rcases own_shape hd with ⟨_, h0, _⟩ | ⟨g, cap', hv, hg, hglt, hc, hm, hcl, _⟩
            · omega
            obtain ⟨rfl, rfl⟩ : pd = some ⟨g, 0, none⟩ ∧ cd = cap' := by simpa using hv
            have hlen2 : bs.length ≤ 9223372036854775807 := by unfold maxLen at hm; omega
            have hcv := run_convert_bytes_arg (P := Tryz.prog) wr 68 5 Tryz.underlying68 Tryz.underlying5 g 0 bs.length cd (bs.map fun (b : Nat) => (b : Int)) (by simp) (fun i hi => by
              rw [Nat.zero_add]
              have hir : i < bs.length := by simpa using hi
              have h1 := (hd.cellAt i (by omega))
              rw [h1, cells8_get (List.getElem?_eq_getElem hir)]
              simp [List.getD_eq_getElem?_getD, hir]) 9 Tryz.underlying9
            have htx : strOfNums (bs.map fun (b : Nat) => (b : Int)) = textOf n := by
              unfold textOf decL
              rw [if_neg HQ.out.2.2.2.1, ← hbs]
              congr 1
              unfold chars rev10
              rw [List.map_map]
              rfl
            rw [htx] at hcv
            have HB := Lib.hid (HQ.out.2.2.2.2.trans (hb.mono hwB))
            clear hd hb hbs hbl htx hv hg hglt hc hm hcl hpos
            go_wp2_with fail
            go_ret
            exact ⟨by rw [HNN.out]; rfl, HB.out⟩
          · obtain ⟨i, rfl⟩ : ∃ i, j = i + 1 := ⟨j - 1, by omega⟩
            rw [show (((i + 1 : Nat) : Int) - 1) = (i : Int) by omega]
            obtain ⟨g, hg⟩ := some_get (l := gs) (k := i) (by omega)
            obtain ⟨bg, off, rfl, hbg, hcg⟩ := (HQ.out.1.below hb).cell (List.length_pos_iff.1 hz)
            have hcx := hcg i g hg
            have hgl : g < 10000 := ok_get HQ.out.2.1 hg
            have hdr := valB_dropq 10000 hg
            obtain ⟨m, hm⟩ : ∃ m, valB 10000 (gs.drop (i + 1)) = m := ⟨_, rfl⟩
            rw [hm] at hd hdr ⊢
            have HD := Lib.hid (And.intro hd (And.intro hdr hb))
            clear hcg hg hdr hd hb hm
            have hfc := fun j hj => four_cells wr g j hj
            go_wp2_with fail
            obtain ⟨w4, hw4⟩ : ∃ w4, w4 = wr.alloc (.cells #[.int .u8 (48 + (g : Int) / 1000), .int .u8 (48 + (g : Int) / 100 % 10), .int .u8 (48 + (g : Int) / 10 % 10), .int .u8 (48 + (g : Int) % 10)] 5) := ⟨_, rfl⟩
            have hs4 : w4.heap.size = wr.heap.size + 1 := by rw [hw4]; simp
            have hb4 : Below wr.heap.size wr w4 := by rw [hw4]; exact (Below.refl _ _).alloc (Nat.le_refl _) _
            rw [← hw4] at hfc ⊢
            have hfc2 : ∀ j, j < 4 → w4.cell? ⟨wr.heap.size, j, none⟩ = some (.int .u8 ((48 + dk g j : Nat) : Int)) := fun j hj => by
              rw [hfc j hj]
              by_cases h0 : j = 0
              · subst h0
                rw [if_pos rfl]
                have : dk g 0 = g / 1000 := by show g / 10 ^ 3 % 10 = _; rw [show 10 ^ 3 = 1000 by decide]; omega
                rw [this]
              · rw [if_neg h0]
            obtain ⟨h4, hh4⟩ : ∃ h4, wr.heap.size = h4 := ⟨_, rfl⟩
            have hob : (Value.slice pd (rev10 m).length cd).ownBlock ≠ some h4 := fun e => by have := (HD.out.1.lt h4 e).2; omega
            have hd4 : w4.ownsRow w2.heap.size 5 1 (.slice pd (rev10 m).length cd) (rev10 m).length (cells8 (chars (rev10 m))) := by
              rw [hw4]; exact HD.out.1.alloc _
            rw [hh4] at hfc2 hs4 hwB2 ⊢
            have HF := Lib.hid (And.intro hfc2 (And.intro hob (And.intro hd4 (HD.out.2.2.trans (hb4.mono (by omega))))))
            clear hfc hfc2 hob hd4 hb4 hw4
            go_loopw [6, 10] (fun v6 v10 wr => Four w2.heap.size w2 h4 m g v6 v10 wr) (fun _ v _ => 4 - (intOf v).toNat)
            case atStart => exact ⟨0, by omega, rfl, ⟨pd, cd, by rw [vk_zero m hgl], by rw [vk_zero m hgl]; exact HF.out.2.2.1⟩, HF.out.2.1, by omega, HF.out.1, HF.out.2.2.2⟩
            case round =>
              obtain ⟨k, hk, rfl, ⟨pd5, cd5, rfl, hd5⟩, hob, hhl, hcs, hb5⟩ := hrel
              have hwB5 : w2.heap.size ≤ wr.heap.size := hb5.size
              by_cases hk4 : k < 4
              · have hck := hcs k hk4
                have hdl := dk_lt g k
                have hvs := vk_step m hgl hk4
                obtain ⟨v, hv⟩ : ∃ v, vk m g k = v := ⟨_, rfl⟩
                obtain ⟨ds, hds⟩ : ∃ ds, rev10 v = ds := ⟨_, rfl⟩
                rw [hv, hds] at hd5 hob ⊢
                rw [hv] at hvs
                obtain ⟨c, hc⟩ : ∃ c, dk g k = c := ⟨_, rfl⟩
                rw [hc] at hck hdl hvs
                obtain ⟨L, hL⟩ : ∃ L, ds.length = L := ⟨_, rfl⟩
                rw [hL] at hd5 hob ⊢
                have hLl : L ≤ 1200000 := by
                  have h1 := vk_le m hgl hk
                  rw [hv, ← HD.out.2.1] at h1
                  have h2 := drop_le (by omega) h1
                  rw [HQ.out.2.2.1] at h2
                  have h3 := rev10_len h2 HGL.out
                  rw [hds, hL] at h3
                  omega
                by_cases hgo : 0 < v ∨ 0 < c
                · have hst := rev10_step hdl hgo
                  rw [← hvs, hds] at hst
                  have hLv : 0 < v → 0 < L := fun h => by have := rev10_pos h; rw [hds, hL] at this; exact this
                  have hown := hd5
                  have HX := Lib.hid (And.intro hst (And.intro hob (And.intro hcs (And.intro hb5 (And.intro hL hds)))))
                  have hgo2 : 0 < L ∨ (L = 0 ∧ 0 < c) := by
                    rcases Nat.eq_zero_or_pos L with h | h
                    · right; refine ⟨h, ?_⟩
                      rcases hgo with h1 | h1
                      · have := hLv h1; omega
                      · exact h1
                    · left; exact h
                  clear hst hob hcs hb5 hL hds hd5 hLv hvs hgo hv hc
                  rcases hgo2 with h1 | ⟨h1, h2⟩
                  all_goals
                    first
                      | (have h3 : decide ((0 : Int) < (L : Int)) = false := by rw [decide_eq_false_iff_not]; omega
                         have h44 : decide (0 < L) = false := by rw [decide_eq_false_iff_not]; omega
                         have H1 := Lib.hid h1
                         clear h1)
                      | skip
                    go_wp2_with (at_builtin; refine wpList_append_lies _ rfl _ _ 68 rfl w2.heap.size 5 i8 (.int .u8 0) 1 1 Tryz.underlying68 hi8 hy0 hy1 hy2 rfl (by decide) _ L (cells8 (chars ds)) rfl (hown.alloc _) ⟨wr.heap.size, 0, none⟩ 1 1 [.int .u8 ((48 + c : Nat) : Int)] rfl rfl (cell_one_new _ _ _) ?c2 (by omega) ?c3 ?c4 ?c5 (wr.heap.size + 1) (by simp) ?_)
                    case c2 => intro u hu; simp at hu; subst hu; rfl
                    case c3 => unfold maxLen; omega
                    case c4 => omega
                    case c5 => simp; omega
                    intro gg cap5 w5 hown' hgrow hat hlt5
                    have hown2 : w5.ownsRow w2.heap.size 5 1 (.slice (some ⟨gg, 0, none⟩) (L + 1) cap5) (L + 1) (cells8 (chars ds) ++ [.int .u8 ((48 + c : Nat) : Int)]) := hown'
                    rw [← cells8_snoc, ← chars_snoc] at hown2
                    have hlen' : L + 1 = (ds ++ [c]).length := by rw [List.length_append, List.length_singleton, HX.out.2.2.2.2.1]
                    rw [hlen'] at hown2
                    have hb6 : Below w2.heap.size w2 w5 := (HX.out.2.2.2.1.alloc hwB5 _).grown hgrow (by simp; omega) (fun j hj => (hown.lt j hj).1)
                    have hob6 : gg ≠ h4 := by
                      rintro rfl
                      rcases hat with h | h
                      · exact HX.out.2.1 h
                      · omega
                    have hs5 : h4 < w5.heap.size := by have := hgrow.size; simp at this; omega
                    have hcs6 : ∀ j, j < 4 → w5.cell? ⟨h4, j, none⟩ = some (.int .u8 ((48 + dk g j : Nat) : Int)) := fun j hj => (hgrow.cell_far ⟨h4, j, none⟩ (by simp; omega) (Ne.symm HX.out.2.1)).trans ((World.cell?_alloc_lt _ _ ⟨h4, j, none⟩ hhl).trans (HX.out.2.2.1 j hj))
                    have HY := Lib.hid (And.intro hown2 (And.intro hlen' (And.intro hb6 (And.intro hob6 hcs6))))
                    clear hown hown' hown2 hgrow hlen' hb6 hob6 hcs6 hat
                    go_wp2_with fail
                    go_roundw
                    case rel => exact ⟨k + 1, by omega, by go_num, ⟨some ⟨gg, 0, none⟩, cap5, by rw [HX.out.1, ← HY.out.2.1], by rw [HX.out.1]; exact HY.out.1⟩, (fun e => HY.out.2.2.2.1 (Option.some.inj e)), hs5, HY.out.2.2.2.2, HY.out.2.2.1⟩
                    case measure => simp [intOf]; omega
                · have hv0 : v = 0 := by omega
                  have hc0 : c = 0 := by omega
                  subst hv0
                  subst hc0
                  have hL0 : L = 0 := by rw [← hL, ← hds, rev10_zero]; rfl
                  have hst : rev10 (vk m g (k + 1)) = ds := by rw [hvs, ← hds]
                  have h3 : decide ((0 : Int) < (L : Int)) = false := by rw [decide_eq_false_iff_not]; omega
                  have h4' : decide (0 < L) = false := by rw [decide_eq_false_iff_not]; omega
                  have HX := Lib.hid (And.intro hst (And.intro hob (And.intro hcs (And.intro hb5 (And.intro hL hd5)))))
                  clear hst hob hcs hb5 hL hds hd5 hvs hgo hv hc hL0
                  go_wp2_with fail
                  go_roundw
                  case rel => exact ⟨k + 1, by omega, by go_num, ⟨pd5, cd5, by rw [HX.out.1, HX.out.2.2.2.2.1], by rw [HX.out.1, HX.out.2.2.2.2.1]; exact HX.out.2.2.2.2.2⟩, HX.out.2.1, hhl, HX.out.2.2.1, HX.out.2.2.2.1⟩
                  case measure => simp [intOf]; omega
              · obtain rfl : k = 4 := by omega
                have hvv : vk m g 4 = valB 10000 (gs.drop i) := by rw [vk_four, HD.out.2.1]
                rw [hvv] at hd5 ⊢
                have HX := Lib.hid (And.intro hd5 hb5)
                clear hd5 hb5 hcs hob hvv
                go_wp2_with fail
                go_roundw
                case rel => exact ⟨i, by omega, rfl, ⟨pd5, cd5, rfl, HX.out.1⟩, HX.out.2⟩
                case measure => simp [intOf]
    · have hne : 0 < (D32 R).length := List.length_pos_iff.2 (fun e => by have := D32_nil.1 e; omega)
      have hst := group_step hG hR0
      have hle : gs.length + 1 ≤ 300000 := by
        have h1 := HGL.out
        have h2 := congrArg List.length hst
        rw [List.length_append, List.length_append, List.length_singleton] at h2
        omega
      have hRn : (D32 R).length ≤ 100000 := by
        rcases Nat.lt_or_ge (D32 n).length (D32 R).length with h1 | h1
        · have := cmp_len h1; omega
        · have := HL.out; omega
      have hov := over_ref p' c (D32 R) 10000 wr (ho.toV) (by omega) (by omega) (by omega)
      rw [V32_D32] at hov
      obtain ⟨g, hg⟩ : ∃ g, R % 10000 = g := ⟨_, rfl⟩
      obtain ⟨R', hR'⟩ : ∃ R', R / 10000 = R' := ⟨_, rfl⟩
      have hRR : R' < R := by omega
      have hgl : g < 10000 := by omega
      rw [hg, hR'] at hst
      have HS := Lib.hid (And.intro hst (And.intro hq hb))
      have HGR := Lib.hid (And.intro hg hR')
      clear hst hq hb ho hG hg hR'
      go_wp2_with fail
      refine hov.mono ?_
      clear hov
      rintro e w2 ⟨p2, c2, rfl, ho2, hb2⟩
      rw [HGR.out.1, HGR.out.2]
      rw [HGR.out.2] at ho2
      have hs2 := hb2.size
      have hown := (HS.out.2.1.next hb2).own
      have HO2 := Lib.hid (And.intro ho2 (HS.out.2.2.trans (hb2.mono hwB)))
      have hgok : ok32 gs := HS.out.2.1.ok
      have HGO := Lib.hid hgok
      clear hgok
      have hlt2 : ∀ j, (Value.slice q gs.length d).ownBlock = some j → j < wr.heap.size := fun j hj => (HS.out.2.1.own.lt j hj).2
      have HLT := Lib.hid hlt2
      clear ho2 hb2 hlt2
      go_wp2_with (at_builtin; refine wpList_append_own _ rfl _ _ 43 rfl w.heap.size 94 i0 (.int .u32 0) 1 4 Tryz.underlying43 hi hz0 hz1 hz2 rfl (by decide) _ gs.length (cells32 gs) rfl (hown.alloc _) ⟨w2.heap.size, 0, none⟩ 1 1 [.int .u32 (g : Int)] rfl rfl (cell_one_new _ _ _) ?c2 ?c3 ?c4 ?c5 ?_)
      case c2 => intro u hu; simp at hu; subst hu; rfl
      case c3 => unfold maxLen; omega
      case c4 => omega
      case c5 => simp; omega
      intro v' w3 hown' hgrow _
      obtain ⟨q', d', rfl, hq3⟩ := NatO.snoc (x := g) hown' HGO.out (by omega)
      have hb3 : Below w.heap.size w w3 := (HO2.out.2.alloc (by omega) _).grown hgrow (by simp; omega) (fun j hj => (hown.lt j hj).1)
      have ho3 : NatO w.heap.size w3 p2 c2 (D32 R') := by
        refine (NatO.base hwB ⟨(HO2.out.1.own.alloc _).kept hgrow ?_, HO2.out.1.ok⟩)
        rcases hob : (Value.slice p2 (D32 R').length c2).ownBlock with _ | j
        · exact Or.inl rfl
        · right
          intro e
          have h1 := (HO2.out.1.own.lt j hob).1
          have h2 := HLT.out j e.symm
          omega
      have HF := Lib.hid (And.intro hq3 (And.intro hb3 ho3))
      have hRn2 : R' ≤ n := by omega
      clear hown hown' hgrow hq3 hb3 ho3
      go_wp2_with fail
      go_roundg R'
      case rel => exact ⟨R', gs ++ [g], p2, q', c2, d', rfl, rfl, HS.out.1, HF.out.2.2, HF.out.1, HF.out.2.1, Nat.le_refl _, hRn2⟩
      case measure => omega
end Go.Proofs.YtgdjnohhofbcnaaGreatDoor
end
section
namespace Go.Proofs.YtgdjnohhofbcnaaGreatDoor
open Go.RowKit Go.Extern.Stop Go.Stop Go.Extern WordM RuleM NatM

def itoaB (n : Int) : ByteArray := ⟨(Lib.itoa n).toArray⟩
theorem itoaB_size (n : Int) (h0 : -9223372036854775808 ≤ n) (h1 : n ≤ 9223372036854775807) : (itoaB n).size ≤ 21 := by
  have := Lib.itoa_length_le n h0 h1
  show (Lib.itoa n).toArray.size ≤ 21
  simpa using this
theorem itoa_small (n : Nat) (h : n ≤ 4) (w : World) :
    Calls Tryz.prog 27 #[.int .i64 (n : Int)] w (Tells (.string (itoaB (n : Int))) w) :=
  Tells.of_same ((Tryz.strconv_Itoa_small n (by omega) w).mono fun _ _ h => by first | exact h | exact ⟨h.1, h.2.symm⟩)

/-- a rule's text -/
def ruleText (K R N : Nat) : ByteArray := (((itoaB (K : Int) ++ ⟨#[46]⟩) ++ itoaB (R : Int)) ++ ⟨#[46]⟩) ++ textOf N

set_option maxRecDepth 100000 in
set_option maxHeartbeats 4000000 in
theorem rtext_ok (K R : Nat) (p : Option Addr) (n c : Nat) (t : List Int) (w : World) (hn : n = t.length) (h : IntV w.heap.size w p c t) (ho : OkR K R t) (hs : t.length ≤ 256) (hsz : (textOf (codeR K t)).size ≤ 100000) :
    Calls Tryz.prog 7 #[.agg #[.int .i64 (K : Int), .int .i64 (R : Int), .slice p n c]] w (Tells (.tuple #[.string (ruleText K R (codeR K t)), .nilIface]) w) := by
  have hcd := fun W hW => code_ok K R p n c t W hn hW ho hs
  have hNl : (D32 (codeR K t)).length ≤ 100000 := by
    have h1 := valW_len ho.k4 ho.rev
    unfold codeR
    rw [List.length_reverse] at h1
    omega
  obtain ⟨N, hN⟩ : ∃ N, codeR K t = N := ⟨_, rfl⟩
  rw [hN] at hsz hNl ⊢
  simp only [hN] at hcd
  have hnt := fun W q d hW => text_eq q (D32 N).length d (D32 N) W rfl hW hNl
  simp only [V32_D32] at hnt
  have hiK := fun W => itoa_small K ho.k4 W
  have hiR := fun W => itoa_small R (by have := ho.r3; omega) W
  have hsK := itoaB_size (K : Int) (by omega) (by have := ho.k4; omega)
  have hsR := itoaB_size (R : Int) (by omega) (by have := ho.r3; omega)
  have hdot : (⟨#[46]⟩ : ByteArray).size = 1 := rfl
  have a1 := fun (W : World) => run_string_add_sum (P := Tryz.prog) W (itoaB (K : Int)) ⟨#[46]⟩ (by omega)
  have a2 := fun (W : World) => run_string_add_sum (P := Tryz.prog) W (itoaB (K : Int) ++ ⟨#[46]⟩) (itoaB (R : Int)) (by rw [ByteArray.size_append]; omega)
  have a3 := fun (W : World) => run_string_add_sum (P := Tryz.prog) W ((itoaB (K : Int) ++ ⟨#[46]⟩) ++ itoaB (R : Int)) ⟨#[46]⟩ (by simp only [ByteArray.size_append]; omega)
  have a4 := fun (W : World) => run_string_add_sum (P := Tryz.prog) W (((itoaB (K : Int) ++ ⟨#[46]⟩) ++ itoaB (R : Int)) ++ ⟨#[46]⟩) (textOf N) (by simp only [ByteArray.size_append]; omega)
  have HF : Hid (ruleText K R N = (((itoaB (K : Int) ++ ⟨#[46]⟩) ++ itoaB (R : Int)) ++ ⟨#[46]⟩) ++ textOf N) := rfl
  obtain ⟨sK, hsK'⟩ : ∃ x, itoaB (K : Int) = x := ⟨_, rfl⟩
  obtain ⟨sR, hsR'⟩ : ∃ x, itoaB (R : Int) = x := ⟨_, rfl⟩
  obtain ⟨sN, hsN'⟩ : ∃ x, textOf N = x := ⟨_, rfl⟩
  simp only [hsK', hsR', hsN'] at hiK hiR hnt a1 a2 a3 a4 HF
  obtain ⟨p1, hp1⟩ : ∃ x, sK ++ (⟨#[46]⟩ : ByteArray) = x := ⟨_, rfl⟩
  rw [hp1] at a2 a3 a4 HF
  simp only [hp1] at a1
  obtain ⟨p2, hp2⟩ : ∃ x, p1 ++ sR = x := ⟨_, rfl⟩
  rw [hp2] at a3 a4 HF
  simp only [hp2] at a2
  obtain ⟨p3, hp3⟩ : ∃ x, p2 ++ (⟨#[46]⟩ : ByteArray) = x := ⟨_, rfl⟩
  rw [hp3] at a4 HF
  simp only [hp3] at a3
  obtain ⟨p4, hp4⟩ : ∃ x, p3 ++ sN = x := ⟨_, rfl⟩
  rw [hp4] at HF
  simp only [hp4] at a4
  obtain ⟨dl, hdl⟩ : ∃ z, (D32 N).length = z := ⟨_, rfl⟩
  simp only [hdl] at hnt
  have H := Lib.hid (And.intro h (And.intro hcd (And.intro hnt (And.intro hiK (And.intro hiR hdl)))))
  clear h hcd hnt hiK hiR hdl hn ho hs hsz hN hNl hsK hsR hdot hsK' hsR' hsN' hp1 hp2 hp3 hp4
  go_enter Tryz.func7, Tryz.ntmps7
  go_upto_region 1 with fail
  obtain ⟨w0, hw0⟩ : ∃ w0, w0 = w.alloc (.cells #[.int .i64 (K : Int), .int .i64 (R : Int), .slice p n c] 24) := ⟨_, rfl⟩
  have hb0 : Below w.heap.size w w0 := by rw [hw0]; exact (Below.refl _ _).alloc (Nat.le_refl _) _
  have hE0 : Rul3 w0 w.heap.size (.int .i64 (K : Int)) (.int .i64 (R : Int)) (.slice p n c) := by rw [hw0]; exact Rul3.new w _ _ _
  rw [← hw0]
  obtain ⟨_, hc0, hc1, hc2⟩ := hE0.facts
  have HE := Lib.hid (And.intro hE0 hb0)
  clear hw0 hE0 hb0
  go_wp2_with fail
  refine (H.out.2.1 w0 (H.out.1.next HE.out.2)).mono ?_
  rintro e w1 ⟨p1', c1', rfl, ho1, hb1⟩
  rw [H.out.2.2.2.2.2]
  clear hc0 hc1 hc2
  have hb01 := HE.out.2.trans (hb1.mono HE.out.2.size)
  have hx : ∀ wx : World, Below w1.heap.size w1 wx → wx.cell? ⟨w.heap.size, 0, none⟩ = some (.int .i64 (K : Int)) ∧ wx.cell? ⟨w.heap.size, 1, none⟩ = some (.int .i64 (R : Int)) := fun wx hbx =>
    ⟨((HE.out.1.next hb1).next hbx).facts.2.1, ((HE.out.1.next hb1).next hbx).facts.2.2.1⟩
  have hbx : ∀ wx : World, Below w1.heap.size w1 wx → Below w.heap.size w wx := fun wx hbx => hb01.trans (hbx.mono hb01.size)
  have hnx : ∀ wx : World, Below w1.heap.size w1 wx → NatV wx.heap.size wx p1' c1' (D32 N) := fun wx hbx => ho1.toV.next hbx
  have hr0 : Below w1.heap.size w1 w1 := Below.refl _ _
  have hd0 : Below w1.heap.size w1 w1.drew := (Below.refl _ _).drew
  have HX := Lib.hid (And.intro hx (And.intro hbx hnx))
  obtain ⟨hc0, hc1⟩ := hx w1 hr0
  clear hx hbx hnx hb01 ho1 hb1
  go_wp2_with fail
  go_region_held3 (fun w' => w'.cell? ⟨w.heap.size, 0, none⟩ = some (.int .i64 (K : Int)) ∧ w'.cell? ⟨w.heap.size, 1, none⟩ = some (.int .i64 (R : Int))) (first | exact HX.out.1 _ (by assumption) | go_keep) (first
    | (go_at_call 28; refine (H.out.2.2.1 _ p1' c1' (HX.out.2.2 _ (by assumption))).mono ?_; rintro e wl ⟨rfl, hbl⟩; have hBl := (by assumption : Below w1.heap.size w1 _).trans (hbl.mono (by assumption : Below w1.heap.size w1 _).size))
    | (go_at_call 27; refine (H.out.2.2.2.1 _).mono ?_; rintro e wl ⟨rfl, hbl⟩; have hBl := (by assumption : Below w1.heap.size w1 _).trans (hbl.mono (by assumption : Below w1.heap.size w1 _).size))
    | (go_at_call 27; refine (H.out.2.2.2.2.1 _).mono ?_; rintro e wl ⟨rfl, hbl⟩; have hBl := (by assumption : Below w1.heap.size w1 _).trans (hbl.mono (by assumption : Below w1.heap.size w1 _).size)))
  all_goals
    go_wp2_with fail
    go_ret2
    exact ⟨by rw [HF.out]; rfl, HX.out.2.1 _ (by assumption)⟩

set_option maxRecDepth 100000 in
set_option maxHeartbeats 4000000 in
theorem rtext_bad (k r : Int) (p : Option Addr) (n c : Nat) (t : List Int) (w : World) (A : Nat → Addr) (hr : Roots w A) (hn : n = t.length) (h : IntV w.heap.size w p c t) (i m : Nat) (hc : chkS k r t = some (i, m)) :
    Calls Tryz.prog 7 #[.agg #[.int .i64 k, .int .i64 r, .slice p n c]] w (Err2 w A ruleOp i m (.string ⟨#[]⟩)) := by
  have hcd := fun W hR hW => code_bad k r p n c t W A hR hn hW i m hc
  have H := Lib.hid (And.intro hr (And.intro h hcd))
  clear hr h hcd hn hc
  go_enter Tryz.func7, Tryz.ntmps7
  go_upto_region 1 with fail
  obtain ⟨w0, hw0⟩ : ∃ w0, w0 = w.alloc (.cells #[.int .i64 k, .int .i64 r, .slice p n c] 24) := ⟨_, rfl⟩
  have hb0 : Below w.heap.size w w0 := by rw [hw0]; exact (Below.refl _ _).alloc (Nat.le_refl _) _
  have hE0 : Rul3 w0 w.heap.size (.int .i64 k) (.int .i64 r) (.slice p n c) := by rw [hw0]; exact Rul3.new w _ _ _
  rw [← hw0]
  obtain ⟨_, hc0, hc1, hc2⟩ := hE0.facts
  have HE := Lib.hid (And.intro hE0 hb0)
  clear hw0 hE0 hb0
  go_wp2_with fail
  refine (H.out.2.2 w0 (H.out.1.below HE.out.2) (H.out.2.1.next HE.out.2)).mono ?_
  rintro e w1 ⟨b, rfl, hl1, hb1⟩
  have H1 := Lib.hid (And.intro hl1 (HE.out.2.trans (hb1.mono HE.out.2.size)))
  clear hl1 hb1
  go_wp2_with fail
  go_ret2
  exact ⟨b, rfl, H1.out.1, H1.out.2⟩
end Go.Proofs.YtgdjnohhofbcnaaGreatDoor
end
section
namespace Go.Proofs.YtgdjnohhofbcnaaGreatDoor
open Go.RowKit Go.Extern.Stop Go.Stop Go.Extern WordM RuleM NatM

set_option maxRecDepth 100000 in
set_option maxHeartbeats 4000000 in
theorem rtext_ref_bad (k r : Int) (p : Option Addr) (n c : Nat) (t : List Int) (w : World) (hn : n = t.length) (h : IntV w.heap.size w p c t) (i m : Nat) (hm : m ≠ 0) (hc : chkS k r t = some (i, m)) :
    Calls Tryz.prog 8 #[.agg #[.int .i64 k, .int .i64 r, .slice p n c]] w (RefErrR2 w (.string ⟨#[]⟩) i m) := by
  have H := Lib.hid (And.intro h (And.intro hn hc))
  clear h hn hc
  go_enter Tryz.func8, Tryz.ntmps8
  go_upto_region 1 with fail
  obtain ⟨w0, hw0⟩ : ∃ w0, w0 = (w.alloc (.cells #[.int .i64 k, .int .i64 r, .slice p n c] 24)).alloc (.cells #[.int .i64 0, .slice none 0 0, .slice none 0 0] 32) := ⟨_, rfl⟩
  obtain ⟨hb0, hR0, hE0⟩ := start_both w _ _ _ w0 hw0
  rw [← hw0]
  have hszb : (w.alloc (.cells #[.int .i64 k, .int .i64 r, .slice p n c] 24)).heap.size = w.heap.size + 1 := by simp
  obtain ⟨_, hr0, hr1, hr2⟩ := hR0.facts
  have HE := Lib.hid (And.intro hR0 (And.intro hE0 hb0))
  clear hw0 hR0 hE0 hb0
  go_wp2_with fail
  refine (code_ref_bad k r p n c t w0 H.out.2.1 (H.out.1.next HE.out.2.2) i m hm H.out.2.2).mono ?_
  rintro e w1 ⟨v, rfl, g, g', rfl, ⟨hg1, hg2⟩, hw, hb1⟩
  obtain ⟨wB, hwB⟩ : ∃ x, x = w1.alloc (.cells #[.int .i64 (m : Int), .slice (some ⟨g, 0, none⟩) 1 1, .slice (some ⟨g', 0, none⟩) 1 1] 32) := ⟨_, rfl⟩
  have hbB : Below w1.heap.size w1 wB := by rw [hwB]; exact (Below.refl _ _).alloc (Nat.le_refl _) _
  have hEB : Err3 wB w1.heap.size (.int .i64 (m : Int)) (.slice (some ⟨g, 0, none⟩) 1 1) (.slice (some ⟨g', 0, none⟩) 1 1) := by rw [hwB]; exact ⟨heap_newN w1 _⟩
  have hE1 := (HE.out.2.1.next hb1).next hbB
  have hlt0 := HE.out.2.1.lt
  have hbw : Below w.heap.size w wB := (HE.out.2.2.trans (hb1.mono HE.out.2.2.size)).trans (hbB.mono (Nat.le_trans HE.out.2.2.size hb1.size))
  have hs1 := hb1.size
  clear hr0 hr1 hr2
  obtain ⟨_, hk0, hk1, hk2⟩ := hEB.facts
  have H1 := Lib.hid (And.intro hE1 (And.intro hEB (And.intro hbw (hw.next hbB))))
  clear hb1 hbB hEB hE1 hbw hw
  go_upto_region 2 with fail
  rw [← hwB]
  clear hwB
  go_wp2_with fail
  refine (bad_yes (m : Int) (by omega) (.slice (some ⟨g, 0, none⟩) 1 1) (.slice (some ⟨g', 0, none⟩) 1 1) wB).mono ?_
  rintro e wq ⟨rfl, hbq⟩
  obtain ⟨⟨hf0, hf1, hf2⟩, hc0, hc1, hc2⟩ := (H1.out.1.next hbq).facts
  obtain ⟨_, hg0, hg1', hg2'⟩ := (H1.out.2.1.next hbq).facts
  have HQ := Lib.hid (And.intro (H1.out.2.2.1.trans (hbq.mono H1.out.2.2.1.size)) (H1.out.2.2.2.next hbq))
  clear hbq hk0 hk1 hk2
  have hne : w1.heap.size ≠ w.heap.size + 1 := by omega
  go_wp2_with fail
  go_region
  go_wp2_with fail
  refine bodyPost_ret (v := .tuple #[.string ⟨#[]⟩, .agg #[.int .i64 (m : Int), .slice (some ⟨g, 0, none⟩) 1 1, .slice (some ⟨g', 0, none⟩) 1 1]]) (by simp [results, Tryz.results8, go_sem, hc0, hc1, hc2]) rfl ⟨_, rfl, g, g', rfl, ⟨by omega, by omega⟩, ?_, ?_⟩
  · exact (HQ.out.2.put3 (by omega) (by omega) _ _ _).next (Below.refl _ _).drew
  · exact (put3_below HQ.out.1 (Nat.le_succ _) _ _ _).drew

/-- the document's text of a rule: symbols and radius as digits -/
def headT (K R : Nat) : List Nat := [48 + K, 46, 48 + R, 46]
def refText (K R N : Nat) : ByteArray := strOfNums ((headT K R).map fun (b : Nat) => (b : Int)) ++ textOf N
/-- the world with the text's head laid out -/
def headW (K R : Nat) (W : World) : World := (W.alloc (.cells #[.int .u8 (48 + (K : Int)), .int .u8 46, .int .u8 (48 + (R : Int)), .int .u8 46] 5)).drew
theorem head_below (K R : Nat) (W : World) : Below W.heap.size W (headW K R W) := ((Below.refl _ _).alloc (Nat.le_refl _) _).drew
theorem head_lt (K R : Nat) (W : World) : W.heap.size < (headW K R W).heap.size := by
  show W.heap.size < (W.alloc _).heap.size
  simp
theorem head_next (K R : Nat) (W wx : World) (h : Below (headW K R W).heap.size (headW K R W) wx) : (convert 68 9 (.slice (some ⟨W.heap.size, 0, none⟩) 4 4)).run Tryz.prog wx = .ok (.string (strOfNums ((headT K R).map fun (b : Nat) => (b : Int)))) wx := by
  refine run_convert_bytes_arg (P := Tryz.prog) _ 68 5 Tryz.underlying68 Tryz.underlying5 W.heap.size 0 4 4 ((headT K R).map fun (b : Nat) => (b : Int)) (by rfl) (fun i hi => ?_) 9 Tryz.underlying9
  rw [Nat.zero_add, h.cell (p := ⟨W.heap.size, i, none⟩) (head_lt K R W)]
  show (W.alloc _).cell? _ = _
  rw [cell_alloc_at _ _ _ _ _ rfl]
  rcases (show i = 0 ∨ i = 1 ∨ i = 2 ∨ i = 3 by omega) with rfl | rfl | rfl | rfl <;> simp [headT]
theorem head_conv (K R : Nat) (W : World) : (convert 68 9 (.slice (some ⟨W.heap.size, 0, none⟩) 4 4)).run Tryz.prog (W.alloc (.cells #[.int .u8 (48 + (K : Int)), .int .u8 46, .int .u8 (48 + (R : Int)), .int .u8 46] 5)).drew = .ok (.string (strOfNums ((headT K R).map fun (b : Nat) => (b : Int)))) (W.alloc (.cells #[.int .u8 (48 + (K : Int)), .int .u8 46, .int .u8 (48 + (R : Int)), .int .u8 46] 5)).drew := head_next K R W _ (Below.refl _ _)
theorem head_conv0 (K R : Nat) (W : World) : (convert 68 9 (.slice (some ⟨W.heap.size, 0, none⟩) 4 4)).run Tryz.prog (W.alloc (.cells #[.int .u8 (48 + (K : Int)), .int .u8 46, .int .u8 (48 + (R : Int)), .int .u8 46] 5)) = .ok (.string (strOfNums ((headT K R).map fun (b : Nat) => (b : Int)))) (W.alloc (.cells #[.int .u8 (48 + (K : Int)), .int .u8 46, .int .u8 (48 + (R : Int)), .int .u8 46] 5)) := by
  refine run_convert_bytes_arg (P := Tryz.prog) _ 68 5 Tryz.underlying68 Tryz.underlying5 W.heap.size 0 4 4 ((headT K R).map fun (b : Nat) => (b : Int)) (by rfl) (fun i hi => ?_) 9 Tryz.underlying9
  rw [Nat.zero_add, cell_alloc_at _ _ _ _ _ rfl]
  rcases (show i = 0 ∨ i = 1 ∨ i = 2 ∨ i = 3 by omega) with rfl | rfl | rfl | rfl <;> simp [headT]
def RefTx (w : World) (s : ByteArray) (e : Ending) (w' : World) : Prop := e = .returned (.tuple #[.string s, noErr]) ∧ Below w.heap.size w w'
set_option maxRecDepth 100000 in
set_option maxHeartbeats 4000000 in
theorem rtext_ref_ok (K R : Nat) (p : Option Addr) (n c : Nat) (t : List Int) (w : World) (hn : n = t.length) (h : IntV w.heap.size w p c t) (ho : OkR K R t) (hn256 : n ≤ 256) (hsz : (textOf (codeR K t)).size ≤ 100000) :
    Calls Tryz.prog 8 #[.agg #[.int .i64 (K : Int), .int .i64 (R : Int), .slice p n c]] w (RefTx w (refText K R (codeR K t))) := by
  have h4 := ho.k4
  have h3 := ho.r3
  have hcd : ∀ W, IntV W.heap.size W p c t → Calls Tryz.prog 29 #[.agg #[.int .i64 (K : Int), .int .i64 (R : Int), .slice p n c]] W (PowOutR W (codeR K t)) := fun W hW => code_ref_ok K R p n c t W hn hW ho hn256
  have hNl : (D32 (codeR K t)).length ≤ 100000 := by
    have h1 := valW_len ho.k4 ho.rev
    unfold codeR
    rw [List.length_reverse] at h1
    omega
  obtain ⟨N, hN⟩ : ∃ N, codeR K t = N := ⟨_, rfl⟩
  rw [hN] at hsz hNl ⊢
  simp only [hN] at hcd
  have hnt := fun W q d hW => text_ref q d (D32 N) W hW hNl
  simp only [V32_D32] at hnt
  have hst : (strOfNums ((headT K R).map fun (b : Nat) => (b : Int))).size = 4 := by
    simp [headT, strOfNums, ByteArray.size]
  have hadd := fun (W : World) => run_string_add_sum (P := Tryz.prog) W (strOfNums ((headT K R).map fun (b : Nat) => (b : Int))) (textOf N) (by omega)
  have HT : Hid (refText K R N = strOfNums ((headT K R).map fun (b : Nat) => (b : Int)) ++ textOf N) := Lib.hid rfl
  obtain ⟨hd, hhd⟩ : ∃ x, strOfNums ((headT K R).map fun (b : Nat) => (b : Int)) = x := ⟨_, rfl⟩
  obtain ⟨sN, hsN⟩ : ∃ x, textOf N = x := ⟨_, rfl⟩
  obtain ⟨sT, hsT⟩ : ∃ x, hd ++ sN = x := ⟨_, rfl⟩
  rw [hhd, hsN, hsT] at HT
  simp only [hhd, hsN, hsT] at hadd
  simp only [hsN] at hnt
  rw [HT.out]
  have hcv := head_conv K R
  have hcv0 := head_conv0 K R
  have hnx := head_next K R
  simp only [hhd] at hcv hcv0 hnx
  have hiK : IntKind.i64.wrap (48 + (K : Int)) = 48 + (K : Int) := by rw [IntWalk.i64_in _ (by omega)]
  have hiR : IntKind.i64.wrap (48 + (R : Int)) = 48 + (R : Int) := by rw [IntWalk.i64_in _ (by omega)]
  have hwK : IntKind.u8.wrap (48 + (K : Int)) = 48 + (K : Int) := by rw [IntKind.wrap_u8]; omega
  have hwR : IntKind.u8.wrap (48 + (R : Int)) = 48 + (R : Int) := by rw [IntKind.wrap_u8]; omega
  have HH := Lib.hid (And.intro hnx hcd)
  have H := Lib.hid (And.intro h (And.intro hn hnt))
  clear h hn hcd hnx hnt ho hn256 hsz hN hNl hst hhd hsN hsT HT
  go_enter Tryz.func8, Tryz.ntmps8
  go_upto_region 1 with fail
  obtain ⟨w0, hw0⟩ : ∃ w0, w0 = (w.alloc (.cells #[.int .i64 (K : Int), .int .i64 (R : Int), .slice p n c] 24)).alloc (.cells #[.int .i64 0, .slice none 0 0, .slice none 0 0] 32) := ⟨_, rfl⟩
  obtain ⟨hb0, hR0, hE0⟩ := start_both w _ _ _ w0 hw0
  rw [← hw0]
  have hszb : (w.alloc (.cells #[.int .i64 (K : Int), .int .i64 (R : Int), .slice p n c] 24)).heap.size = w.heap.size + 1 := by simp
  obtain ⟨_, hr0, hr1, hr2⟩ := hR0.facts
  have HE := Lib.hid (And.intro hR0 (And.intro hE0 hb0))
  clear hw0 hR0 hE0 hb0
  go_wp2_with fail
  refine (HH.out.2 w0 (H.out.1.next HE.out.2.2)).mono ?_
  rintro e w1 ⟨p1, c1, rfl, ho1, hb1⟩
  obtain ⟨wB, hwB⟩ : ∃ x, x = w1.alloc (.cells #[.int .i64 0, .slice none 0 0, .slice none 0 0] 32) := ⟨_, rfl⟩
  have hbB : Below w1.heap.size w1 wB := by rw [hwB]; exact (Below.refl _ _).alloc (Nat.le_refl _) _
  have hEB : Err3 wB w1.heap.size (.int .i64 0) (.slice none 0 0) (.slice none 0 0) := by rw [hwB]; exact ⟨heap_newN w1 _⟩
  have hRB := (HE.out.1.next hb1).next hbB
  have hE1 := (HE.out.2.1.next hb1).next hbB
  have hbw : Below w.heap.size w wB := (HE.out.2.2.trans (hb1.mono HE.out.2.2.size)).trans (hbB.mono (Nat.le_trans HE.out.2.2.size hb1.size))
  have hvB := (ho1.next hbB).toV
  clear hr0 hr1 hr2
  obtain ⟨_, hk0, hk1, hk2⟩ := hEB.facts
  have H1 := Lib.hid (And.intro hRB (And.intro hE1 (And.intro hbw hvB)))
  clear hb1 hbB hEB hE1 hbw hRB ho1 hvB
  go_upto_region 2 with fail
  rw [← hwB]
  clear hwB
  go_wp2_with fail
  refine (bad_no (.slice none 0 0) (.slice none 0 0) wB).mono ?_
  rintro e wq ⟨rfl, hbq⟩
  have hRq := H1.out.1.next hbq
  have hEq := H1.out.2.1.next hbq
  clear hk0 hk1 hk2
  obtain ⟨_, hr0, hr1, hr2⟩ := hRq.facts
  have hltq := hEq.lt
  have HQ := Lib.hid (And.intro hEq (And.intro (H1.out.2.2.1.trans (hbq.mono H1.out.2.2.1.size)) (And.intro hRq (H1.out.2.2.2.next hbq))))
  clear hbq hRq hEq
  have hx : ∀ wx : World, Below wq.heap.size wq wx → wx.cell? ⟨w.heap.size, 0, none⟩ = some (.int .i64 (K : Int)) ∧ wx.cell? ⟨w.heap.size, 1, none⟩ = some (.int .i64 (R : Int)) := fun wx hbx => ⟨(HQ.out.2.2.1.next hbx).facts.2.1, (HQ.out.2.2.1.next hbx).facts.2.2.1⟩
  have hd0 : Below wq.heap.size wq wq.drew := (Below.refl _ _).drew
  have hA0 : Below wq.heap.size wq (headW K R wq) := head_below K R wq
  have hnt := fun W hW => H.out.2.2 W p1 c1 (HQ.out.2.2.2.next hW)
  go_wp2_with fail
  go_region_with (first
    | (go_at_call 31; refine (hnt (headW K R wq) hA0).mono ?_; rintro e wl ⟨rfl, hbl⟩; have hcw := HH.out.1 wq wl hbl; have hBl : Below wq.heap.size wq wl := hA0.trans (hbl.mono hA0.size); obtain ⟨hx0, hx1⟩ := hx wl hBl; obtain ⟨⟨hf0, hf1, hf2⟩, hc0, hc1, hc2⟩ := (HQ.out.1.next hBl).facts; have hltl := Nat.lt_of_lt_of_le hltq hBl.size; have hltr : w.heap.size < wl.heap.size := Nat.lt_of_succ_lt hltl)
    | (go_at_call 31; refine (hnt _ (by first | exact Below.refl _ _ | exact hd0)).mono ?_; rintro e wl ⟨rfl, hbl⟩; have hBl : Below wq.heap.size wq wl := (by first | exact hbl | exact hd0.trans (hbl.mono hd0.size)); obtain ⟨hx0, hx1⟩ := hx wl hBl; obtain ⟨⟨hf0, hf1, hf2⟩, hc0, hc1, hc2⟩ := (HQ.out.1.next hBl).facts; have hltl := Nat.lt_of_lt_of_le hltq hBl.size; have hltr : w.heap.size < wl.heap.size := Nat.lt_of_succ_lt hltl))
  all_goals
    have hbW : Below w.heap.size w wl := HQ.out.2.1.trans (hBl.mono HQ.out.2.1.size)
    have hbA : Below w.heap.size w (wl.alloc (.cells #[.int .u8 (48 + (K : Int)), .int .u8 46, .int .u8 (48 + (R : Int)), .int .u8 46] 5)) := hbW.alloc hbW.size _
    go_wp2_with fail
    refine bodyPost_ret (v := .tuple #[.string sT, noErr]) (by simp [results, Tryz.results8, go_sem, hc0, hc1, hc2, hltl, noErr]) rfl ⟨rfl, ?_⟩
    first
      | exact put3_below hbW (Nat.le_succ _) _ _ _
      | exact put3_below hbA (Nat.le_succ _) _ _ _
      | exact (put3_below hbW (Nat.le_succ _) _ _ _).drew
      | exact (put3_below hbA (Nat.le_succ _) _ _ _).drew
      | exact put3_below hbA.drew (Nat.le_succ _) _ _ _
      | exact (put3_below hbW (Nat.le_succ _) _ _ _).alloc (by simp [put3]; exact hbW.size) _
end Go.Proofs.YtgdjnohhofbcnaaGreatDoor
end
section
namespace Go.Proofs.YtgdjnohhofbcnaaGreatDoor
open Go.RowKit Go.Extern.Stop Go.Stop Go.Extern WordM RuleM NatM

theorem ruleText_eq (K R N : Nat) (hK : K ≤ 4) (hR : R ≤ 3) : ruleText K R N = refText K R N := by
  unfold ruleText refText
  congr 1
  rcases (show K = 0 ∨ K = 1 ∨ K = 2 ∨ K = 3 ∨ K = 4 by omega) with rfl | rfl | rfl | rfl | rfl <;>
    rcases (show R = 0 ∨ R = 1 ∨ R = 2 ∨ R = 3 by omega) with rfl | rfl | rfl | rfl <;> decide +kernel
/-- the number's text is short -/
theorem textOf_size {N k : Nat} (hk : 1 ≤ k) (h : N < 10 ^ k) : (textOf N).size ≤ k := by
  have hl : (decL N).length ≤ k := by
    unfold decL
    split
    · exact hk
    · rw [List.length_reverse]; exact digs_length_le (by omega) h
  have hs : (textOf N).size = (decL N).length := by simp [textOf, strOfNums, ByteArray.size]
  rw [hs]; exact hl
/-- the number of a rule of at most 256 cells: its text is short -/
theorem codeText_size {K R : Nat} {t : List Int} (ho : OkR K R t) (hs : t.length ≤ 256) : (textOf (codeR K t)).size ≤ 100000 := by
  have h : codeR K t < 10 ^ 1000 := by
    refine Nat.lt_of_lt_of_le (code_lt ho) (Nat.le_trans (Nat.pow_le_pow_left ho.k4 _) (Nat.le_trans (Nat.pow_le_pow_right (by omega) (show K ^ (2 * R + 1) ≤ 256 by rw [← ho.len]; exact hs)) (by decide +kernel)))
  exact Nat.le_trans (textOf_size (by omega) h) (by omega)
end Go.Proofs.YtgdjnohhofbcnaaGreatDoor
end
