/- The document's own package of numbers by its contracts, ninth part: Over. -/
import Derived.Test.YthafjbegkifekaaDoorBRefH
namespace Go.Proofs.YthafjbegkifekaaDoor
open Go.RowKit NatM

/-- the quotient's digits from place j on, and the rest -/
structure QInv (a : List Nat) (d j r : Nat) (t : List Nat) : Prop where
  ok : okB 65536 t
  len : t.length = a.length
  car : r < d
  val : V16 (t.drop j) * d + r = V16 (a.drop j)
theorem QInv.start {a : List Nat} {d : Nat} (hd : 0 < d) : QInv a d a.length 0 (List.replicate a.length 0) := ⟨okB_replicate (by omega) _, by simp, hd, by rw [List.drop_length, List.drop_of_length_le (by simp)]; simp [V16, valB]⟩
theorem quo_lt {d r y : Nat} (hr : r < d) (hy : y < 65536) : (r * 65536 + y) / d < 65536 := by
  rw [Nat.div_lt_iff_lt_mul (by omega)]
  have : (r + 1) * 65536 ≤ d * 65536 := Nat.mul_le_mul_right _ hr
  omega
theorem quo_arith {q d r' r y Vd Vx : Nat} (h1 : d * q + r' = r * 65536 + y) (h2 : Vd * d + r = Vx) : (q + 65536 * Vd) * d + r' = y + 65536 * Vx := by
  rw [← h2, Nat.add_mul, Nat.mul_add, Nat.mul_assoc, Nat.mul_comm q d]
  omega
theorem QInv.step {a : List Nat} {d j r y : Nat} {t : List Nat} (h : QInv a d (j + 1) r t) (hy : a[j]? = some y) (hyl : y < 65536) : QInv a d j ((r * 65536 + y) % d) (t.set j ((r * 65536 + y) / d)) := by
  have hj := get_lt hy
  have hc := h.car
  obtain ⟨z, hz⟩ := some_get (l := t) (k := j) (by rw [h.len]; exact hj)
  refine ⟨okB_set h.ok (quo_lt hc hyl) _, by rw [List.length_set]; exact h.len, Nat.mod_lt _ (by omega), ?_⟩
  have hs : (t.set j ((r * 65536 + y) / d))[j]? = some ((r * 65536 + y) / d) := by rw [List.getElem?_set_self (get_lt hz)]
  show valB 65536 _ * d + _ = valB 65536 _
  rw [valB_dropq 65536 hs, valB_dropq 65536 hy, drop_set_succ]
  exact quo_arith (Nat.div_add_mod _ _) h.val
theorem QInv.done {a : List Nat} {d r : Nat} {t : List Nat} (h : QInv a d 0 r t) : V16 t = V16 a / d ∧ r = V16 a % d := by
  have hv := h.val
  have hc := h.car
  rw [List.drop_zero, List.drop_zero] at hv
  rw [← hv, Nat.mul_comm]
  constructor
  · rw [Nat.mul_add_div (by omega), Nat.div_eq_of_lt hc, Nat.add_zero]
  · rw [Nat.mul_add_mod, Nat.mod_eq_of_lt hc]

def OverRefErr (w : World) (e : Ending) (w' : World) : Prop := ∃ v, e = .returned (.tuple #[.slice none 0 0, .int .u32 0, v]) ∧ RefErr w 0 3 v w'
def OverRefOk (w : World) (n d : Nat) (e : Ending) (w' : World) : Prop :=
  ∃ p c, e = .returned (.tuple #[.slice p (D32 (n / d)).length c, .int .u32 ((n % d : Nat) : Int), noErr]) ∧ NatO w.heap.size w' p c (D32 (n / d)) ∧ Below w.heap.size w w'

set_option maxRecDepth 100000 in
set_option maxHeartbeats 2000000 in
theorem over_ref_zero (p : Option Addr) (n c : Nat) (w : World) :
    Calls Tryd.prog 60 #[.slice p n c, .int .u32 0] w (OverRefErr w) := by
  go_enter Tryd.func60, Tryd.ntmps60
  go_wp2_with fail
  obtain ⟨w0, hw0⟩ : ∃ w0, w0 = w.alloc (.cells #[.int .i64 0, .slice none 0 0, .slice none 0 0] 33) := ⟨_, rfl⟩
  rw [← hw0]
  have hb0 : Below w.heap.size w w0 := by rw [hw0]; exact (Below.refl _ _).alloc (Nat.le_refl _) _
  have hs0 : w.heap.size < w0.heap.size := by rw [hw0]; simp
  have hE0 : Err3 w0 w.heap.size (.int .i64 0) (.slice none 0 0) (.slice none 0 0) := by rw [hw0]; exact Err3.new w
  clear hw0
  refine (raw_fresh natOp 0 3 w0).mono ?_
  rintro e w2 ⟨g, g', rfl, ⟨hg1, hg2, hg3, hg4⟩, hcg, hcg', hb2⟩
  obtain ⟨⟨hf0, hf1, hf2⟩, hc0, hc1, hc2⟩ := (hE0.next hb2).facts
  have HB2 := Lib.hid (And.intro hcg (And.intro hcg' (hb0.trans (hb2.mono (by omega)))))
  clear hb2 hcg hcg' hb0 hE0
  go_wp2_with fail
  refine bodyPost_ret (v := .tuple #[.slice none 0 0, .int .u32 0, .agg #[.int .i64 3, .slice (some ⟨g, 0, none⟩) 1 1, .slice (some ⟨g', 0, none⟩) 1 1]]) (by simp [results, Tryd.results60, go_sem, hc0, hc1, hc2]) rfl ⟨_, rfl, _, _, rfl, ?_, ?_⟩
  · exact WantV.one (by simp; omega) (by simp; omega) ((put3_cell w2 w.heap.size _ _ _ _ (by simp; omega)).trans HB2.out.1) ((put3_cell w2 w.heap.size _ _ _ _ (by simp; omega)).trans HB2.out.2.1)
  · exact put3_below HB2.out.2.2 (Nat.le_refl _) _ _ _

def OverRefRel (B : Nat) (w3 : World) (a : List Nat) (d : Nat) (p : Option Addr) (cap : Nat) (v9 v10 : Value) (wr : World) : Prop :=
  ∃ (j r : Nat) (t : List Nat), j ≤ a.length ∧ v9 = .int .u64 (r : Int) ∧ v10 = .int .i64 ((j : Int) - 1) ∧ QInv a d j r t ∧ NatO B wr p cap t ∧ Below B w3 wr
set_option maxRecDepth 100000 in
set_option maxHeartbeats 4000000 in
theorem over_ref (p : Option Addr) (c : Nat) (l : List Nat) (d : Nat) (w : World) (h : NatV w.heap.size w p c l) (hl : l.length ≤ 1048576) (hd : 0 < d) (hdl : d < 4294967296) :
    Calls Tryd.prog 60 #[.slice p l.length c, .int .u32 (d : Int)] w (OverRefOk w (V32 l) d) := by
  have hal := half_len h.ok
  have H := Lib.hid h
  obtain ⟨A, hA⟩ : ∃ A, V32 l = A := ⟨_, rfl⟩
  have HA := Lib.hid hA
  rw [hA] at hal ⊢
  have hal2 : (D16 A).length ≤ 2097152 := by omega
  have hd0 : ((d : Int) == 0) = false := by rw [beq_eq_false_iff_ne]; omega
  clear h hA hal
  go_enter Tryd.func60, Tryd.ntmps60
  go_wp2_with fail
  obtain ⟨w0, hw0⟩ : ∃ w0, w0 = w.alloc (.cells #[.int .i64 0, .slice none 0 0, .slice none 0 0] 33) := ⟨_, rfl⟩
  rw [← hw0]
  have hb0 : Below w.heap.size w w0 := by rw [hw0]; exact (Below.refl _ _).alloc (Nat.le_refl _) _
  have hs0 : w.heap.size < w0.heap.size := by rw [hw0]; simp
  have hE0 : Err3 w0 w.heap.size (.int .i64 0) (.slice none 0 0) (.slice none 0 0) := by rw [hw0]; exact Err3.new w
  have hT1 := half_any p c l w0 (H.out.next hb0) hl
  rw [HA.out] at hT1
  clear hw0
  refine hT1.mono ?_
  clear hT1
  rintro e w3 ⟨p1, c1, rfl, ho1, hb2⟩
  have hs3 := hb2.size
  have hva : V16 (D16 A) = A := V16_D16 _
  have HV := Lib.hid (And.intro ho1.toV (And.intro (D16_ok A) hva))
  have HB3 := Lib.hid (And.intro (hE0.next hb2) (hb0.trans (hb2.mono (by omega))))
  clear ho1 hb2 hb0 hE0 hva
  obtain ⟨a, ha⟩ : ∃ a, D16 A = a := ⟨_, rfl⟩
  rw [ha] at HV hal2 ⊢
  clear ha
  have hmk := make32u a.length (by omega) w3
  go_wp2_with fail
  have hm0 := NatO.made w3 a.length (by omega)
  have hB3m : Below w3.heap.size w3 (w3.alloc (.cells (madeCells #[.int .u32 0] a.length) 83)) := (Below.refl w3.heap.size w3).alloc (Nat.le_refl _) _
  have hs4 : (w3.alloc (.cells (madeCells #[.int .u32 0] a.length) 83)).heap.size = w3.heap.size + 1 := by simp
  obtain ⟨w4, hw4⟩ : ∃ w4, w4 = w3.alloc (.cells (madeCells #[.int .u32 0] a.length) 83) := ⟨_, rfl⟩
  rw [← hw4] at hm0 hB3m hs4 ⊢
  have HM := Lib.hid (And.intro hm0 hB3m)
  clear hm0 hB3m hw4 hmk
  go_loopw [9, 10] (fun v9 v10 wr => OverRefRel w3.heap.size w3 a d (some ⟨w3.heap.size, 0, none⟩) a.length v9 v10 wr) (fun _ v _ => (intOf v + 1).toNat)
  case atStart => exact ⟨a.length, 0, List.replicate a.length 0, Nat.le_refl _, rfl, by go_num, QInv.start hd, HM.out.1, HM.out.2⟩
  case round =>
    obtain ⟨j, r, t, hj, rfl, rfl, hS, ho, hbx⟩ := hrel
    have hwB : w3.heap.size ≤ wr.heap.size := hbx.size
    have hrd := hS.car
    rcases Nat.eq_zero_or_pos j with rfl | hj0
    · have htl := hS.len
      obtain ⟨hd1, hd2⟩ := hS.done
      rw [HV.out.2.2] at hd1 hd2
      have hw := whole_any (some ⟨w3.heap.size, 0, none⟩) a.length t wr ho.toV hS.ok (by omega)
      rw [hd1, htl] at hw
      have HE := Lib.hid (And.intro (HB3.out.1.next hbx) (And.intro (HB3.out.2.trans (hbx.mono (by omega))) hd2))
      clear hS ho hbx htl hd1 hd2
      go_wp2_with fail
      refine hw.mono ?_
      rintro e w5 ⟨p5, c5, rfl, ho5, hb5⟩
      have hs5 := hb5.size
      obtain ⟨⟨hf0, hf1, hf2⟩, hk0, hk1, hk2⟩ := (HE.out.1.next hb5).facts
      have HW := Lib.hid (And.intro ho5 (HE.out.2.1.trans (hb5.mono (by omega))))
      clear hw ho5 hb5
      have hr32 : (r : Int) < 4294967296 := by omega
      go_wp2_with fail
      refine bodyPost_ret (v := .tuple #[.slice p5 (D32 (A / d)).length c5, .int .u32 (r : Int), noErr]) (by simp [results, Tryd.results60, go_sem, hk0, hk1, hk2, noErr]) rfl ⟨_, _, by rw [HE.out.2.2], ?_, ?_⟩
      · exact (HW.out.1.put3 (by omega) _ _ _).base (by omega)
      · exact put3_below HW.out.2 (Nat.le_refl _) _ _ _
    · obtain ⟨i, rfl⟩ : ∃ i, j = i + 1 := ⟨j - 1, by omega⟩
      rw [show (((i + 1 : Nat) : Int) - 1) = (i : Int) by omega]
      obtain ⟨y, hy⟩ := some_get (l := a) (k := i) (by omega)
      obtain ⟨ba, off, rfl, hba, hca⟩ := (HV.out.1.below hbx).cell (List.length_pos_iff.1 (by omega))
      have hcx := hca i y hy
      have hyl : y < 65536 := ok_get HV.out.2.1 hy
      have hst := hS.step hy hyl
      have hql := quo_lt hrd hyl
      have htl := hS.len
      obtain ⟨g, hg, hgb, hgl, hcells, hfrz⟩ := ho.shape (by omega)
      obtain rfl : w3.heap.size = g := by simpa using hg
      obtain ⟨z, hz⟩ := some_get (l := t) (k := i) (by omega)
      have hcz := hcells i z hz
      have hfz := hfrz i
      obtain ⟨N, hN⟩ : ∃ N, r * 65536 + y = N := ⟨_, rfl⟩
      have hNi : (r : Int) * 65536 + (y : Int) = (N : Int) := by omega
      have hNl : N < 281474976710656 := by omega
      rw [hN] at hst hql
      obtain ⟨Q, hQ⟩ : ∃ Q, N / d = Q := ⟨_, rfl⟩
      obtain ⟨R, hR⟩ : ∃ R, N % d = R := ⟨_, rfl⟩
      have hQi : (N : Int) / (d : Int) = (Q : Int) := by rw [← hQ]; omega
      have hRi : (N : Int) % (d : Int) = (R : Int) := by rw [← hR]; omega
      have hRl : R < d := by rw [← hR]; exact Nat.mod_lt _ hd
      rw [hQ] at hst hql
      rw [hR] at hst
      have HX := Lib.hid (And.intro hst (And.intro (NatO.store ho i Q (by omega)) hbx))
      have hil : i < a.length := by omega
      clear hca hy hst hS htl ho hg hcells hfrz hz hbx hN hQ hR
      go_wp2_with fail
      go_roundw
      case rel =>
        refine ⟨i, R, t.set i Q, by omega, by rw [hRi], rfl, HX.out.1, HX.out.2.1, HX.out.2.2.setCell (Nat.le_refl _) _⟩
      case measure => simp [intOf]
end Go.Proofs.YthafjbegkifekaaDoor
