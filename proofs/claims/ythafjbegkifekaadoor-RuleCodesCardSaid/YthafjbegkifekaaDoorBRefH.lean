/- The document's own package of numbers by its contracts, eighth part: Mul. -/
import Derived.Test.YthafjbegkifekaaDoorBRefG
namespace Go.Proofs.YthafjbegkifekaaDoor
open Go.RowKit NatM

/-- a list of n digits with a carry at place k; together T -/
structure PInv (n k c T : Nat) (t : List Nat) : Prop where
  ok : okB 65536 t
  len : t.length = n
  car : c < 65536
  val : V16 t + 65536 ^ k * c = T
theorem PInv.start (n k : Nat) : PInv n k 0 0 (List.replicate n 0) := ⟨okB_replicate (by omega) _, by simp, by omega, by simp [V16, valB_replicate]⟩
theorem PInv.at {n k k' T : Nat} {t : List Nat} (h : PInv n k 0 T t) : PInv n k' 0 T t := ⟨h.ok, h.len, h.car, by have := h.val; simpa using this⟩
theorem mul_arith {x y c z : Nat} (hx : x < 65536) (hy : y < 65536) (hc : c < 65536) (hz : z < 65536) :
    x * y + c ≤ 4294901760 ∧ (x * y + c) / 65536 + (z + (x * y + c) % 65536) / 65536 < 65536 ∧ (z + (x * y + c) % 65536) % 65536 + 65536 * ((x * y + c) / 65536 + (z + (x * y + c) % 65536) / 65536) = z + x * y + c := by
  have h1 : x * y ≤ 65535 * 65535 := Nat.mul_le_mul (by omega) (by omega)
  obtain ⟨m, hm⟩ : ∃ m, x * y = m := ⟨_, rfl⟩
  rw [hm] at h1 ⊢
  omega
theorem put_step {T0 T1 P z r c c' d : Nat} (h1 : T1 + P * z = T0 + P * r) (h2 : r + 65536 * c' = z + d + c) : T1 + P * 65536 * c' = T0 + P * c + P * d := by
  have e : P * (r + 65536 * c') = P * (z + d + c) := by rw [h2]
  rw [Nat.mul_add, Nat.mul_add, Nat.mul_add, ← Nat.mul_assoc] at e
  omega
theorem PInv.put {n k c T z r c' d : Nat} {t : List Nat} (h : PInv n k c T t) (hz : t[k]? = some z) (hr : r < 65536) (hc : c' < 65536) (he : r + 65536 * c' = z + d + c) : PInv n (k + 1) c' (T + 65536 ^ k * d) (t.set k r) := by
  refine ⟨okB_set h.ok hr _, by rw [List.length_set]; exact h.len, hc, ?_⟩
  have hs := valB_setq 65536 r hz
  rw [Nat.pow_succ, ← h.val]
  exact put_step hs he
theorem PInv.mul {n i j c S x y z : Nat} {b t : List Nat} (h : PInv n (i + j) c (S + 65536 ^ i * (x * V16 (b.take j))) t) (hx : x < 65536) (hb : okB 65536 b) (hy : b[j]? = some y) (hz : t[i + j]? = some z) :
    PInv n (i + (j + 1)) ((x * y + c) / 65536 + (z + (x * y + c) % 65536) / 65536) (S + 65536 ^ i * (x * V16 (b.take (j + 1)))) (t.set (i + j) ((z + (x * y + c) % 65536) % 65536)) := by
  obtain ⟨_, h2, h3⟩ := mul_arith hx (ok_get hb hy) h.car (ok_get h.ok hz)
  have := h.put hz (r := (z + (x * y + c) % 65536) % 65536) (by omega) h2 h3
  have e : S + 65536 ^ i * (x * V16 (b.take j)) + 65536 ^ (i + j) * (x * y) = S + 65536 ^ i * (x * V16 (b.take (j + 1))) := by
    show _ = S + 65536 ^ i * (x * valB 65536 (b.take (j + 1)))
    rw [valB_takeq 65536 hy, Nat.pow_add, Nat.mul_add, Nat.mul_add, Nat.add_assoc]
    congr 2
    rw [Nat.mul_assoc, Nat.mul_left_comm x]
  rw [e] at this
  exact this
theorem PInv.carry {n k c T z : Nat} {t : List Nat} (h : PInv n k c T t) (hz : t[k]? = some z) : PInv n (k + 1) ((z + c) / 65536) T (t.set k ((z + c) % 65536)) := by
  have hc := h.car
  have hzl := ok_get h.ok hz
  have := h.put hz (r := (z + c) % 65536) (c' := (z + c) / 65536) (d := 0) (by omega) (by omega) (by omega)
  simpa using this
theorem PInv.room {n k c T L : Nat} {t : List Nat} (h : PInv n k c T t) (hT : T < 65536 ^ L) (hc : 0 < c) : k < L := by
  rcases Nat.lt_or_ge k L with h1 | h1
  · exact h1
  · exfalso
    have h2 : 65536 ^ L ≤ 65536 ^ k := Nat.pow_le_pow_right (by omega) h1
    have h3 : 65536 ^ k * 1 ≤ 65536 ^ k * c := Nat.mul_le_mul_left _ hc
    have := h.val
    omega
theorem mul_take {a b : List Nat} {i x : Nat} (hx : a[i]? = some x) : V16 (a.take i) * V16 b + 65536 ^ i * (x * V16 b) = V16 (a.take (i + 1)) * V16 b := by
  show _ = valB 65536 (a.take (i + 1)) * V16 b
  rw [valB_takeq 65536 hx, Nat.add_mul, Nat.mul_assoc]; rfl
theorem mul_bound {a b : List Nat} (ha : okB 65536 a) (hb : okB 65536 b) (i : Nat) (hi : i < a.length) : V16 (a.take (i + 1)) * V16 b < 65536 ^ (i + 1 + b.length) := by
  have h1 := valB_lt (B := 65536) (by omega) (okB_take ha (i + 1))
  have h2 := valB_lt (B := 65536) (by omega) hb
  rw [List.length_take, Nat.min_eq_left (by omega)] at h1
  rw [Nat.pow_add]
  exact Nat.mul_lt_mul'' h1 h2

def MulRefRel (B : Nat) (w3 : World) (a b : List Nat) (n : Nat) (p : Option Addr) (v8 : Value) (wr : World) : Prop :=
  ∃ (i : Nat) (t : List Nat), i ≤ a.length ∧ v8 = .int .i64 (i : Int) ∧ PInv n 0 0 (V16 (a.take i) * V16 b) t ∧ NatO B wr p n t ∧ Below B w3 wr
def MulRefRel2 (B : Nat) (w3 : World) (b : List Nat) (n i x S : Nat) (p : Option Addr) (v9 v10 : Value) (wr : World) : Prop :=
  ∃ (j c : Nat) (t : List Nat), j ≤ b.length ∧ v9 = .int .u32 (c : Int) ∧ v10 = .int .i64 (j : Int) ∧ PInv n (i + j) c (S + 65536 ^ i * (x * V16 (b.take j))) t ∧ NatO B wr p n t ∧ Below B w3 wr
def MulRefRel3 (B : Nat) (w3 : World) (n T L : Nat) (p : Option Addr) (v9 v13 : Value) (wr : World) : Prop :=
  ∃ (k c : Nat) (t : List Nat), k ≤ L ∧ v9 = .int .u32 (c : Int) ∧ v13 = .int .i64 (k : Int) ∧ PInv n k c T t ∧ NatO B wr p n t ∧ Below B w3 wr

set_option maxRecDepth 100000 in
set_option maxHeartbeats 4000000 in
theorem mul_ref (p q : Option Addr) (c d : Nat) (l m : List Nat) (w : World) (h : NatV w.heap.size w p c l) (k : NatV w.heap.size w q d m) (hl : l.length ≤ 1000000) (hm : m.length ≤ 1000000) :
    Calls Tryd.prog 54 #[.slice p l.length c, .slice q m.length d] w (NatPost w (V32 l * V32 m)) := by
  have H := Lib.hid (And.intro h k)
  have HT := Lib.hid (half_any p c l w h (by omega))
  have HM := Lib.hid hm
  have hal := half_len h.ok
  have hbl := half_len k.ok
  obtain ⟨A, hA⟩ : ∃ A, V32 l = A := ⟨_, rfl⟩
  obtain ⟨B, hB⟩ : ∃ B, V32 m = B := ⟨_, rfl⟩
  have HBB := Lib.hid hB
  rw [hA] at HT hal ⊢
  rw [hB] at hbl ⊢
  have hal2 : (D16 A).length ≤ 2000000 := by omega
  have hbl2 : (D16 B).length ≤ 2000000 := by omega
  clear h k hm hal hbl hl
  go_enter Tryd.func54, Tryd.ntmps54
  go_wp2_with fail
  refine HT.out.mono ?_
  rintro e w1 ⟨p1, c1, rfl, ho1, hb1⟩
  have HT2 := half_any q d m w1 (H.out.2.next hb1) (by have := HM.out; omega)
  rw [HBB.out] at HT2
  have HO := Lib.hid (And.intro ho1 hb1)
  clear ho1 hb1 hA hB
  go_wp2_with fail
  refine HT2.mono ?_
  rintro e w3 ⟨p2, c2, rfl, ho2, hb2⟩
  have hva : V16 (D16 A) = A := V16_D16 _
  have hvb : V16 (D16 B) = B := V16_D16 _
  have HV := Lib.hid (And.intro (HO.out.1.next hb2).toV (And.intro ho2.toV (And.intro (D16_ok A) (And.intro (D16_ok B) (And.intro hva (And.intro hvb (HO.out.2.trans (hb2.mono HO.out.2.size))))))))
  clear HT2 ho2 hb2 hva hvb
  obtain ⟨a, ha⟩ : ∃ a, D16 A = a := ⟨_, rfl⟩
  obtain ⟨b, hb⟩ : ∃ b, D16 B = b := ⟨_, rfl⟩
  rw [ha] at HV hal2 ⊢
  rw [hb] at HV hbl2 ⊢
  clear ha hb
  obtain ⟨n, hn⟩ : ∃ n, n = a.length + b.length + 1 := ⟨_, rfl⟩
  have hmk := make32u n (by omega) w3
  have hn2 : (a.length : Int) + (b.length : Int) + 1 = (n : Int) := by omega
  have HN := Lib.hid hn
  have hnb : n ≤ 4194305 := by omega
  clear hn
  go_wp2_with fail
  have hm0 := NatO.made w3 n (by omega)
  have hB3m : Below w3.heap.size w3 (w3.alloc (.cells (madeCells #[.int .u32 0] n) 83)) := (Below.refl w3.heap.size w3).alloc (Nat.le_refl _) _
  obtain ⟨w4, hw4⟩ : ∃ w4, w4 = w3.alloc (.cells (madeCells #[.int .u32 0] n) 83) := ⟨_, rfl⟩
  rw [← hw4] at hm0 hB3m ⊢
  have HM4 := Lib.hid (And.intro hm0 hB3m)
  have HN2 := Lib.hid hn2
  clear hm0 hB3m hw4 hmk hn2
  go_loopw [8] (fun v8 wr => MulRefRel w3.heap.size w3 a b n (some ⟨w3.heap.size, 0, none⟩) v8 wr) (fun v _ => a.length - (intOf v).toNat)
  case atStart => exact ⟨0, List.replicate n 0, Nat.zero_le _, rfl, by have := PInv.start n 0; simpa [V16, valB] using this, HM4.out.1, HM4.out.2⟩
  case round =>
    obtain ⟨i, t0, hi, rfl, hP0, ho0, hbx0⟩ := hrel
    have hwB : w3.heap.size ≤ wr.heap.size := hbx0.size
    have HP := Lib.hid (And.intro hP0 (And.intro ho0 hbx0))
    obtain ⟨wo, rfl⟩ : ∃ wo : World, wo = wr := ⟨_, rfl⟩
    by_cases hlt : i < a.length
    · obtain ⟨x, hx⟩ := some_get hlt
      have hxl : x < 65536 := ok_get HV.out.2.2.1 hx
      have hmt := mul_take (b := b) hx
      have hbd := mul_bound HV.out.2.2.1 HV.out.2.2.2.1 i hlt
      obtain ⟨S, hS⟩ : ∃ S, V16 (a.take i) * V16 b = S := ⟨_, rfl⟩
      rw [hS] at HP hmt
      have HX := Lib.hid (And.intro hx (And.intro hmt hbd))
      clear hx hmt hbd hP0 ho0 hbx0 hS
      go_wp2_with fail
      go_loopw [9, 10] (fun v9 v10 wr => MulRefRel2 w3.heap.size w3 b n i x S (some ⟨w3.heap.size, 0, none⟩) v9 v10 wr) (fun _ v _ => b.length - (intOf v).toNat)
      case atStart => exact ⟨0, 0, t0, Nat.zero_le _, rfl, rfl, by have := HP.out.1.at (k' := i + 0); simpa [V16, valB] using this, HP.out.2.1, HP.out.2.2⟩
      case round =>
        obtain ⟨j, c, t, hj, rfl, rfl, hP, ho, hbx⟩ := hrel
        have hcl : c < 65536 := hP.car
        have hn0 : n = a.length + b.length + 1 := HN.out
        have htl : t.length = n := hP.len
        by_cases hjl : j < b.length
        · obtain ⟨y, hy⟩ := some_get hjl
          obtain ⟨ba, off, rfl, hba, hca⟩ := (HV.out.1.below hbx).cell (List.length_pos_iff.1 (by omega))
          have hcx := hca i x HX.out.1
          obtain ⟨bb, off', rfl, hbb, hcb⟩ := (HV.out.2.1.below hbx).cell (List.length_pos_iff.1 (by omega))
          have hcy := hcb j y hy
          have hyl : y < 65536 := ok_get HV.out.2.2.2.1 hy
          obtain ⟨g, hg, hgb, hgl, hcells, hfrz⟩ := ho.shape (by omega)
          obtain rfl : w3.heap.size = g := by simpa using hg
          obtain ⟨z, hz⟩ := some_get (l := t) (k := i + j) (by omega)
          have hcz := hcells (i + j) z hz
          have hfz := hfrz (i + j)
          have hzl : z < 65536 := ok_get hP.ok hz
          have hst := PInv.mul hP hxl HV.out.2.2.2.1 hy hz
          obtain ⟨hm1, hm2, hm3⟩ := mul_arith hxl hyl hcl hzl
          obtain ⟨m, hm⟩ : ∃ m, x * y = m := ⟨_, rfl⟩
          have hmi : (x : Int) * (y : Int) = (m : Int) := by rw [← hm, Int.natCast_mul]
          rw [hm] at hst hm1 hm2
          have hijn : i + j < n := by omega
          have hos := fun nq => NatO.store (ho.next (below_drewN (Below.refl _ _) nq)) (i + j) ((z + (m + c) % 65536) % 65536) (by omega)
          have HS := Lib.hid (And.intro hst (And.intro hos (And.intro hbx htl)))
          clear hst hos hbx hn0 hcb hca hcells hfrz hy hz hP ho hg htl hm hm3
          go_wp2_with fail
          go_quiet (fail)
          go_wp2_with fail
          go_roundw
          case rel =>
            refine ⟨j + 1, (m + c) / 65536 + (z + (m + c) % 65536) / 65536, t.set (i + j) ((z + (m + c) % 65536) % 65536), by omega, ?_, by go_num, HS.out.1, ?_, ?_⟩
            · go_num
            · rw [show ((z : Int) + ((m : Int) + (c : Int))) % 65536 = (((z + (m + c) % 65536) % 65536 : Nat) : Int) by omega]
              exact HS.out.2.1 _
            · exact (below_drewN HS.out.2.2.1 _).setCell (Nat.le_refl _) _
          case measure => simp [intOf]; omega
        · obtain rfl : j = b.length := by omega
          obtain ⟨T, hT⟩ : ∃ T, S + 65536 ^ i * (x * V16 b) = T := ⟨_, rfl⟩
          rw [List.take_of_length_le (Nat.le_refl _), hT] at hP
          have hTT : T = V16 (a.take (i + 1)) * V16 b := by rw [← hT]; exact HX.out.2.1
          have hTb : T < 65536 ^ (i + 1 + b.length) := by rw [hTT]; exact HX.out.2.2
          have HQ := Lib.hid (And.intro hP (And.intro ho (And.intro hbx (And.intro hTT hTb))))
          have HN0 := Lib.hid hn0
          clear hP ho hbx htl hT hTT hTb hn0
          go_wp2_with fail
          go_loopw [9, 13] (fun v9 v13 wr => MulRefRel3 w3.heap.size w3 n T (i + 1 + b.length) (some ⟨w3.heap.size, 0, none⟩) v9 v13 wr) (fun _ v _ => i + 1 + b.length - (intOf v).toNat)
          case atStart => exact ⟨i + b.length, c, t, by omega, rfl, by go_num, HQ.out.1, HQ.out.2.1, HQ.out.2.2.1⟩
          case round =>
            obtain ⟨k, c', t', hk, rfl, rfl, hP, ho, hbx⟩ := hrel
            have hcl' : c' < 65536 := hP.car
            have hn0 : n = a.length + b.length + 1 := HN0.out
            have htl : t'.length = n := hP.len
            by_cases hc0 : 0 < c'
            · have hkL := hP.room HQ.out.2.2.2.2 hc0
              obtain ⟨g, hg, hgb, hgl, hcells, hfrz⟩ := ho.shape (by omega)
              obtain rfl : w3.heap.size = g := by simpa using hg
              obtain ⟨z, hz⟩ := some_get (l := t') (k := k) (by omega)
              have hcz := hcells k z hz
              have hfz := hfrz k
              have hzl : z < 65536 := ok_get hP.ok hz
              have hst := hP.carry hz
              have hkn : k < n := by omega
              have hos := NatO.store ho k ((z + c') % 65536) (by omega)
              have HS := Lib.hid (And.intro hst (And.intro hos hbx))
              clear hst hos hbx hn0 hcells hfrz hz hP ho hg htl
              go_wp2_with fail
              go_roundw
              case rel =>
                refine ⟨k + 1, (z + c') / 65536, t'.set k ((z + c') % 65536), by omega, ?_, by go_num, HS.out.1, ?_, HS.out.2.2.setCell (Nat.le_refl _) _⟩
                · go_num
                · exact HS.out.2.1
              case measure => simp [intOf]; omega
            · obtain rfl : c' = 0 := by omega
              have HR := Lib.hid (And.intro (hP.at (k' := 0)) (And.intro ho hbx))
              clear hP ho hbx htl hn0
              go_wp2_with fail
              go_roundw
              case rel =>
                refine ⟨i + 1, t', by omega, by go_num, ?_, HR.out.2.1, HR.out.2.2⟩
                rw [← HQ.out.2.2.2.1]; exact HR.out.1
              case measure => simp [intOf]; omega
    · obtain rfl : i = a.length := by omega
      have htl := hP0.len
      have hd : V16 t0 = A * B := by
        have h1 := HP.out.1.val
        rw [List.take_of_length_le (Nat.le_refl _), HV.out.2.2.2.2.1, HV.out.2.2.2.2.2.1] at h1
        simpa using h1
      have hn0 : n = a.length + b.length + 1 := HN.out
      have hw := whole_any (some ⟨w3.heap.size, 0, none⟩) n t0 wo ho0.toV hP0.ok (by omega)
      clear hn0
      rw [hd, htl] at hw
      have hw3 := HV.out.2.2.2.2.2.2.size
      have HE := Lib.hid (HV.out.2.2.2.2.2.2.trans (hbx0.mono hw3))
      clear hP0 ho0 hbx0 htl hd hlt
      go_wp2_with fail
      refine hw.mono ?_
      rintro e w5 ⟨p5, c5, rfl, ho5, hb5⟩
      have hs5 := hb5.size
      have HW := Lib.hid (And.intro ho5 (HE.out.trans (hb5.mono (by omega))))
      clear hw ho5 hb5
      go_wp2_with fail
      go_ret
      exact ⟨p5, c5, rfl, HW.out.1.base (by omega), HW.out.2⟩
end Go.Proofs.YthafjbegkifekaaDoor
