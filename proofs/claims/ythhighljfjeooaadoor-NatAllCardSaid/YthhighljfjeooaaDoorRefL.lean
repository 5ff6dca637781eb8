/- The document's own package of numbers by its contracts, twelfth part: Parse where it reads. -/
import Derived.Test.YthhighljfjeooaaDoorRefK
namespace Go.Proofs.YthhighljfjeooaaDoor
open Go.RowKit NatM

theorem numOf_len {l : List Nat} (h : ∀ b ∈ l, isDig b = true) : (D32 (numOf l)).length ≤ l.length := by
  refine D32_len (Nat.lt_of_lt_of_le (numOf_lt l h) ?_)
  exact Nat.pow_le_pow_left (by omega) _
def ParseRefRel (B : Nat) (w0 : World) (s : ByteArray) (v5 v6 : Value) (wr : World) : Prop :=
  ∃ (k : Nat) (p : Option Addr) (cap : Nat), k ≤ s.size ∧ v6 = .int .i64 (k : Int) ∧ v5 = .slice p (D32 (numOf ((bsOf s).take k))).length cap ∧ NatO B wr p cap (D32 (numOf ((bsOf s).take k))) ∧ Below B w0 wr
theorem NatV.cellOne {w : World} {g x : Nat} (hg : g < w.heap.size) (hx : x < 4294967296) (h : w.cell? ⟨g, 0, none⟩ = some (.int .u32 (x : Int))) : NatV w.heap.size w (some ⟨g, 0, none⟩) 1 [x] :=
  ⟨okB_one hx, Nat.le_refl _, by decide, (fun e => by cases e), fun _ => ⟨g, 0, rfl, hg, fun j y hy => by
    match j, hy with
    | 0, hy => simp at hy; subst hy; exact h⟩⟩

theorem parse_fin {B : Nat} {w0 wr wy w4 : World} {p2 : Option Addr} {c2 : Nat} {t : List Nat} (hb : Below B w0 wr) (hB : B ≤ wr.heap.size) (h1 : Below wr.heap.size wr wy) (ho2 : NatO wy.heap.size w4 p2 c2 t) (hb2 : Below wy.heap.size wy w4) : NatO B w4 p2 c2 t ∧ Below B w0 w4 :=
  ⟨ho2.base (Nat.le_trans hB h1.size), hb.trans ((h1.trans (hb2.mono h1.size)).mono hB)⟩
theorem parse_mid {wr wx w3 : World} (h1 : Below wr.heap.size wr wx) (hb1 : Below wx.heap.size wx w3) : Below wr.heap.size wr w3 := h1.trans (hb1.mono h1.size)
set_option maxRecDepth 100000 in
set_option maxHeartbeats 4000000 in
theorem parse_ref_ok (s : ByteArray) (w : World) (hs : s.size ≤ 1200) (h0 : 0 < s.size) (hd : ∀ b ∈ bsOf s, isDig b = true) (hz : ¬ (1 < s.size ∧ (bsOf s)[0]? = some 48)) :
    Calls Tryd.prog 61 #[.string s] w (RefOk2 w (numOf (bsOf s))) := by
  have HD := Lib.hid (And.intro hd hz)
  have hse : s.toList.isEmpty = false := str_ne_nil h0
  clear hd hz
  go_enter Tryd.func61, Tryd.ntmps61
  go_wp2_with fail
  obtain ⟨w0, hw0⟩ : ∃ w0, w0 = w.alloc (.cells #[.int .i64 0, .slice none 0 0, .slice none 0 0] 72) := ⟨_, rfl⟩
  have hb0 : Below w.heap.size w w0 := by rw [hw0]; exact (Below.refl _ _).alloc (Nat.le_refl _) _
  have hs0 : w.heap.size < w0.heap.size := by rw [hw0]; simp
  have hE0 : Err3 w0 w.heap.size (.int .i64 0) (.slice none 0 0) (.slice none 0 0) := by rw [hw0]; exact Err3.new w
  rw [← hw0]
  have HE := Lib.hid (And.intro hE0 hb0)
  clear hw0 hE0 hb0
  go_loop [4] (fun v => ∃ k : Nat, k ≤ s.size ∧ v = .int .i64 (k : Int)) (fun v => s.size - (intOf v).toNat)
  case atStart => exact ⟨0, Nat.zero_le _, rfl⟩
  case round =>
    obtain ⟨k, hk, rfl⟩ := hrel
    by_cases hlt : k < s.size
    · have hb := isDig_iff.1 (HD.out.1 _ (List.mem_of_getElem? (bsOf_get hlt)))
      have h1 : ¬ ((s[k].toNat : Int) < 48) := by omega
      have h2 : ¬ ((57 : Int) < (s[k].toNat : Int)) := by omega
      clear hb
      go_wp2_with fail
      go_round
      case rel => exact ⟨k + 1, by omega, by go_num⟩
      case measure => simp [intOf]; omega
    · obtain rfl : k = s.size := by omega
      have hz1 : (s.size = 1) ∨ ∃ h : 1 < s.size, (((s[0]'(by omega)).toNat : Int) == 48) = false := by
        rcases Nat.lt_or_ge 1 s.size with h1 | h1
        · right
          refine ⟨h1, ?_⟩
          rw [beq_eq_false_iff_ne]
          intro e
          apply HD.out.2
          refine ⟨h1, ?_⟩
          rw [bsOf_get (by omega)]
          congr 1
          omega
        · left; omega
      clear hlt
      rcases hz1 with h1 | ⟨h1, hz2⟩
      all_goals
        have H1 := Lib.hid h1
        first
          | (have h1' : decide ((1 : Int) < (s.size : Int)) = false := by rw [decide_eq_false_iff_not]; omega
             have h1'' : decide (1 < s.size) = false := by rw [decide_eq_false_iff_not]; omega
             clear h1)
          | skip
        go_wp2_with fail
        go_loopw [5, 6] (fun v5 v6 wr => ParseRefRel w0.heap.size w0 s v5 v6 wr) (fun _ v _ => s.size - (intOf v).toNat)
        case atStart =>
          have hn0 : D32 (numOf ((bsOf s).take 0)) = [] := D32_nil.2 rfl
          exact ⟨0, none, 0, Nat.zero_le _, rfl, by rw [hn0]; rfl, by rw [hn0]; exact NatO.nothing _ _, Below.refl _ _⟩
        case round =>
          obtain ⟨k, p, cap, hk, rfl, rfl, ho, hb⟩ := hrel
          have hwB : w0.heap.size ≤ wr.heap.size := hb.size
          by_cases hlt : k < s.size
          · have hbd := isDig_iff.1 (HD.out.1 _ (List.mem_of_getElem? (bsOf_get hlt)))
            obtain ⟨d, hd⟩ : ∃ d, s[k].toNat = d + 48 := ⟨s[k].toNat - 48, by omega⟩
            have hd9 : d ≤ 9 := by omega
            have hst := numOf_take (bsOf_get hlt)
            have e48 : s[k].toNat - 48 = d := by omega
            rw [e48] at hst
            have hlen := numOf_len (l := (bsOf s).take k) (fun b hb => HD.out.1 b (List.mem_of_mem_take hb))
            rw [List.length_take, bsOf_length] at hlen
            have hlen2 : (D32 (numOf ((bsOf s).take k))).length ≤ 1200 := by omega
            obtain ⟨N, hN⟩ : ∃ N, numOf ((bsOf s).take k) = N := ⟨_, rfl⟩
            rw [hN] at ho hst hlen2 ⊢
            have HS := Lib.hid hst
            have hl10 : (D32 (N * 10)).length ≤ 1201 := by
              refine Nat.le_trans (D32_len (k := (D32 N).length + 1) ?_) (by omega)
              have h1 := V32_lt (D32_ok N)
              rw [V32_D32] at h1
              rw [Nat.pow_succ]
              generalize 4294967296 ^ (D32 N).length = Z at h1 ⊢
              omega
            have hmul : ∀ (wx : World) (g : Nat), Below wr.heap.size wr wx → g < wx.heap.size → wx.cell? ⟨g, 0, none⟩ = some (.int .u32 10) → Calls Tryd.prog 56 #[.slice p (D32 N).length cap, .slice (some ⟨g, 0, none⟩) 1 1] wx (NatPost wx (N * 10)) := fun wx g hbx hg hc => by
              have := mul_ref p (some ⟨g, 0, none⟩) cap 1 (D32 N) [10] wx (ho.next hbx).toV (NatV.cellOne hg (by omega) hc) (by omega) (by simp)
              rwa [V32_D32, V32_one] at this
            have hadd : ∀ (wy : World) (g : Nat) (p1 : Option Addr) (c1 : Nat), NatV wy.heap.size wy p1 c1 (D32 (N * 10)) → g < wy.heap.size → wy.cell? ⟨g, 0, none⟩ = some (.int .u32 (d : Int)) → Calls Tryd.prog 52 #[.slice p1 (D32 (N * 10)).length c1, .slice (some ⟨g, 0, none⟩) 1 1] wy (NatPost wy (N * 10 + d)) := fun wy g p1 c1 hv hg hc => by
              have := add_ref p1 (some ⟨g, 0, none⟩) c1 1 (D32 (N * 10)) [d] wy hv (NatV.cellOne hg (by omega) hc) (by omega) (by simp)
              rwa [V32_D32, V32_one] at this
            have hw8 : IntKind.u8.wrap (d : Int) = (d : Int) := by simp [IntKind.wrap, IntKind.bits, IntKind.signed]; omega
            have hw32 : IntKind.u32.wrap (d : Int) = (d : Int) := by rw [IntKind.wrap_u32]; omega
            have HB := Lib.hid hb
            clear hst hbd e48 hlen ho hb hN hl10 hlen2
            go_wp2_with fail
            go_region_with (first
              | (go_at_call 56; refine (hmul _ _ (by (repeat' (first | exact Below.refl _ _ | refine Below.drew ?_ | refine below_drewN ?_ _ | refine Below.alloc ?_ ?_ _ | (simp; done) | (simp; omega)))) (by first | omega | (simp; done) | (simp; omega)) (by (first | (simp [go_sem]; done) | (go_simp; done) | assumption))).mono ?_; rintro e w3 ⟨p1, c1, rfl, ho1, hb1⟩; have hs1 := hb1.size; try simp at hs1; have hB1 : Below wr.heap.size wr w3 := parse_mid (by (repeat' (first | exact Below.refl _ _ | refine Below.drew ?_ | refine below_drewN ?_ _ | refine Below.alloc ?_ ?_ _ | (simp; done) | (simp; omega)))) hb1)
              | (go_at_call 52; refine (hadd _ _ _ _ (by first | exact ho1.toV | exact (ho1.next (by (repeat' (first | exact Below.refl _ _ | refine Below.drew ?_ | refine below_drewN ?_ _ | refine Below.alloc ?_ ?_ _ | (simp; done) | (simp; omega))))).toV) (by first | omega | (simp; done) | (simp; omega)) (by first | (first | (simp [go_sem]; done) | (go_simp; done) | assumption) | exact (hb1.cell (p := ⟨_, 0, none⟩) (by first | omega | (simp; done) | (simp; omega))).trans (by (first | (simp [go_sem]; done) | (go_simp; done) | assumption)))).mono ?_; rintro e w4 ⟨p2, c2, rfl, ho2, hb2⟩; have hF := parse_fin HB.out hwB (by (repeat' (first | exact hB1 | refine Below.drew ?_ | refine below_drewN ?_ _ | refine Below.alloc ?_ ?_ _ | exact hB1.size | (simp; done) | (have := hB1.size; simp; omega)))) ho2 hb2))
            all_goals
              clear hmul hadd
              go_wp2_with fail
              go_roundw
              case rel => exact ⟨k + 1, p2, c2, by omega, by go_num, by rw [HS.out], by rw [HS.out]; exact hF.1, hF.2⟩
              case measure => simp [intOf]; omega
          · obtain rfl : k = s.size := by omega
            have he : numOf ((bsOf s).take s.size) = numOf (bsOf s) := by rw [List.take_of_length_le (by rw [bsOf_length]; exact Nat.le_refl _)]
            rw [he] at ho ⊢
            obtain ⟨⟨hf0, hf1, hf2⟩, hk0, hk1, hk2⟩ := (HE.out.1.next hb).facts
            have HW := Lib.hid (And.intro ho (HE.out.2.trans (hb.mono (by omega))))
            clear ho hb he
            go_wp2_with fail
            refine bodyPost_ret (v := .tuple #[.slice p (D32 (numOf (bsOf s))).length cap, noErr]) (by simp [results, Tryd.results61, go_sem, hk0, hk1, hk2, noErr]) rfl ⟨_, _, rfl, ?_, ?_⟩
            · exact (HW.out.1.put3 (by omega) _ _ _).base (by omega)
            · exact put3_below HW.out.2 (Nat.le_refl _) _ _ _
/-- Parse where it reads -/
theorem parse_ref_num (s : ByteArray) (w : World) (h : parseBad (bsOf s) = none) :
    Calls Tryd.prog 61 #[.string s] w (RefOk2 w (numOf (bsOf s))) := by
  unfold parseBad at h
  rw [bsOf_length] at h
  split at h
  · cases h
  · split at h
    · cases h
    · split at h
      · cases h
      · rename_i hj
        split at h
        · cases h
        · rename_i hz
          exact parse_ref_ok s w (by omega) (by omega) (fun b hb => by simpa using findIdx_none hj b hb) hz
end Go.Proofs.YthhighljfjeooaaDoor
