/- Lists of ints: slices.Repeat. -/
import Derived.Test.YthhighljfjeooaaDoorIntD
import Derived.Test.YthhighljfjeooaaDoorWdC
import Derived.Test.YthhighljfjeooaaDoorShelf
import Derived.Laws.CopyOwn
import Derived.Deep.RegionLaw
namespace Go.Proofs.YthhighljfjeooaaDoor
open Go.RowKit WordM

theorem sizeI : (Tryd.prog.info? 3).map (·.size) = some 1 := by kernel_rfl
theorem mulU (L m T : Nat) (hT : L * m = T) (hT2 : T ≤ 4611686018427387904) (hL : L < 18446744073709551616) (hm : m < 18446744073709551616) (w : World) :
    Calls Tryd.prog 95 #[.int .u64 (L : Int), .int .u64 (m : Int)] w fun e w' => e = .returned (.tuple #[.int .u64 0, .int .u64 (T : Int)]) ∧ w = w' := by
  refine (Tryd.bits_Mul L m hL hm w).mono fun e w' ⟨h1, h2⟩ => ⟨?_, h2.symm⟩
  rw [h1, hT, Nat.div_eq_of_lt (by omega), Nat.mod_eq_of_lt (by omega)]
  rfl
theorem cI_one {l : List Int} {v : Value} (h : v ∈ cI l) : v.oneCell' = true := by
  unfold cI at h
  obtain ⟨x, _, rfl⟩ := List.mem_map.1 h
  rfl
/-- the first k of them, the rest 0 -/
def fillW (X : List Int) (k : Nat) : List Int := X.take k ++ List.replicate (X.length - k) 0
theorem fillW_length {X : List Int} {k : Nat} (hk : k ≤ X.length) : (fillW X k).length = X.length := by simp [fillW]; omega
theorem fillW_zero (X : List Int) : fillW X 0 = List.replicate X.length 0 := by simp [fillW]
theorem fillW_all (X : List Int) : fillW X X.length = X := by simp [fillW]
theorem splice_fill {X cs : List Int} {k : Nat} (hk : k + cs.length ≤ X.length) (hcs : ∀ j, j < cs.length → cs[j]? = X[k + j]?) : splice (cI (fillW X k)) k (cI cs) = cI (fillW X (k + cs.length)) := by
  have e : cs = (X.drop k).take cs.length := by
    apply List.ext_getElem?
    intro j
    rw [List.getElem?_take, List.getElem?_drop]
    by_cases hj : j < cs.length
    · rw [if_pos hj, hcs j hj]
    · rw [if_neg hj, List.getElem?_eq_none (by omega)]
  have e2 : X.take (k + cs.length) = X.take k ++ cs := by
    rw [List.take_add]
    congr 1
    exact e.symm
  unfold splice fillW
  rw [e2]
  simp only [cI_app]
  have hl : (cI (X.take k)).length = k := by rw [cI_length, List.length_take]; omega
  rw [List.take_append_of_le_length (by rw [hl]; exact Nat.le_refl _), List.take_of_length_le (by rw [hl]; exact Nat.le_refl _), cI_length, List.drop_append, hl]
  have h0 : (cI (X.take k)).drop (k + cs.length) = [] := List.drop_eq_nil_of_le (by omega)
  rw [h0, List.nil_append, List.append_assoc]
  congr 2
  unfold cI
  rw [← List.map_drop, List.drop_replicate]
  congr 2
  omega
theorem times_shift {l : List Int} {m k j : Nat} (hd : l.length ∣ k) (hj : k + j < m * l.length) : (timesW l m)[j]? = (timesW l m)[k + j]? := by
  rw [timesW_get l m _ hj, timesW_get l m _ (by omega)]
  congr 1
  obtain ⟨q, rfl⟩ := hd
  unfold F
  rw [Nat.mul_add_mod]
theorem times_front {l : List Int} {m j : Nat} (hj : j < l.length) (hm : 1 ≤ m) : l[j]? = (timesW l m)[0 + j]? := by
  rw [Nat.zero_add, timesW_get l m _ (by have := Nat.mul_le_mul_right l.length hm; omega), F_get hj]
/-- block g is a whole list of ints -/
def BlockI (w : World) (g : Nat) (l : List Int) : Prop := w.heap[g]? = some (.cells (cI l).toArray 3 (0, 0))
theorem BlockI.eq {w : World} {g : Nat} {l : List Int} (h : BlockI w g l) : w.heap[g]? = some (.cells (cI l).toArray 3 (0, 0)) := h
theorem BlockI.cell {w : World} {g : Nat} {l : List Int} (h : BlockI w g l) {j : Nat} {x : Int} (hx : l[j]? = some x) : w.cell? ⟨g, j, none⟩ = some (.int .i64 x) := by
  rw [cell_of_row w g j _ _ _ h, List.getElem?_toArray]
  exact cI_get hx
def RepRel (w : World) (l X : List Int) (g : Nat) (v : Value) (wr : World) : Prop :=
  ∃ k : Nat, k ≤ X.length ∧ (0 < X.length → 0 < k) ∧ l.length ∣ k ∧ v = .int .i64 (k : Int) ∧ BlockI wr g (fillW X k) ∧ Below w.heap.size w wr

set_option maxRecDepth 100000 in
set_option maxHeartbeats 4000000 in
theorem repeatI (p : Option Addr) (n c m : Nat) (l : List Int) (w : World) (hn : n = l.length) (h : IntV w.heap.size w p c l) (hm : m ≤ 9223372036854775807) (hT : n * m ≤ 1000000) :
    Calls Tryd.prog 79 #[.slice p n c, .int .i64 (m : Int)] w (IntPost w (timesW l m)) := by
  have hle := h.le
  have hcap := h.cap
  unfold maxLen at hcap
  have hnc : n ≤ c := by omega
  obtain ⟨T, hTe⟩ : ∃ T, n * m = T := ⟨_, rfl⟩
  have hTl : T ≤ 1000000 := by omega
  have hX : (timesW l m).length = T := by rw [timesW_length, ← hn, Nat.mul_comm]; exact hTe
  have hmul := mulU n m T hTe (by omega) (by omega) (by omega) w
  have H := Lib.hid (And.intro h (And.intro hn (And.intro hTe hX)))
  have hmk := makeI T (by omega) w
  have HM := Lib.hid hmul
  have hd1 : decide ((m : Int) < 0) = false := by rw [decide_eq_false_iff_not]; omega
  have hd2 : decide ((9223372036854775807 : Int) < (T : Int)) = false := by rw [decide_eq_false_iff_not]; omega
  clear h hn hT hTe hX hmul hle
  go_enter Tryd.func79, Tryd.ntmps79
  go_wp2_with fail
  refine HM.out.mono ?_
  rintro e w' ⟨rfl, rfl⟩
  have hB1 : Below w.heap.size w (w.alloc (.cells (madeCells #[.int .i64 0] T) 3)) := (Below.refl _ _).alloc (Nat.le_refl _) _
  have HB1 := Lib.hid hB1
  have hh : BlockI (w.alloc (.cells (madeCells #[.int .i64 0] T) 3)) w.heap.size (fillW (timesW l m) 0) := by
    unfold BlockI
    rw [heap_newN, fillW_zero, H.out.2.2.2]
    congr 2
    rw [← Array.toList_inj, madeI_list, List.toList_toArray]
    unfold cI
    rw [List.map_replicate]
  have HHH := Lib.hid hh
  obtain ⟨k0, hk0⟩ : ∃ k0, k0 = Nat.min n T := ⟨_, rfl⟩
  have hk0c : k0 = 0 ∧ T = 0 ∨ k0 = n ∧ 1 ≤ m := by
    rcases Nat.eq_zero_or_pos m with h0 | h0
    · left
      have : T = 0 := by rw [← H.out.2.2.1, h0, Nat.mul_zero]
      exact ⟨by rw [hk0, this]; exact Nat.min_eq_right (Nat.zero_le _), this⟩
    · right
      refine ⟨?_, h0⟩
      have : n * 1 ≤ n * m := Nat.mul_le_mul_left _ h0
      rw [hk0]
      exact Nat.min_eq_left (by have := H.out.2.2.1; omega)
  have HK := Lib.hid (And.intro hk0 hk0c)
  have hk0n : k0 ≤ n := by rw [hk0]; exact Nat.min_le_left _ _
  have hk0T : k0 ≤ T := by rw [hk0]; exact Nat.min_le_right _ _
  clear hB1 hh hk0 hk0c
  have hh1 : ¬ ((0 : Int) < 0) := by omega
  go_wp2_with (with_reducible refine wpList_copy_splice rfl (.tmp 31) (.tmp 32) 40 40 rfl 3 Tryd.underlying40 sizeI (some ⟨w.heap.size, 0, none⟩) p T T n c rfl rfl w.heap.size 0 (cI (fillW (timesW l m) 0)) 3 (BlockI.eq HHH.out) (cI (l.take k0)) ?k1 ?k2 ?k3 ?k4 w.heap.size w HB1.out (Nat.le_refl _) ?_)
  case k1 => rw [cI_length, List.length_take, ← H.out.2.1, Nat.min_eq_left hk0n]; exact HK.out.1
  case k2 =>
    intro hpos
    rw [cI_length, List.length_take] at hpos
    obtain ⟨b, off, rfl, hb, hc⟩ := H.out.1.cell (by rintro rfl; simp at hpos)
    refine ⟨_, rfl, fun j v hv => ?_⟩
    rw [add_off]
    unfold cI at hv
    rw [List.getElem?_map] at hv
    obtain ⟨x, hx, rfl⟩ := Option.map_eq_some_iff.1 hv
    rw [List.getElem?_take] at hx
    split at hx
    · exact (HB1.out.cell (p := ⟨b, off + j, none⟩) hb).trans (hc j x hx)
    · cases hx
  case k3 => rw [cI_length, cI_length, List.length_take, fillW_length (Nat.zero_le _), H.out.2.2.2]; have := H.out.2.1; omega
  case k4 =>
    intro v hv
    unfold cI at hv
    obtain ⟨x, _, rfl⟩ := List.mem_map.1 hv
    rfl
  intro w1 hw1 hb1
  have hlk : (l.take k0).length = k0 := by rw [List.length_take, ← H.out.2.1]; omega
  have hlk2 : (cI (l.take k0)).length = k0 := by rw [cI_length, hlk]
  have hw2 : BlockI w1 w.heap.size (fillW (timesW l m) k0) := by
    have h := hw1.out
    rw [splice_fill (X := timesW l m) (k := 0) (cs := l.take k0) (by rw [hlk, H.out.2.2.2]; omega) (fun j hj => ?_), hlk, Nat.zero_add] at h
    · exact h
    · rw [hlk] at hj
      rw [List.getElem?_take, if_pos hj]
      rcases HK.out.2 with ⟨h1, _⟩ | ⟨h1, h2⟩
      · omega
      · exact times_front (by have := H.out.2.1; omega) h2
  have HW := Lib.hid (And.intro hw2 hb1)
  clear hw1 hb1 hlk hw2 hmk HB1 HHH
  rw [hlk2]
  clear hlk2
  go_wp2_with fail
  go_loopw [8] (fun v wr => RepRel w l (timesW l m) w.heap.size v wr) (fun v _ => T - (intOf v).toNat)
  case atStart =>
    refine ⟨k0, by rw [H.out.2.2.2]; exact hk0T, ?_, ?_, rfl, HW.out.1, HW.out.2⟩
    · intro hpos
      rw [H.out.2.2.2] at hpos
      rcases HK.out.2 with ⟨h1, h2⟩ | ⟨h1, h2⟩
      · omega
      · rcases Nat.eq_zero_or_pos n with h3 | h3
        · have := H.out.2.2.1; rw [h3, Nat.zero_mul] at this; omega
        · omega
    · rcases HK.out.2 with ⟨h1, h2⟩ | ⟨h1, h2⟩
      · rw [h1]; exact ⟨0, rfl⟩
      · rw [h1, H.out.2.1]; exact Nat.dvd_refl _
  case round =>
    obtain ⟨k, hk, hk0, hd, rfl, hbl, hb⟩ := hrel
    have hkT : k ≤ T := by rw [H.out.2.2.2] at hk; exact hk
    by_cases hlt : k < T
    · have hkp : 0 < k := hk0 (by rw [H.out.2.2.2]; omega)
      have HR := Lib.hid (And.intro hd (And.intro hbl hb))
      have hkX : ∃ kk, kk = Nat.min k (T - k) := ⟨_, rfl⟩
      obtain ⟨kk, hkk⟩ := hkX
      have hkk1 : kk ≤ k := by rw [hkk]; exact Nat.min_le_left _ _
      have hkk2 : k + kk ≤ T := by have : kk ≤ T - k := by rw [hkk]; exact Nat.min_le_right _ _
                                   omega
      have hkk3 : 0 < kk := by rw [hkk]; exact Nat.lt_min.2 ⟨hkp, by omega⟩
      have hkk4 : k + kk = T ∨ kk = k := by
        rcases Nat.le_total k (T - k) with h1 | h1
        · right; rw [hkk]; exact Nat.min_eq_left h1
        · left; have : kk = T - k := by rw [hkk]; exact Nat.min_eq_right h1
          omega
      have hcl : (cI ((timesW l m).take kk)).length = kk := by rw [cI_length, List.length_take, H.out.2.2.2]; omega
      have hcl2 : ((timesW l m).take kk).length = kk := by rw [← cI_length, hcl]
      have hspl : splice (cI (fillW (timesW l m) k)) k (cI ((timesW l m).take kk)) = cI (fillW (timesW l m) (k + kk)) := by
        have := splice_fill (X := timesW l m) (k := k) (cs := (timesW l m).take kk) (by rw [hcl2, H.out.2.2.2]; exact hkk2) (fun j hj => by
          rw [hcl2] at hj
          rw [List.getElem?_take, if_pos hj]
          exact times_shift HR.out.1 (by rw [← timesW_length, H.out.2.2.2]; omega))
        rwa [hcl2] at this
      have hsrc : ∀ j v, (cI ((timesW l m).take kk))[j]? = some v → wr.cell? ⟨w.heap.size, j, none⟩ = some v := fun j v hv => by
        unfold cI at hv
        rw [List.getElem?_map] at hv
        obtain ⟨x, hx, rfl⟩ := Option.map_eq_some_iff.1 hv
        rw [List.getElem?_take] at hx
        split at hx
        · rename_i hj
          refine HR.out.2.1.cell ?_
          unfold fillW
          rw [List.getElem?_append_left (by rw [List.length_take, H.out.2.2.2]; omega), List.getElem?_take, if_pos (by omega)]
          exact hx
        · cases hx
      have hlenf : (cI (fillW (timesW l m) k)).length = T := by rw [cI_length, fillW_length (by rw [H.out.2.2.2]; exact hkT), H.out.2.2.2]
      have HZ := Lib.hid (And.intro hcl (And.intro hspl (And.intro hsrc (And.intro hlenf hkk))))
      have hi0 : (0 : Int) ≤ (k : Int) := by omega
      have hi1 : (k : Int) ≤ (T : Int) := by omega
      have hkT2 : ¬ T = k := by omega
      have hwk : IntKind.i64.wrap ((k : Int) + (kk : Int)) = (k : Int) + (kk : Int) := by rw [IntWalk.i64_in _ (by omega)]
      clear hd hbl hb hk0 hk hcl hcl2 hspl hsrc hlenf hkk
      go_wp2_with fail
      go_region_law ((refine step_copy_splice rfl (.tmp 41) (.tmp 44) 40 40 rfl 3 Tryd.underlying40 sizeI (some ⟨w.heap.size, k, none⟩) (some ⟨w.heap.size, 0, none⟩) (T - k) (T - k) k T (by simp [Act.eval, Act.put]) (by simp [Act.eval, Act.put]) w.heap.size k (cI (fillW (timesW l m) k)) 3 (BlockI.eq HR.out.2.1) (cI ((timesW l m).take kk)) (by rw [HZ.out.1]; exact HZ.out.2.2.2.2) (fun _ => ⟨rfl, _, rfl, fun j v hv => by rw [add_off, Nat.zero_add]; exact HZ.out.2.2.1 j v hv⟩) (by rw [HZ.out.1, HZ.out.2.2.2.1]; exact hkk2) (fun v hv => cI_one hv) w.heap.size w (by repeat' (first | exact HR.out.2.2 | refine Below.drew ?_ | refine below_drewN ?_ _)) (Nat.le_refl _) ?_; intro w2 hw2 hb2))
      all_goals
        have hbk : BlockI w2 w.heap.size (fillW (timesW l m) (k + kk)) := by
          have h := hw2.out
          rw [HZ.out.2.1] at h
          exact h
        have HF := Lib.hid (And.intro hbk hb2)
        clear hw2 hb2 hbk
        rw [HZ.out.1]
        simp only [List.getElem_toArray, List.getElem_cons_succ, List.getElem_cons_zero, hwk]
        go_frame
        go_wp2_with fail
        go_roundw
        case rel =>
          refine ⟨k + kk, by rw [H.out.2.2.2]; exact hkk2, fun _ => by omega, ?_, by go_num, HF.out.1, HF.out.2⟩
          rcases hkk4 with h1 | h1
          · rw [h1, ← H.out.2.2.2, timesW_length]
            exact Nat.dvd_mul_left _ _
          · rw [h1]
            exact Nat.dvd_add HR.out.1 HR.out.1
        case measure => simp [intOf]; omega
    · obtain rfl : k = T := by omega
      have he : fillW (timesW l m) k = timesW l m := by rw [← H.out.2.2.2, fillW_all]
      rw [he] at hbl
      have hO := IntO.of_block (base := w.heap.size) (Nat.le_refl _) (by rw [H.out.2.2.2]; unfold maxLen; omega) hbl
      rw [H.out.2.2.2] at hO
      have HF := Lib.hid (And.intro hO hb)
      clear hd hbl hb hk0 hk he hO
      go_wp2_with fail
      go_ret
      exact ⟨_, _, by rw [H.out.2.2.2]; rfl, HF.out.1, HF.out.2⟩
end Go.Proofs.YthhighljfjeooaaDoor
