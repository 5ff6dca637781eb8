/- Lists of ints: slices.Repeat.
edenraw.Lent, Kept and Copy, by contracts.
The document's own package of words by its contracts: Next.
Package word by its contracts, seventh part: Times.
Package word by its contracts, eighth part: Index, At.
The document's own package of words by its contracts: Index.
Package word by its contracts: Next of the last word of the greatest length.
plays of edenlaw03 over any pair of contracts that tell one answer.
The document's own package of words by its contracts, first part: Back.
Package word by its contracts, third part: Period, Least.
The document's own package of words by its contracts, second part: Cmp, Turn, Least, Period.
plays of edenlaw03, kinds 0 and 7.
Package word by its contracts, ninth part: At.
Package word by its contracts, tenth part: At where it is refused; nat.Pow whatever it is asked. -/
import Derived.Test.YtfgoflaeclfggaaGreatDoorB3
import Derived.Test.YtfgoflaeclfggaaGreatDoorB4
import Derived.Laws.CopyOwn
import Derived.Deep.RegionLaw
import Derived.Laws.AppendOwnNone
import Derived.Test.YtfgoflaeclfggaaGreatDoorB2
import Derived.Deep.RegionHeld3
import Derived.Deep.DrawnRows
import Derived.Test.YtfgoflaeclfggaaGreatDoorB1
import Derived.Outline
import Derived.BigQuiet
section
namespace Go.Proofs.YtfgoflaeclfggaaGreatDoor
open Go.RowKit WordM

theorem sizeI : (Tryz.prog.info? 3).map (·.size) = some 1 := by kernel_rfl
theorem mulU (L m T : Nat) (hT : L * m = T) (hT2 : T ≤ 4611686018427387904) (hL : L < 18446744073709551616) (hm : m < 18446744073709551616) (w : World) :
    Calls Tryz.prog 128 #[.int .u64 (L : Int), .int .u64 (m : Int)] w fun e w' => e = .returned (.tuple #[.int .u64 0, .int .u64 (T : Int)]) ∧ w = w' := by
  refine (Tryz.bits_Mul L m hL hm w).mono fun e w' ⟨h1, h2⟩ => ⟨?_, h2.symm⟩
  rw [h1, hT, Nat.div_eq_of_lt (by omega), Nat.mod_eq_of_lt (by omega)]
  rfl
theorem cI_one {l : List Int} {v : Value} (h : v ∈ cI l) : v.oneCell' = true := by
  unfold cI at h
  obtain ⟨x, _, rfl⟩ := List.mem_map.1 h
  rfl
/-- the first k of them, the rest 0 -/
def fillW (X : List Int) (k : Nat) : List Int := X.take k ++ List.replicate (X.length - k) 0
theorem fillW_length {X : List Int} {k : Nat} (hk : k ≤ X.length) : (fillW X k).length = X.length := by simp [fillW]; omega
theorem fillW_zero (X : List Int) : fillW X 0 = List.replicate X.length 0 := by simp [fillW]
theorem fillW_all (X : List Int) : fillW X X.length = X := by simp [fillW]
theorem splice_fill {X cs : List Int} {k : Nat} (hk : k + cs.length ≤ X.length) (hcs : ∀ j, j < cs.length → cs[j]? = X[k + j]?) : splice (cI (fillW X k)) k (cI cs) = cI (fillW X (k + cs.length)) := by
  have e : cs = (X.drop k).take cs.length := by
    apply List.ext_getElem?
    intro j
    rw [List.getElem?_take, List.getElem?_drop]
    by_cases hj : j < cs.length
    · rw [if_pos hj, hcs j hj]
    · rw [if_neg hj, List.getElem?_eq_none (by omega)]
  have e2 : X.take (k + cs.length) = X.take k ++ cs := by
    rw [List.take_add]
    congr 1
    exact e.symm
  unfold splice fillW
  rw [e2]
  simp only [cI_app]
  have hl : (cI (X.take k)).length = k := by rw [cI_length, List.length_take]; omega
  rw [List.take_append_of_le_length (by rw [hl]; exact Nat.le_refl _), List.take_of_length_le (by rw [hl]; exact Nat.le_refl _), cI_length, List.drop_append, hl]
  have h0 : (cI (X.take k)).drop (k + cs.length) = [] := List.drop_eq_nil_of_le (by omega)
  rw [h0, List.nil_append, List.append_assoc]
  congr 2
  unfold cI
  rw [← List.map_drop, List.drop_replicate]
  congr 2
  omega
theorem times_shift {l : List Int} {m k j : Nat} (hd : l.length ∣ k) (hj : k + j < m * l.length) : (timesW l m)[j]? = (timesW l m)[k + j]? := by
  rw [timesW_get l m _ hj, timesW_get l m _ (by omega)]
  congr 1
  obtain ⟨q, rfl⟩ := hd
  unfold F
  rw [Nat.mul_add_mod]
theorem times_front {l : List Int} {m j : Nat} (hj : j < l.length) (hm : 1 ≤ m) : l[j]? = (timesW l m)[0 + j]? := by
  rw [Nat.zero_add, timesW_get l m _ (by have := Nat.mul_le_mul_right l.length hm; omega), F_get hj]
/-- block g is a whole list of ints -/
def BlockI (w : World) (g : Nat) (l : List Int) : Prop := w.heap[g]? = some (.cells (cI l).toArray 3 (0, 0))
theorem BlockI.eq {w : World} {g : Nat} {l : List Int} (h : BlockI w g l) : w.heap[g]? = some (.cells (cI l).toArray 3 (0, 0)) := h
theorem BlockI.cell {w : World} {g : Nat} {l : List Int} (h : BlockI w g l) {j : Nat} {x : Int} (hx : l[j]? = some x) : w.cell? ⟨g, j, none⟩ = some (.int .i64 x) := by
  rw [cell_of_row w g j _ _ _ h, List.getElem?_toArray]
  exact cI_get hx
def RepRel (w : World) (l X : List Int) (g : Nat) (v : Value) (wr : World) : Prop :=
  ∃ k : Nat, k ≤ X.length ∧ (0 < X.length → 0 < k) ∧ l.length ∣ k ∧ v = .int .i64 (k : Int) ∧ BlockI wr g (fillW X k) ∧ Below w.heap.size w wr

set_option maxRecDepth 100000 in
set_option maxHeartbeats 4000000 in
theorem repeatI (p : Option Addr) (n c m : Nat) (l : List Int) (w : World) (hn : n = l.length) (h : IntV w.heap.size w p c l) (hm : m ≤ 9223372036854775807) (hT : n * m ≤ 1000000) :
    Calls Tryz.prog 83 #[.slice p n c, .int .i64 (m : Int)] w (IntPost w (timesW l m)) := by
  have hle := h.le
  have hcap := h.cap
  unfold maxLen at hcap
  have hnc : n ≤ c := by omega
  obtain ⟨T, hTe⟩ : ∃ T, n * m = T := ⟨_, rfl⟩
  have hTl : T ≤ 1000000 := by omega
  have hX : (timesW l m).length = T := by rw [timesW_length, ← hn, Nat.mul_comm]; exact hTe
  have hmul := mulU n m T hTe (by omega) (by omega) (by omega) w
  have H := Lib.hid (And.intro h (And.intro hn (And.intro hTe hX)))
  have hmk := makeI T (by omega) w
  have HM := Lib.hid hmul
  have hd1 : decide ((m : Int) < 0) = false := by rw [decide_eq_false_iff_not]; omega
  have hd2 : decide ((9223372036854775807 : Int) < (T : Int)) = false := by rw [decide_eq_false_iff_not]; omega
  clear h hn hT hTe hX hmul hle
  go_enter Tryz.func83, Tryz.ntmps83
  go_wp2_with fail
  refine HM.out.mono ?_
  rintro e w' ⟨rfl, rfl⟩
  have hB1 : Below w.heap.size w (w.alloc (.cells (madeCells #[.int .i64 0] T) 3)) := (Below.refl _ _).alloc (Nat.le_refl _) _
  have HB1 := Lib.hid hB1
  have hh : BlockI (w.alloc (.cells (madeCells #[.int .i64 0] T) 3)) w.heap.size (fillW (timesW l m) 0) := by
    unfold BlockI
    rw [heap_newN, fillW_zero, H.out.2.2.2]
    congr 2
    rw [← Array.toList_inj, madeI_list, List.toList_toArray]
    unfold cI
    rw [List.map_replicate]
  have HHH := Lib.hid hh
  obtain ⟨k0, hk0⟩ : ∃ k0, k0 = Nat.min n T := ⟨_, rfl⟩
  have hk0c : k0 = 0 ∧ T = 0 ∨ k0 = n ∧ 1 ≤ m := by
    rcases Nat.eq_zero_or_pos m with h0 | h0
    · left
      have : T = 0 := by rw [← H.out.2.2.1, h0, Nat.mul_zero]
      exact ⟨by rw [hk0, this]; exact Nat.min_eq_right (Nat.zero_le _), this⟩
    · right
      refine ⟨?_, h0⟩
      have : n * 1 ≤ n * m := Nat.mul_le_mul_left _ h0
      rw [hk0]
      exact Nat.min_eq_left (by have := H.out.2.2.1; omega)
  have HK := Lib.hid (And.intro hk0 hk0c)
  have hk0n : k0 ≤ n := by rw [hk0]; exact Nat.min_le_left _ _
  have hk0T : k0 ≤ T := by rw [hk0]; exact Nat.min_le_right _ _
  clear hB1 hh hk0 hk0c
  have hh1 : ¬ ((0 : Int) < 0) := by omega
  go_wp2_with (with_reducible refine wpList_copy_splice rfl (.tmp 31) (.tmp 32) 24 24 rfl 3 Tryz.underlying24 sizeI (some ⟨w.heap.size, 0, none⟩) p T T n c rfl rfl w.heap.size 0 (cI (fillW (timesW l m) 0)) 3 (BlockI.eq HHH.out) (cI (l.take k0)) ?k1 ?k2 ?k3 ?k4 w.heap.size w HB1.out (Nat.le_refl _) ?_)
  case k1 => rw [cI_length, List.length_take, ← H.out.2.1, Nat.min_eq_left hk0n]; exact HK.out.1
  case k2 =>
    intro hpos
    rw [cI_length, List.length_take] at hpos
    obtain ⟨b, off, rfl, hb, hc⟩ := H.out.1.cell (by rintro rfl; simp at hpos)
    refine ⟨_, rfl, fun j v hv => ?_⟩
    rw [add_off]
    unfold cI at hv
    rw [List.getElem?_map] at hv
    obtain ⟨x, hx, rfl⟩ := Option.map_eq_some_iff.1 hv
    rw [List.getElem?_take] at hx
    split at hx
    · exact (HB1.out.cell (p := ⟨b, off + j, none⟩) hb).trans (hc j x hx)
    · cases hx
  case k3 => rw [cI_length, cI_length, List.length_take, fillW_length (Nat.zero_le _), H.out.2.2.2]; have := H.out.2.1; omega
  case k4 =>
    intro v hv
    unfold cI at hv
    obtain ⟨x, _, rfl⟩ := List.mem_map.1 hv
    rfl
  intro w1 hw1 hb1
  have hlk : (l.take k0).length = k0 := by rw [List.length_take, ← H.out.2.1]; omega
  have hlk2 : (cI (l.take k0)).length = k0 := by rw [cI_length, hlk]
  have hw2 : BlockI w1 w.heap.size (fillW (timesW l m) k0) := by
    have h := hw1.out
    rw [splice_fill (X := timesW l m) (k := 0) (cs := l.take k0) (by rw [hlk, H.out.2.2.2]; omega) (fun j hj => ?_), hlk, Nat.zero_add] at h
    · exact h
    · rw [hlk] at hj
      rw [List.getElem?_take, if_pos hj]
      rcases HK.out.2 with ⟨h1, _⟩ | ⟨h1, h2⟩
      · omega
      · exact times_front (by have := H.out.2.1; omega) h2
  have HW := Lib.hid (And.intro hw2 hb1)
  clear hw1 hb1 hlk hw2 hmk HB1 HHH
  rw [hlk2]
  clear hlk2
  go_wp2_with fail
  go_loopw [8] (fun v wr => RepRel w l (timesW l m) w.heap.size v wr) (fun v _ => T - (intOf v).toNat)
  case atStart =>
    refine ⟨k0, by rw [H.out.2.2.2]; exact hk0T, ?_, ?_, rfl, HW.out.1, HW.out.2⟩
    · intro hpos
      rw [H.out.2.2.2] at hpos
      rcases HK.out.2 with ⟨h1, h2⟩ | ⟨h1, h2⟩
      · omega
      · rcases Nat.eq_zero_or_pos n with h3 | h3
        · have := H.out.2.2.1; rw [h3, Nat.zero_mul] at this; omega
        · omega
    · rcases HK.out.2 with ⟨h1, h2⟩ | ⟨h1, h2⟩
      · rw [h1]; exact ⟨0, rfl⟩
      · rw [h1, H.out.2.1]; exact Nat.dvd_refl _
  case round =>
    obtain ⟨k, hk, hk0, hd, rfl, hbl, hb⟩ := hrel
    have hkT : k ≤ T := by rw [H.out.2.2.2] at hk; exact hk
    by_cases hlt : k < T
    · have hkp : 0 < k := hk0 (by rw [H.out.2.2.2]; omega)
      have HR := Lib.hid (And.intro hd (And.intro hbl hb))
      have hkX : ∃ kk, kk = Nat.min k (T - k) := ⟨_, rfl⟩
      obtain ⟨kk, hkk⟩ := hkX
      have hkk1 : kk ≤ k := by rw [hkk]; exact Nat.min_le_left _ _
      have hkk2 : k + kk ≤ T := by have : kk ≤ T - k := by rw [hkk]; exact Nat.min_le_right _ _
                                   omega
      have hkk3 : 0 < kk := by rw [hkk]; exact Nat.lt_min.2 ⟨hkp, by omega⟩
      have hkk4 : k + kk = T ∨ kk = k := by
        rcases Nat.le_total k (T - k) with h1 | h1
        · right; rw [hkk]; exact Nat.min_eq_left h1
        · left; have : kk = T - k := by rw [hkk]; exact Nat.min_eq_right h1
          omega
      have hcl : (cI ((timesW l m).take kk)).length = kk := by rw [cI_length, List.length_take, H.out.2.2.2]; omega
      have hcl2 : ((timesW l m).take kk).length = kk := by rw [← cI_length, hcl]
      have hspl : splice (cI (fillW (timesW l m) k)) k (cI ((timesW l m).take kk)) = cI (fillW (timesW l m) (k + kk)) := by
        have := splice_fill (X := timesW l m) (k := k) (cs := (timesW l m).take kk) (by rw [hcl2, H.out.2.2.2]; exact hkk2) (fun j hj => by
          rw [hcl2] at hj
          rw [List.getElem?_take, if_pos hj]
          exact times_shift HR.out.1 (by rw [← timesW_length, H.out.2.2.2]; omega))
        rwa [hcl2] at this
      have hsrc : ∀ j v, (cI ((timesW l m).take kk))[j]? = some v → wr.cell? ⟨w.heap.size, j, none⟩ = some v := fun j v hv => by
        unfold cI at hv
        rw [List.getElem?_map] at hv
        obtain ⟨x, hx, rfl⟩ := Option.map_eq_some_iff.1 hv
        rw [List.getElem?_take] at hx
        split at hx
        · rename_i hj
          refine HR.out.2.1.cell ?_
          unfold fillW
          rw [List.getElem?_append_left (by rw [List.length_take, H.out.2.2.2]; omega), List.getElem?_take, if_pos (by omega)]
          exact hx
        · cases hx
      have hlenf : (cI (fillW (timesW l m) k)).length = T := by rw [cI_length, fillW_length (by rw [H.out.2.2.2]; exact hkT), H.out.2.2.2]
      have HZ := Lib.hid (And.intro hcl (And.intro hspl (And.intro hsrc (And.intro hlenf hkk))))
      have hi0 : (0 : Int) ≤ (k : Int) := by omega
      have hi1 : (k : Int) ≤ (T : Int) := by omega
      have hkT2 : ¬ T = k := by omega
      have hwk : IntKind.i64.wrap ((k : Int) + (kk : Int)) = (k : Int) + (kk : Int) := by rw [IntWalk.i64_in _ (by omega)]
      clear hd hbl hb hk0 hk hcl hcl2 hspl hsrc hlenf hkk
      go_wp2_with fail
      go_region_law ((refine step_copy_splice rfl (.tmp 41) (.tmp 44) 24 24 rfl 3 Tryz.underlying24 sizeI (some ⟨w.heap.size, k, none⟩) (some ⟨w.heap.size, 0, none⟩) (T - k) (T - k) k T (by simp [Act.eval, Act.put]) (by simp [Act.eval, Act.put]) w.heap.size k (cI (fillW (timesW l m) k)) 3 (BlockI.eq HR.out.2.1) (cI ((timesW l m).take kk)) (by rw [HZ.out.1]; exact HZ.out.2.2.2.2) (fun _ => ⟨rfl, _, rfl, fun j v hv => by rw [add_off, Nat.zero_add]; exact HZ.out.2.2.1 j v hv⟩) (by rw [HZ.out.1, HZ.out.2.2.2.1]; exact hkk2) (fun v hv => cI_one hv) w.heap.size w (by repeat' (first | exact HR.out.2.2 | refine Below.drew ?_ | refine below_drewN ?_ _)) (Nat.le_refl _) ?_; intro w2 hw2 hb2))
      all_goals
        have hbk : BlockI w2 w.heap.size (fillW (timesW l m) (k + kk)) := by
          have h := hw2.out
          rw [HZ.out.2.1] at h
          exact h
        have HF := Lib.hid (And.intro hbk hb2)
        clear hw2 hb2 hbk
        rw [HZ.out.1]
        simp only [List.getElem_toArray, List.getElem_cons_succ, List.getElem_cons_zero, hwk]
        go_frame
        go_wp2_with fail
        go_roundw
        case rel =>
          refine ⟨k + kk, by rw [H.out.2.2.2]; exact hkk2, fun _ => by omega, ?_, by go_num, HF.out.1, HF.out.2⟩
          rcases hkk4 with h1 | h1
          · rw [h1, ← H.out.2.2.2, timesW_length]
            exact Nat.dvd_mul_left _ _
          · rw [h1]
            exact Nat.dvd_add HR.out.1 HR.out.1
        case measure => simp [intOf]; omega
    · obtain rfl : k = T := by omega
      have he : fillW (timesW l m) k = timesW l m := by rw [← H.out.2.2.2, fillW_all]
      rw [he] at hbl
      have hO := IntO.of_block (base := w.heap.size) (Nat.le_refl _) (by rw [H.out.2.2.2]; unfold maxLen; omega) hbl
      rw [H.out.2.2.2] at hO
      have HF := Lib.hid (And.intro hO hb)
      clear hd hbl hb hk0 hk he hO
      go_wp2_with fail
      go_ret
      exact ⟨_, _, by rw [H.out.2.2.2]; rfl, HF.out.1, HF.out.2⟩
end Go.Proofs.YtfgoflaeclfggaaGreatDoor
end
section
namespace Go.Proofs.YtfgoflaeclfggaaGreatDoor
open Go.RowKit

/-- a lent list: its block holds it, and the two marks behind -/
def LentI (w : World) (g : Nat) (l : List Int) : Prop := w.heap[g]? = some (.cells (cI (l ++ [7001, 7002])).toArray 3 (0, 0))
theorem LentI.lt {w : World} {g : Nat} {l : List Int} (h : LentI w g l) : g < w.heap.size := heap_ltN h
theorem LentI.cell {w : World} {g : Nat} {l : List Int} (h : LentI w g l) {j : Nat} {x : Int} (hx : (l ++ [7001, 7002])[j]? = some x) : w.cell? ⟨g, j, none⟩ = some (.int .i64 x) := by
  rw [cell_of_row w g j _ _ _ h, List.getElem?_toArray]
  exact cI_get hx
theorem LentI.block {w w' : World} {g : Nat} {l : List Int} (hb : w'.heap[g]? = w.heap[g]?) (h : LentI w g l) : LentI w' g l := hb.trans h
theorem LentI.below {w w' : World} {g : Nat} {l : List Int} (hb : Below w.heap.size w w') (h : LentI w g l) : LentI w' g l := h.block (hb.block g h.lt)
theorem LentI.own {w : World} {g base : Nat} {l : List Int} (hB : base ≤ g) (hl : l.length ≤ 17592186043904) (h : LentI w g l) : IntO base w (some ⟨g, 0, none⟩) (l.length + 2) l := by
  refine ⟨by rw [cI_length, Nat.mul_one], Or.inr ⟨g, l.length + 2, _, rfl, hB, h, by omega, by unfold maxLen; omega, by simp [cI], ?_⟩⟩
  rw [List.toList_toArray, Nat.mul_one]
  unfold cI
  rw [List.map_append, List.take_left' (by simp)]
theorem LentI.of_own {w : World} {g base : Nat} {l : List Int} (h : IntO base w (some ⟨g, 0, none⟩) l.length l) (hfull : ∃ m, l = m ++ [7001, 7002]) : ∃ m, l = m ++ [7001, 7002] ∧ LentI w g m := by
  obtain ⟨m, rfl⟩ := hfull
  refine ⟨m, rfl, ?_⟩
  obtain ⟨hx, h1 | ⟨g', cap, cur, hv, hg, hh, hc, hm, hs, ht⟩⟩ := h
  · simp at h1
  · obtain ⟨rfl, rfl⟩ : g = g' ∧ (m ++ [7001, 7002]).length = cap := by simpa using hv
    unfold LentI
    rw [hh]
    congr 2
    rw [← Array.toList_inj, List.toList_toArray, ← ht, Nat.mul_one, List.take_of_length_le (by rw [Array.length_toList]; omega)]

def LentPostI (w : World) (l : List Int) (e : Ending) (w' : World) : Prop :=
  e = .returned (.slice (some ⟨w.heap.size, 0, none⟩) l.length (l.length + 2)) ∧ LentI w' w.heap.size l ∧ Below w.heap.size w w'
theorem splice_zeroI (cs : List Value) (n : Nat) (v : Value) : splice (List.replicate n v) 0 cs = cs ++ List.replicate (n - cs.length) v := by
  unfold splice
  simp

set_option maxRecDepth 100000 in
set_option maxHeartbeats 1000000 in
theorem lentI_any (p : Option Addr) (cap : Nat) (l : List Int) (w : World) (h : IntV w.heap.size w p cap l) (hl : l.length ≤ 17592186043904) :
    Calls Tryz.prog 6 #[.slice p l.length cap] w (LentPostI w l) := by
  obtain ⟨n, hn⟩ : ∃ n, n = l.length + 2 := ⟨_, rfl⟩
  have hmk := makeI n (by omega)
  have hn2 : (l.length : Int) + 2 = (n : Int) := by omega
  have H := Lib.hid (And.intro h hn)
  have hln : l.length < n := by omega
  have hln1 : l.length + 1 < n := by omega
  have hnb : n ≤ 17592186043906 := by omega
  clear h hn
  go_enter Tryz.func6, Tryz.ntmps6
  have hB1 : Below w.heap.size w (w.alloc (.cells (madeCells #[.int .i64 0] n) 3)) := (Below.refl _ _).alloc (Nat.le_refl _) _
  have HB1 := Lib.hid hB1
  have hh : (w.alloc (.cells (madeCells #[.int .i64 0] n) 3)).heap[w.heap.size]? = some (.cells (List.replicate n (Value.int .i64 0)).toArray 3 (0, 0)) := by
    rw [heap_newN, ← madeI_list]
  have HHH := Lib.hid hh
  clear hB1 hh
  go_wp2_with (with_reducible refine wpList_copy_splice rfl (.tmp 8) (.tmp 9) 24 24 rfl 3 Tryz.underlying24 sizeI (some ⟨w.heap.size, 0, none⟩) p n n l.length cap rfl rfl w.heap.size 0 (List.replicate n (Value.int .i64 0)) 3 HHH.out (cI l) ?k1 ?k2 ?k3 ?k4 w.heap.size w HB1.out (Nat.le_refl _) ?_)
  case k1 => rw [cI_length]; exact (Nat.min_eq_left (by omega)).symm
  case k2 =>
    intro hpos
    rw [cI_length] at hpos
    obtain ⟨b, off, rfl, hb, hc⟩ := H.out.1.cell (List.length_pos_iff.1 hpos)
    refine ⟨_, rfl, fun j v hv => ?_⟩
    rw [add_off]
    unfold cI at hv
    rw [List.getElem?_map] at hv
    obtain ⟨x, hx, rfl⟩ := Option.map_eq_some_iff.1 hv
    exact (HB1.out.cell (p := ⟨b, off + j, none⟩) hb).trans (hc j x hx)
  case k3 => rw [cI_length, List.length_replicate]; omega
  case k4 =>
    intro v hv
    unfold cI at hv
    obtain ⟨x, _, rfl⟩ := List.mem_map.1 hv
    rfl
  intro w1 hw1 hb1
  have hn0 : n = l.length + 2 := H.out.2
  have hw2 : w1.heap[w.heap.size]? = some (.cells (cI l ++ [Value.int .i64 0, Value.int .i64 0]).toArray 3 (0, 0)) := by
    have h := hw1.out
    rw [splice_zeroI, cI_length, show n - l.length = 2 by omega] at h
    exact h
  have hc1 : w1.cell? ⟨w.heap.size, l.length, none⟩ = some (.int .i64 0) := by
    rw [cell_of_row w1 _ _ _ _ _ hw2, List.getElem?_toArray, List.getElem?_append_right (by rw [cI_length]; exact Nat.le_refl _), cI_length, Nat.sub_self]
    rfl
  have hc2 : w1.cell? ⟨w.heap.size, l.length + 1, none⟩ = some (.int .i64 0) := by
    rw [cell_of_row w1 _ _ _ _ _ hw2, List.getElem?_toArray, List.getElem?_append_right (by rw [cI_length]; omega), cI_length, show l.length + 1 - l.length = 1 by omega]
    rfl
  have hf1 : ∀ j, w1.frozen? ⟨w.heap.size, j, none⟩ = false := fun j => frozen_of_row w1 w.heap.size j _ _ hw2
  have hff1 := hf1 l.length
  have hff2 := hf1 (l.length + 1)
  have hnn : n ≤ l.length + 2 := by omega
  have hB2 : Below w.heap.size w ((w1.setCell ⟨w.heap.size, l.length, none⟩ (.int .i64 7001)).setCell ⟨w.heap.size, l.length + 1, none⟩ (.int .i64 7002)) := (hb1.setCell (p := ⟨w.heap.size, l.length, none⟩) (Nat.le_refl _) _).setCell (p := ⟨w.heap.size, l.length + 1, none⟩) (Nat.le_refl _) _
  have hL : LentI ((w1.setCell ⟨w.heap.size, l.length, none⟩ (.int .i64 7001)).setCell ⟨w.heap.size, l.length + 1, none⟩ (.int .i64 7002)) w.heap.size l := by
    unfold LentI
    rw [heap_setCell_same _ w.heap.size (l.length + 1) _ _ _ (heap_setCell_same w1 w.heap.size l.length _ _ _ hw2)]
    congr 2
    rw [← Array.toList_inj]
    simp only [Array.toList_setIfInBounds]
    rw [List.set_append_right _ _ (by rw [cI_length]; exact Nat.le_refl _), List.set_append_right _ _ (by rw [cI_length]; omega), cI_length, Nat.sub_self, show l.length + 1 - l.length = 1 by omega]
    simp [cI]
  have HF := Lib.hid (And.intro hL hB2)
  clear hw1 hb1 hw2 hf1 hn0 hL hB2 hmk HB1 HHH
  go_wp2_with fail
  go_ret
  exact ⟨by rw [H.out.2]; rfl, HF.out.1, HF.out.2⟩
set_option maxRecDepth 100000 in
set_option maxHeartbeats 1000000 in
theorem keptI_any (g : Nat) (p : Option Addr) (n m c : Nat) (l : List Int) (w : World) (hg : LentI w g l) (h : IntV w.heap.size w p c l) (hl : l.length ≤ 17592186043904) (hn : n = l.length) (hm : m = l.length + 2) :
    Calls Tryz.prog 9 #[.slice (some ⟨g, 0, none⟩) n m, .slice p l.length c] w (Tells (.bool true) w) := by
  subst hn hm
  have hcap := h.cap
  unfold maxLen at hcap
  have hle := h.le
  have hsame := ints_any (some ⟨g, 0, none⟩) p l.length l.length (l.length + 2) c l l w rfl rfl ((LentI.own (base := 0) (Nat.zero_le _) (by omega) hg).toV) h
  rw [sameI_self] at hsame
  have HG := Lib.hid hg
  clear hg h
  go_enter Tryz.func9, Tryz.ntmps9
  go_wp2_with fail
  refine hsame.mono ?_
  clear hsame
  rintro e w1 ⟨rfl, hb1⟩
  have hc1 : w1.cell? ⟨g, l.length, none⟩ = some (.int .i64 7001) := (HG.out.below hb1).cell (by simp)
  have hc2 : w1.cell? ⟨g, l.length + 1, none⟩ = some (.int .i64 7002) := (HG.out.below hb1).cell (by rw [List.getElem?_append_right (by omega), show l.length + 1 - l.length = 1 by omega]; rfl)
  have HB := Lib.hid hb1
  clear hb1
  go_wp2_with fail
  go_ret
  exact ⟨rfl, HB.out⟩

def CopyPostI (w : World) (l : List Int) (e : Ending) (w' : World) : Prop :=
  ∃ p c, e = .returned (.slice p l.length c) ∧ IntO w.heap.size w' p c l ∧ Below w.heap.size w w'
set_option maxRecDepth 100000 in
set_option maxHeartbeats 1000000 in
theorem copyI_any (p : Option Addr) (n cap : Nat) (l : List Int) (w : World) (hn : n = l.length) (h : IntV w.heap.size w p cap l) (hl : l.length ≤ 17592186043904) :
    Calls Tryz.prog 69 #[.slice p n cap] w (CopyPostI w l) := by
  subst hn
  obtain ⟨i0, hi, hz0, hz1, hz2⟩ := info_parts infoI
  have H := Lib.hid h
  have hle := h.le
  rcases p with _ | a
  · have hc := h.nil rfl
    subst hc
    obtain rfl : l = [] := List.eq_nil_of_length_eq_zero (by omega)
    clear h
    show Calls Tryz.prog 69 #[.slice none 0 0] w (CopyPostI w [])
    go_enter Tryz.func69, Tryz.ntmps69
    go_wp2_with (at_builtin; refine wpList_append_own_none rfl _ _ 24 rfl w.heap.size 3 i0 1 Tryz.underlying24 hi _ 0 [] rfl (World.ownsRow_made w #[] 0 (Nat.le_refl _) (Nat.zero_le _) rfl) rfl ?_)
    go_ret
    have ho : IntO w.heap.size (w.alloc (.cells #[] 3)) (some ⟨w.heap.size, 0, none⟩) 0 [] := IntO.of_block (l := []) (Nat.le_refl _) (Nat.zero_le _) (heap_newN _ _)
    exact ⟨_, _, rfl, ho, (Below.refl _ _).alloc (Nat.le_refl _) _⟩
  rcases Nat.eq_zero_or_pos l.length with hl0 | hl0
  · obtain rfl : l = [] := List.eq_nil_of_length_eq_zero hl0
    clear h
    show Calls Tryz.prog 69 #[.slice (some a) 0 cap] w (CopyPostI w [])
    go_enter Tryz.func69, Tryz.ntmps69
    go_wp2_with (at_builtin; refine wpList_append_own _ rfl _ _ 24 rfl w.heap.size 3 i0 (.int .i64 0) 1 8 Tryz.underlying24 hi hz0 hz1 hz2 rfl (by decide) _ 0 [] rfl (World.ownsRow_made w #[] 0 (Nat.le_refl _) (Nat.zero_le _) rfl) a 0 cap [] rfl rfl ?c1 ?c2 ?c3 ?c4 ?c5 ?_)
    case c1 => intro j u hj; simp at hj
    case c2 => intro u hu; simp at hu
    case c3 => unfold maxLen; omega
    case c4 => omega
    case c5 => simp
    intro v' w1 hown' hgrow _
    obtain ⟨p1, c1, rfl, ho1⟩ := IntO.slice_own (l := []) hown'
    have hb1 : Below w.heap.size w w1 := ((Below.refl _ _).alloc (Nat.le_refl _) _).grown hgrow (by simp) (fun j hj => by have := Option.some.inj hj; simp at this; omega)
    have HO := Lib.hid (And.intro ho1 hb1)
    clear hown' hgrow ho1 hb1
    go_wp2_with fail
    go_ret
    exact ⟨p1, c1, rfl, HO.out.1, HO.out.2⟩
  · obtain ⟨b, off, ha, hb, hc⟩ := h.cell (List.length_pos_iff.1 hl0)
    obtain rfl : a = ⟨b, off, none⟩ := by simpa using ha
    have HC := Lib.hid hc
    clear h hc ha
    go_enter Tryz.func69, Tryz.ntmps69
    go_wp2_with (at_builtin; refine wpList_append_own _ rfl _ _ 24 rfl w.heap.size 3 i0 (.int .i64 0) 1 8 Tryz.underlying24 hi hz0 hz1 hz2 rfl (by decide) _ 0 [] rfl (World.ownsRow_made w #[] 0 (Nat.le_refl _) (Nat.zero_le _) rfl) ⟨b, off, none⟩ l.length cap (cI l) rfl ?d0 ?d1 ?d2 ?d3 ?d4 ?d5 ?_)
    case d0 => simp [cI]
    case d1 =>
      intro j u hj
      unfold cI at hj
      rw [List.getElem?_map] at hj
      obtain ⟨x, hx, rfl⟩ := Option.map_eq_some_iff.1 hj
      rw [add_off]
      exact (((Below.refl w.heap.size w).alloc (Nat.le_refl _) _).cell (p := ⟨b, off + j, none⟩) hb).trans (HC.out j x hx)
    case d2 =>
      intro u hu
      unfold cI at hu
      obtain ⟨x, _, rfl⟩ := List.mem_map.1 hu
      rfl
    case d3 => unfold maxLen; omega
    case d4 => omega
    case d5 => simp
    intro v' w1 hown' hgrow _
    obtain ⟨p1, c1, rfl, ho1⟩ := IntO.slice_own (l := l) (by simpa using hown')
    have hb1 : Below w.heap.size w w1 := ((Below.refl _ _).alloc (Nat.le_refl _) _).grown hgrow (by simp) (fun j hj => by have := Option.some.inj hj; simp at this; omega)
    have HO := Lib.hid (And.intro ho1 hb1)
    clear hown' hgrow ho1 hb1
    go_wp2_with fail
    go_ret
    exact ⟨p1, c1, by simp, HO.out.1, HO.out.2⟩
end Go.Proofs.YtfgoflaeclfggaaGreatDoor
end
section
namespace Go.Proofs.YtfgoflaeclfggaaGreatDoor
open Go.RowKit Go.Extern.Stop Go.Stop Go.Extern WordM NatM

def RefNextOk (w : World) (k : Nat) (l : List Int) (e : Ending) (w' : World) : Prop := ∃ x, IsNext k l x ∧ RefIOk w x e w'
set_option maxRecDepth 100000 in
set_option maxHeartbeats 4000000 in
theorem next_ref_any (k : Nat) (p : Option Addr) (n c : Nat) (l : List Int) (w : World) (hn : n = l.length) (h : IntV w.heap.size w p c l) (hc : chkW k l = none) (hlast : l.length < 4096 ∨ l ≠ List.replicate l.length ((k : Int) - 1)) :
    Calls Tryz.prog 23 #[.int .i64 (k : Int), .slice p n c] w (RefNextOk w k l) := by
  have hc' := hc
  obtain ⟨k', hk', h1, h4, hl, ho⟩ := chkW_none hc
  obtain rfl : k = k' := by omega
  have hn4 : n ≤ 4096 := by omega
  have H := Lib.hid (And.intro h (And.intro hn (And.intro hc' (And.intro ho hlast))))
  obtain ⟨i0, hi, hz0, hz1, hz2⟩ := info_parts infoI
  clear h hc hc' hl ho hk' hn hlast
  go_enter Tryz.func23, Tryz.ntmps23
  go_wp2_with fail
  obtain ⟨w0, hw0⟩ : ∃ w0, w0 = w.alloc (.cells #[.int .i64 0, .slice none 0 0, .slice none 0 0] 56) := ⟨_, rfl⟩
  have hb0 : Below w.heap.size w w0 := by rw [hw0]; exact (Below.refl _ _).alloc (Nat.le_refl _) _
  have hs0 : w.heap.size < w0.heap.size := by rw [hw0]; simp
  have hE0 : Err3 w0 w.heap.size (.int .i64 0) (.slice none 0 0) (.slice none 0 0) := by rw [hw0]; exact Err3.new w
  rw [← hw0]
  have HE := Lib.hid (And.intro hE0 hb0)
  clear hw0 hE0 hb0
  have hck : Calls Tryz.prog 22 #[.int .i64 (k : Int), .slice p n c] w0 (Tells (.agg #[.int .i64 0, .slice none 0 0, .slice none 0 0]) w0) := check_ref_ok (k : Int) p n c l w0 H.out.2.1 (H.out.1.next HE.out.2) H.out.2.2.1
  refine hck.mono ?_
  clear hck
  rintro e w1 ⟨rfl, hb1⟩
  obtain ⟨wB, hwB⟩ : ∃ x, x = w1.alloc (.cells #[.int .i64 0, .slice none 0 0, .slice none 0 0] 56) := ⟨_, rfl⟩
  have hbB : Below w1.heap.size w1 wB := by rw [hwB]; exact (Below.refl _ _).alloc (Nat.le_refl _) _
  have hs1 := hb1.size
  have hsB : w1.heap.size < wB.heap.size := by rw [hwB]; simp
  have hEB : Err3 wB w1.heap.size (.int .i64 0) (.slice none 0 0) (.slice none 0 0) := by rw [hwB]; exact ⟨heap_newN w1 _⟩
  have hE1 := (HE.out.1.next hb1).next hbB
  have hbw : Below w.heap.size w wB := (HE.out.2.trans (hb1.mono (by omega))).trans (hbB.mono (by omega))
  obtain ⟨_, hk0, hk1, hk2⟩ := hEB.facts
  have H1 := Lib.hid (And.intro hE1 hbw)
  clear hb1 hbB hEB hE1 hbw
  go_upto_region 2 with fail
  rw [← hwB]
  clear hwB
  go_wp2_with fail
  refine (bad_no (.slice none 0 0) (.slice none 0 0) wB).mono ?_
  rintro e wq ⟨rfl, hb2⟩
  have hE2 := H1.out.1.next hb2
  have hsq : w.heap.size < wq.heap.size := by have := hb2.size; omega
  have hbw2 : Below w.heap.size w wq := H1.out.2.trans (hb2.mono (by omega))
  have H2 := Lib.hid (And.intro hE2 hbw2)
  clear hb2 hE2 hbw2 hk0 hk1 hk2
  have hcp := copyI_any p n c l wq H.out.2.1 (H.out.1.next H2.out.2) (by have := H.out.2.1; omega)
  obtain ⟨L, hL⟩ : ∃ L, l.length = L := ⟨_, rfl⟩
  have hLn : L = n := by have := H.out.2.1; omega
  have HL := Lib.hid hL
  unfold CopyPostI at hcp
  simp only [hL, hLn] at hcp
  clear hL hLn
  go_wp2_with fail
  refine hcp.mono ?_
  clear hcp
  rintro e w2 ⟨p2, c2, rfl, ho2, hb2⟩
  have HO := Lib.hid (And.intro hb2 ho2)
  clear hb2 ho2
  go_wp2_with fail
  go_loopw [8] (fun v wr => NextRel wq k l p2 c2 v wr) (fun v _ => (intOf v + 1).toNat)
  case atStart =>
    have hlen := H.out.2.1
    exact ⟨l.length, Nat.le_refl _, by rw [hlen], by simp, by simp; exact HO.out.2, HO.out.1⟩
  case round =>
    obtain ⟨j, hj, rfl, hw2, ho, hb⟩ := hrel
    have hlen := H.out.2.1
    have hleng : (l.take j ++ List.replicate (l.length - j) (0 : Int)).length = n := by simp; omega
    rcases Nat.eq_zero_or_pos j with rfl | hj0
    · have hl4 : ((n : Int) == 4096) = false := by
        rw [beq_eq_false_iff_ne]
        intro e
        rcases H.out.2.2.2.2 with h1 | h1
        · omega
        · apply h1
          rw [List.take_zero, List.nil_append, Nat.sub_zero] at hw2
          exact hw2
      have hx : l.take 0 ++ List.replicate (l.length - 0) (0 : Int) = List.replicate n 0 := by rw [List.take_zero, List.nil_append, Nat.sub_zero, hlen]
      rw [hx] at ho
      have hown : wr.ownsRow wq.heap.size 3 1 (.slice p2 n c2) n (cI (List.replicate n 0)) := by
        unfold IntO at ho
        rwa [List.length_replicate] at ho
      have hwB : wq.heap.size ≤ wr.heap.size := hb.size
      have HX := Lib.hid (And.intro hw2 hb)
      clear ho hx hw2 hb hlen hleng
      go_wp2_with (at_builtin; refine wpList_append_own _ rfl _ _ 24 rfl wq.heap.size 3 i0 (.int .i64 0) 1 8 Tryz.underlying24 hi hz0 hz1 hz2 rfl (by decide) _ n (cI (List.replicate n 0)) rfl (hown.alloc _) ⟨wr.heap.size, 0, none⟩ 1 1 [.int .i64 0] rfl rfl (cell_one_new _ _ _) ?c2 ?c3 ?c4 ?c5 ?_)
      case c2 => intro u hu; simp at hu; subst hu; rfl
      case c3 => unfold maxLen; omega
      case c4 => omega
      case c5 => simp; omega
      intro v' w3 hown' hgrow _
      have hxs : cI (List.replicate n 0) ++ [Value.int .i64 0] = cI (List.replicate (n + 1) 0) := by
        rw [List.replicate_succ', cI_app]; rfl
      rw [hxs] at hown'
      have hown2 : w3.ownsRow wq.heap.size 3 1 v' (List.replicate (n + 1) (0 : Int)).length (cI (List.replicate (n + 1) 0)) := by rw [List.length_replicate]; exact hown'
      obtain ⟨p3, c3, rfl, ho3⟩ := IntO.slice_own hown2
      have hb3 : Below wq.heap.size wq w3 := (HX.out.2.alloc hwB _).grown hgrow (by simp; omega) (fun j hj => (hown.lt j hj).1)
      obtain ⟨⟨hf0, hf1, hf2⟩, hc0, hc1, hc2⟩ := (H2.out.1.next hb3).facts
      have HF := Lib.hid (And.intro ho3 (H2.out.2.trans (hb3.mono (by omega))))
      clear hown hown' hgrow ho3 hb3 hxs hown2 hwB
      go_wp2_with fail
      refine bodyPost_ret (v := .tuple #[.slice p3 (List.replicate (n + 1) (0 : Int)).length c3, noErr]) (by simp [results, Tryz.results23, go_sem, hc0, hc1, hc2, noErr]) rfl ⟨List.replicate (n + 1) 0, Or.inr ⟨?_, by rw [H.out.2.1]⟩, p3, c3, rfl, ?_, ?_⟩
      · have e := HX.out.1
        rwa [List.take_zero, List.nil_append, Nat.sub_zero] at e
      · exact (HF.out.1.put3 (by omega) _ _ _).base (by omega)
      · exact put3_below HF.out.2 (Nat.le_refl _) _ _ _
    · obtain ⟨i, rfl⟩ : ∃ i, j = i + 1 := ⟨j - 1, by omega⟩
      have e1 : (((i + 1 : Nat) : Int) - 1) = (i : Int) := by omega
      rw [e1]
      obtain ⟨y, hy⟩ := getI (l := l) (k := i) (by omega)
      have hyo := H.out.2.2.2.1 y (List.mem_of_getElem? hy)
      have hyx : (l.take (i + 1) ++ List.replicate (l.length - (i + 1)) (0 : Int))[i]? = some y := by
        rw [List.getElem?_append_left (by rw [List.length_take]; omega), List.getElem?_take, if_pos (by omega), hy]
      have hset := fun v => set_mid (v := v) hy (l.length - (i + 1)) 0
      have hrep := take_rep hy hw2
      obtain ⟨xs, hxs⟩ : ∃ xs, l.take (i + 1) ++ List.replicate (l.length - (i + 1)) (0 : Int) = xs := ⟨_, rfl⟩
      rw [hxs] at ho hleng hyx
      simp only [hxs] at hset
      have hown : wr.ownsRow wq.heap.size 3 1 (.slice p2 n c2) n (cI xs) := by
        unfold IntO at ho
        rwa [hleng] at ho
      rcases own_shape hown with ⟨hv, h0, _⟩ | ⟨g, cap, hv, hg, hglt, hcc, hm, hcel, _⟩
      · omega
      obtain ⟨rfl, rfl⟩ : p2 = some ⟨g, 0, none⟩ ∧ c2 = cap := by simpa using hv
      have hin : i < n := by omega
      have hcx : wr.cell? ⟨g, i, none⟩ = some (.int .i64 y) := (hcel i hin).trans (cI_get hyx)
      have hfx : wr.frozen? ⟨g, i, none⟩ = false := hown.frozenAt i
      have hnc2 : n ≤ c2 := hcc
      have hc2m : c2 ≤ 9223372036854775807 := by unfold maxLen at hm; omega
      by_cases hyk : y < (k : Int) - 1
      · obtain ⟨s1, t1⟩ := hown.stored i (.int .i64 (y + 1))
        rw [← cI_set, hset] at s1
        have hb1 : Below wq.heap.size wq (wr.setCell ⟨g, i, none⟩ (.int .i64 (y + 1))) := hb.setCell (p := ⟨g, i, none⟩) hg _
        have HS := Lib.hid (And.intro s1 (And.intro hb1 (And.intro hy (And.intro hrep hyk))))
        have hyw : y + 1 ≤ 4 := by omega
        have hy0 : 0 ≤ y := hyo.1
        have hyb : (y == (k : Int) - 1) = false := by rw [beq_eq_false_iff_ne]; omega
        clear ho hown hcel hv hset hxs s1 t1 hb1 hb hw2 hy hrep hyx hleng hlen hyo e1 hcc hm
        go_upto_region 11 with fail
        obtain ⟨wz, hwz⟩ : ∃ x, wr.setCell ⟨g, i, none⟩ (.int .i64 (y + 1)) = x := ⟨_, rfl⟩
        have HS2 := Lib.hid (hwz ▸ HS.out)
        rw [hwz]
        clear hwz HS hcx hfx
        obtain ⟨⟨hf0, hf1, hf2⟩, hc0, hc1, hc2⟩ := (H2.out.1.next HS2.out.2.1).facts
        go_wp2_with fail
        have e3 : l.length - (i + 1) = l.length - 1 - i := by omega
        have e4 : (l.take i ++ (y + 1) :: List.replicate (l.length - (i + 1)) 0).length = n := by simp; have := H.out.2.1; omega
        have hoz : IntO wq.heap.size wz (some ⟨g, 0, none⟩) c2 (l.take i ++ (y + 1) :: List.replicate (l.length - (i + 1)) 0) := by
          unfold IntO
          rw [e4]; exact HS2.out.1
        refine bodyPost_ret (v := .tuple #[.slice (some ⟨g, 0, none⟩) n c2, noErr]) (by simp [results, Tryz.results23, go_sem, hc0, hc1, hc2, noErr]) rfl ⟨l.take i ++ (y + 1) :: List.replicate (l.length - (i + 1)) 0, Or.inl ⟨i, y, HS2.out.2.2.1, HS2.out.2.2.2.2, by rw [← e3]; exact HS2.out.2.2.2.1, by rw [e3]⟩, some ⟨g, 0, none⟩, c2, by rw [e4], ?_, ?_⟩
        · exact (hoz.put3 (by omega) _ _ _).base (by omega)
        · exact put3_below (H2.out.2.trans (HS2.out.2.1.mono (by omega))) (Nat.le_refl _) _ _ _
      · obtain rfl : y = (k : Int) - 1 := by omega
        obtain ⟨s1, t1⟩ := hown.stored i (.int .i64 0)
        rw [← cI_set, hset] at s1
        have hb1 : Below wq.heap.size wq (wr.setCell ⟨g, i, none⟩ (.int .i64 0)) := hb.setCell (p := ⟨g, i, none⟩) hg _
        have HS := Lib.hid (And.intro s1 (And.intro hb1 (And.intro hy hrep)))
        clear ho hown hcel hv hset hxs s1 t1 hb1 hb hw2 hy hrep hyx hleng hlen hyo e1 hcc hm
        go_wp2_with fail
        go_roundw
        case rel =>
          have e3 : l.length - i = l.length - (i + 1) + 1 := by have := H.out.2.1; omega
          refine ⟨i, by have := H.out.2.1; omega, rfl, by rw [e3, List.replicate_succ]; exact HS.out.2.2.2, ?_, HS.out.2.1⟩
          rw [e3, List.replicate_succ]
          unfold IntO
          have : (l.take i ++ 0 :: List.replicate (l.length - (i + 1)) (0 : Int)).length = n := by simp; have := H.out.2.1; omega
          rw [this]; exact HS.out.1
        case measure => simp [intOf]

set_option maxRecDepth 100000 in
set_option maxHeartbeats 4000000 in
theorem next_ref_full (k : Nat) (p : Option Addr) (n c : Nat) (l : List Int) (w : World) (hn : n = l.length) (h : IntV w.heap.size w p c l) (hc : chkW k l = none) (h4096 : l.length = 4096) (hlast : l = List.replicate l.length ((k : Int) - 1)) :
    Calls Tryz.prog 23 #[.int .i64 (k : Int), .slice p n c] w (RefErrW2 w (.slice none 0 0) 0 4) := by
  have hc' := hc
  obtain ⟨k', hk', h1, h4, hl, ho⟩ := chkW_none hc
  obtain rfl : k = k' := by omega
  have hn4 : n ≤ 4096 := by omega
  have hall : ∀ x ∈ l, x = (k : Int) - 1 := by
    intro x hx
    rw [hlast] at hx
    exact List.eq_of_mem_replicate hx
  have H := Lib.hid (And.intro h (And.intro hn (And.intro hc' (And.intro ho (And.intro hall h4096)))))
  obtain ⟨i0, hi, hz0, hz1, hz2⟩ := info_parts infoI
  clear h hc hc' hl ho hk' hn hall hlast h4096
  go_enter Tryz.func23, Tryz.ntmps23
  go_wp2_with fail
  obtain ⟨w0, hw0⟩ : ∃ w0, w0 = w.alloc (.cells #[.int .i64 0, .slice none 0 0, .slice none 0 0] 56) := ⟨_, rfl⟩
  have hb0 : Below w.heap.size w w0 := by rw [hw0]; exact (Below.refl _ _).alloc (Nat.le_refl _) _
  have hs0 : w.heap.size < w0.heap.size := by rw [hw0]; simp
  have hE0 : Err3 w0 w.heap.size (.int .i64 0) (.slice none 0 0) (.slice none 0 0) := by rw [hw0]; exact Err3.new w
  rw [← hw0]
  have HE := Lib.hid (And.intro hE0 hb0)
  clear hw0 hE0 hb0
  have hck : Calls Tryz.prog 22 #[.int .i64 (k : Int), .slice p n c] w0 (Tells (.agg #[.int .i64 0, .slice none 0 0, .slice none 0 0]) w0) := check_ref_ok (k : Int) p n c l w0 H.out.2.1 (H.out.1.next HE.out.2) H.out.2.2.1
  refine hck.mono ?_
  clear hck
  rintro e w1 ⟨rfl, hb1⟩
  obtain ⟨wB, hwB⟩ : ∃ x, x = w1.alloc (.cells #[.int .i64 0, .slice none 0 0, .slice none 0 0] 56) := ⟨_, rfl⟩
  have hbB : Below w1.heap.size w1 wB := by rw [hwB]; exact (Below.refl _ _).alloc (Nat.le_refl _) _
  have hs1 := hb1.size
  have hsB : w1.heap.size < wB.heap.size := by rw [hwB]; simp
  have hEB : Err3 wB w1.heap.size (.int .i64 0) (.slice none 0 0) (.slice none 0 0) := by rw [hwB]; exact ⟨heap_newN w1 _⟩
  have hE1 := (HE.out.1.next hb1).next hbB
  have hbw : Below w.heap.size w wB := (HE.out.2.trans (hb1.mono (by omega))).trans (hbB.mono (by omega))
  obtain ⟨_, hk0, hk1, hk2⟩ := hEB.facts
  have H1 := Lib.hid (And.intro hE1 hbw)
  clear hb1 hbB hEB hE1 hbw
  go_upto_region 2 with fail
  rw [← hwB]
  clear hwB
  go_wp2_with fail
  refine (bad_no (.slice none 0 0) (.slice none 0 0) wB).mono ?_
  rintro e wq ⟨rfl, hb2⟩
  have hE2 := H1.out.1.next hb2
  have hsq : w.heap.size < wq.heap.size := by have := hb2.size; omega
  have hbw2 : Below w.heap.size w wq := H1.out.2.trans (hb2.mono (by omega))
  have H2 := Lib.hid (And.intro hE2 hbw2)
  clear hb2 hE2 hbw2 hk0 hk1 hk2
  have hcp := copyI_any p n c l wq H.out.2.1 (H.out.1.next H2.out.2) (by have := H.out.2.1; omega)
  obtain ⟨L, hL⟩ : ∃ L, l.length = L := ⟨_, rfl⟩
  have hLn : L = n := by have := H.out.2.1; omega
  have HL := Lib.hid hL
  unfold CopyPostI at hcp
  simp only [hL, hLn] at hcp
  clear hL hLn
  go_wp2_with fail
  refine hcp.mono ?_
  clear hcp
  rintro e w2 ⟨p2, c2, rfl, ho2, hb2⟩
  have HO := Lib.hid (And.intro hb2 ho2)
  clear hb2 ho2
  go_wp2_with fail
  go_loopw [8] (fun v wr => NextRel wq k l p2 c2 v wr) (fun v _ => (intOf v + 1).toNat)
  case atStart =>
    have hlen := H.out.2.1
    exact ⟨l.length, Nat.le_refl _, by rw [hlen], by simp, by simp; exact HO.out.2, HO.out.1⟩
  case round =>
    obtain ⟨j, hj, rfl, hw2, ho, hb⟩ := hrel
    have hlen := H.out.2.1
    have hleng : (l.take j ++ List.replicate (l.length - j) (0 : Int)).length = n := by simp; omega
    rcases Nat.eq_zero_or_pos j with rfl | hj0
    · obtain rfl : n = 4096 := by have := H.out.2.2.2.2.2; omega
      have HX := Lib.hid (And.intro (H2.out.1.next hb) (H2.out.2.trans (hb.mono (by omega))))
      clear ho hw2 hb hlen hleng
      go_wp2_with fail
      refine (raw_fresh wordOp 0 4 _).mono ?_
      rintro e w2 ⟨g, g', rfl, ⟨hg1, hg2, hg3, hg4⟩, hcg, hcg', hb2⟩
      obtain ⟨⟨hf0, hf1, hf2⟩, hc0, hc1, hc2⟩ := (HX.out.1.next hb2).facts
      have hgs := HX.out.2.size
      have hgt : w.heap.size < wr.heap.size := heap_ltN HX.out.1.heap
      have HB2 := Lib.hid (And.intro hcg (And.intro hcg' (And.intro (HX.out.2.trans (hb2.mono (by omega))) (And.intro hgt (And.intro hg1 hg3)))))
      clear hb2 hcg hcg' hgs hgt
      go_wp2_with fail
      refine bodyPost_ret (v := .tuple #[.slice none 0 0, .agg #[.int .i64 4, .slice (some ⟨g, 0, none⟩) 1 1, .slice (some ⟨g', 0, none⟩) 1 1]]) (by simp [results, Tryz.results23, go_sem, hc0, hc1, hc2]) rfl ⟨_, rfl, g, g', rfl, ⟨by have := HB2.out.2.2.2; omega, by have := HB2.out.2.2.2; omega⟩, ?_, ?_⟩
      · exact WantV.one (by simp; omega) (by simp; omega) ((put3_cell w2 w.heap.size _ _ _ _ (by have := HB2.out.2.2.2; simp only []; omega)).trans HB2.out.1) ((put3_cell w2 w.heap.size _ _ _ _ (by have := HB2.out.2.2.2; simp only []; omega)).trans HB2.out.2.1)
      · exact put3_below HB2.out.2.2.1 (Nat.le_refl _) _ _ _
    · obtain ⟨i, rfl⟩ : ∃ i, j = i + 1 := ⟨j - 1, by omega⟩
      have e1 : (((i + 1 : Nat) : Int) - 1) = (i : Int) := by omega
      rw [e1]
      obtain ⟨y, hy⟩ := getI (l := l) (k := i) (by omega)
      have hyo := H.out.2.2.2.1 y (List.mem_of_getElem? hy)
      have hyx : (l.take (i + 1) ++ List.replicate (l.length - (i + 1)) (0 : Int))[i]? = some y := by
        rw [List.getElem?_append_left (by rw [List.length_take]; omega), List.getElem?_take, if_pos (by omega), hy]
      have hset := fun v => set_mid (v := v) hy (l.length - (i + 1)) 0
      have hrep := take_rep hy hw2
      obtain ⟨xs, hxs⟩ : ∃ xs, l.take (i + 1) ++ List.replicate (l.length - (i + 1)) (0 : Int) = xs := ⟨_, rfl⟩
      rw [hxs] at ho hleng hyx
      simp only [hxs] at hset
      have hown : wr.ownsRow wq.heap.size 3 1 (.slice p2 n c2) n (cI xs) := by
        unfold IntO at ho
        rwa [hleng] at ho
      rcases own_shape hown with ⟨hv, h0, _⟩ | ⟨g, cap, hv, hg, hglt, hcc, hm, hcel, _⟩
      · omega
      obtain ⟨rfl, rfl⟩ : p2 = some ⟨g, 0, none⟩ ∧ c2 = cap := by simpa using hv
      have hin : i < n := by omega
      have hcx : wr.cell? ⟨g, i, none⟩ = some (.int .i64 y) := (hcel i hin).trans (cI_get hyx)
      have hfx : wr.frozen? ⟨g, i, none⟩ = false := hown.frozenAt i
      have hnc2 : n ≤ c2 := hcc
      have hc2m : c2 ≤ 9223372036854775807 := by unfold maxLen at hm; omega
      · obtain rfl : y = (k : Int) - 1 := H.out.2.2.2.2.1 y (List.mem_of_getElem? hy)
        obtain ⟨s1, t1⟩ := hown.stored i (.int .i64 0)
        rw [← cI_set, hset] at s1
        have hb1 : Below wq.heap.size wq (wr.setCell ⟨g, i, none⟩ (.int .i64 0)) := hb.setCell (p := ⟨g, i, none⟩) hg _
        have HS := Lib.hid (And.intro s1 (And.intro hb1 (And.intro hy hrep)))
        clear ho hown hcel hv hset hxs s1 t1 hb1 hb hw2 hy hrep hyx hleng hlen hyo e1 hcc hm
        go_wp2_with fail
        go_roundw
        case rel =>
          have e3 : l.length - i = l.length - (i + 1) + 1 := by have := H.out.2.1; omega
          refine ⟨i, by have := H.out.2.1; omega, rfl, by rw [e3, List.replicate_succ]; exact HS.out.2.2.2, ?_, HS.out.2.1⟩
          rw [e3, List.replicate_succ]
          unfold IntO
          have : (l.take i ++ 0 :: List.replicate (l.length - (i + 1)) (0 : Int)).length = n := by simp; have := H.out.2.1; omega
          rw [this]; exact HS.out.1
        case measure => simp [intOf]
end Go.Proofs.YtfgoflaeclfggaaGreatDoor
end
section
namespace Go.Proofs.YtfgoflaeclfggaaGreatDoor
open Go.RowKit Go.Extern.Stop Go.Stop Go.Extern WordM NatM

set_option maxRecDepth 100000 in
set_option maxHeartbeats 4000000 in
theorem times_ok (p : Option Addr) (n c m : Nat) (l : List Int) (w : World) (hn : n = l.length) (h : IntV w.heap.size w p c l) (hm : m ≤ 9223372036854775807) (hT : n = 0 ∨ m ≤ 4096 / n) :
    Calls Tryz.prog 32 #[.slice p n c, .int .i64 (m : Int)] w (IntOk w (timesW l m)) := by
  have hle := h.le
  have hcap := h.cap
  unfold maxLen at hcap
  have hnm : n * m ≤ 1000000 := by
    rcases hT with h0 | h0
    · rw [h0, Nat.zero_mul]; omega
    · have := Nat.mul_le_mul_left n h0
      have := Nat.mul_div_le 4096 n
      omega
  have hrep := repeatI p n c m l w hn h hm hnm
  have HR := Lib.hid hrep
  clear hrep h hn hle hnm
  rcases Nat.eq_zero_or_pos n with h0 | h0
  · subst h0
    have hd0 : decide ((0 : Int) < 0) = false := by decide
    go_enter Tryz.func32, Tryz.ntmps32
    go_wp2_with fail
    refine HR.out.mono ?_
    rintro e w1 ⟨p1, c1, rfl, ho1, hb1⟩
    have HO := Lib.hid (And.intro ho1 hb1)
    clear ho1 hb1
    go_wp2_with fail
    go_ret2
    exact ⟨p1, c1, rfl, HO.out.1, HO.out.2⟩
  · have hmq : m ≤ 4096 / n := by omega
    obtain ⟨q, hq⟩ : ∃ q, 4096 / n = q := ⟨_, rfl⟩
    have hq4 : q ≤ 4096 := by rw [← hq]; exact Nat.div_le_self _ _
    have hqi : (4096 : Int) / (n : Int) = (q : Int) := by rw [← hq]; rfl
    have hqi2 : (4096 : Int).tdiv (n : Int) = (q : Int) := by rw [Int.tdiv_eq_ediv_of_nonneg (by omega), hqi]
    have hmq2 : ¬ ((q : Int) < (m : Int)) := by omega
    have hmq3 : decide ((q : Int) < (m : Int)) = false := by rw [decide_eq_false_iff_not]; omega
    have hmq4 : decide (q < m) = false := by rw [decide_eq_false_iff_not]; omega
    have hn0 : ¬ ((n : Int) == 0) = true := by rw [beq_iff_eq]; omega
    clear hq hT hmq
    go_enter Tryz.func32, Tryz.ntmps32
    go_wp2_with fail
    refine HR.out.mono ?_
    rintro e w1 ⟨p1, c1, rfl, ho1, hb1⟩
    have HO := Lib.hid (And.intro ho1 hb1)
    clear ho1 hb1
    go_wp2_with fail
    go_ret2
    exact ⟨p1, c1, rfl, HO.out.1, HO.out.2⟩
set_option maxRecDepth 100000 in
theorem times_neg (p : Option Addr) (n c : Nat) (z : Int) (w : World) (A : Nat → Addr) (hr : Roots w A) (hz : z < 0) :
    Calls Tryz.prog 32 #[.slice p n c, .int .i64 z] w (Err2 w A wordOp 0 3 (.slice none 0 0)) := by
  have HR := Lib.hid hr
  clear hr
  go_enter Tryz.func32, Tryz.ntmps32
  go_wp2_with fail
  refine (new_at wordOp 0 3 _ A HR.out (by omega)).mono ?_
  rintro e w1 ⟨b, rfl, hl1, hb1⟩
  have H := Lib.hid (And.intro hl1 hb1)
  clear hl1 hb1
  go_wp2_with fail
  go_ret2
  exact ⟨_, rfl, H.out.1, H.out.2⟩
set_option maxRecDepth 100000 in
theorem times_big (p : Option Addr) (n c m : Nat) (w : World) (A : Nat → Addr) (hr : Roots w A) (hn : n ≤ 9223372036854775807) (h0 : 0 < n) (hm : 4096 / n < m) :
    Calls Tryz.prog 32 #[.slice p n c, .int .i64 (m : Int)] w (Err2 w A wordOp 0 4 (.slice none 0 0)) := by
  have HR := Lib.hid hr
  obtain ⟨q, hq⟩ : ∃ q, 4096 / n = q := ⟨_, rfl⟩
  have hq4 : q ≤ 4096 := by rw [← hq]; exact Nat.div_le_self _ _
  have hqi : (4096 : Int) / (n : Int) = (q : Int) := by rw [← hq]; rfl
  have hqi2 : (4096 : Int).tdiv (n : Int) = (q : Int) := by rw [Int.tdiv_eq_ediv_of_nonneg (by omega), hqi]
  have hmq2 : ((q : Int) < (m : Int)) := by omega
  have hmq4 : decide (q < m) = true := by rw [decide_eq_true_iff]; omega
  clear hr hq hm
  go_enter Tryz.func32, Tryz.ntmps32
  go_wp2_with fail
  refine (new_at wordOp 0 4 _ A HR.out (by omega)).mono ?_
  rintro e w1 ⟨b, rfl, hl1, hb1⟩
  have H := Lib.hid (And.intro hl1 hb1)
  clear hl1 hb1
  go_wp2_with fail
  go_ret2
  exact ⟨_, rfl, H.out.1, H.out.2⟩
end Go.Proofs.YtfgoflaeclfggaaGreatDoor
end
section
namespace Go.Proofs.YtfgoflaeclfggaaGreatDoor
open Go.RowKit Go.Extern.Stop Go.Stop Go.Extern WordM NatM

/-- a number and no error, both new -/
def NumOk (w : World) (n : Nat) (e : Ending) (w' : World) : Prop :=
  ∃ p c, e = .returned (.tuple #[.slice p (D32 n).length c, .nilIface]) ∧ NatO w.heap.size w' p c (D32 n) ∧ Below w.heap.size w w'
theorem valW_len {k : Nat} {l : List Int} (h4 : k ≤ 4) (h : okW k l) : (D32 (valW k l)).length ≤ l.length := by
  apply D32_len
  exact Nat.lt_of_lt_of_le (valW_lt h) (Nat.pow_le_pow_left (by omega) _)
theorem valW_take {k : Nat} {l : List Int} {j : Nat} {x : Int} (h : l[j]? = some x) : valW k (l.take (j + 1)) = valW k (l.take j) * k + x.toNat := by
  rw [List.take_add_one, h]
  exact valW_snoc k _ x
def IndexRel (w : World) (k : Nat) (l : List Int) (v8 v26 : Value) (wr : World) : Prop :=
  ∃ (j : Nat) (p : Option Addr) (c : Nat), j ≤ l.length ∧ v26 = .int .i64 (j : Int) ∧ v8 = .slice p (D32 (valW k (l.take j))).length c ∧ NatO w.heap.size wr p c (D32 (valW k (l.take j))) ∧ Below w.heap.size w wr
set_option maxRecDepth 100000 in
set_option maxHeartbeats 4000000 in
theorem index_ok (k : Nat) (p : Option Addr) (n c : Nat) (l : List Int) (w : World) (hn : n = l.length) (h : IntV w.heap.size w p c l) (hc : chkW k l = none) (h256 : n ≤ 256) :
    Calls Tryz.prog 24 #[.int .i64 (k : Int), .slice p n c] w (NumOk w (valW k l)) := by
  have hck := check_ok (k : Int) p n c l w hn h hc
  obtain ⟨k', hk', h1, h4, hl, ho⟩ := chkW_none hc
  obtain rfl : k = k' := by omega
  have hle := h.le
  have hcap := h.cap
  unfold maxLen at hcap
  have hnc : n ≤ c := by omega
  have H := Lib.hid (And.intro h (And.intro ho hn))
  have HCK := Lib.hid hck
  clear h hc hl ho hck hn hle hk'
  go_enter Tryz.func24, Tryz.ntmps24
  go_wp2_with fail
  refine HCK.out.mono ?_
  rintro e w1 ⟨rfl, hb1⟩
  have HB1 := Lib.hid hb1
  clear hb1
  go_wp2_with fail
  refine (from_any k w1 (by omega)).mono ?_
  rintro e w2 ⟨p7, c7, rfl, ho7, hb2⟩
  have hkl : (D32 k).length ≤ 100000 := by
    have := D32_len (n := k) (k := 1) (by omega)
    omega
  have HB2 := Lib.hid (And.intro (HB1.out.trans (hb2.mono HB1.out.size)) (And.intro ho7.toV hkl))
  clear hb2 ho7 hkl
  go_wp2_with fail
  go_loopw [8, 26] (fun v8 v26 wr => IndexRel w2 k l v8 v26 wr) (fun _ v _ => n - (intOf v).toNat)
  case atStart => exact ⟨0, none, 0, Nat.zero_le _, rfl, by rw [List.take_zero, show valW k [] = 0 from rfl, D32_nil.2 rfl]; rfl, by rw [List.take_zero, show valW k [] = 0 from rfl, D32_nil.2 rfl]; exact NatO.nothing _ _, Below.refl _ _⟩
  case round =>
    obtain ⟨j, q, cq, hj, rfl, rfl, hoq, hb⟩ := hrel
    have hjn : j ≤ n := by have := H.out.2.2; omega
    by_cases hlt : j < n
    · have hnl := H.out.2.2
      obtain ⟨b, off, rfl, hbb, hcc⟩ := ((H.out.1.next HB2.out.1).next hb).cell (by rintro rfl; simp at hnl; omega)
      obtain ⟨x, hx⟩ := getI (l := l) (k := j) (by omega)
      have hcx := hcc j x hx
      have hxo := H.out.2.1 x (List.mem_of_getElem? hx)
      obtain ⟨y, rfl⟩ : ∃ y : Nat, x = (y : Int) := ⟨x.toNat, by omega⟩
      have hst := valW_take (k := k) hx
      rw [Int.toNat_natCast] at hst
      have hvl := valW_len h4 (okW_take H.out.2.1 j)
      have hvl2 := valW_len h4 (okW_take H.out.2.1 (j + 1))
      rw [List.length_take] at hvl hvl2
      obtain ⟨v, hv⟩ : ∃ v, valW k (l.take j) = v := ⟨_, rfl⟩
      rw [hv] at hoq hst hvl ⊢
      have hmul := mul_any q p7 cq c7 (D32 v) (D32 k) wr hoq.toV (HB2.out.2.1.next hb) (by omega) HB2.out.2.2
      rw [V32_D32, V32_D32] at hmul
      have hy4 : y ≤ 4 := by omega
      have hvm : (D32 (v * k)).length ≤ 100000 := by
        have h1 : v * k ≤ v * k + y := Nat.le_add_right _ _
        rw [hst] at hvl2
        rcases Nat.lt_or_ge 100000 (D32 (v * k)).length with h2 | h2
        · have := cmp_len (m := v * k + y) (n := v * k) (by omega)
          omega
        · exact h2
      have HS := Lib.hid (And.intro hst (And.intro hb (And.intro hmul hvm)))
      clear hcc hx hxo hst hvl hvl2 hv hoq hb hmul hvm hnl
      go_wp2_with fail
      refine HS.out.2.2.1.mono ?_
      rintro e w3 ⟨p3, c3, rfl, ho3, hb3⟩
      have HM := Lib.hid (And.intro ho3 hb3)
      clear ho3 hb3
      go_wp2_with fail
      refine (from_any y w3 (by omega)).mono ?_
      rintro e w4 ⟨p4, c4, rfl, ho4, hb4⟩
      have hyl : (D32 y).length ≤ 100000 := by
        have := D32_len (n := y) (k := 1) (by omega)
        omega
      have hadd := add_any p3 p4 c3 c4 (D32 (v * k)) (D32 y) w4 (HM.out.1.toV.next hb4) ho4.toV HS.out.2.2.2 hyl
      rw [V32_D32, V32_D32] at hadd
      have HA := Lib.hid (And.intro hadd (HM.out.2.trans (hb4.mono HM.out.2.size)))
      clear ho4 hb4 hyl hadd
      go_wp2_with fail
      refine HA.out.1.mono ?_
      rintro e w5 ⟨p5, c5, rfl, ho5, hb5⟩
      have hbb5 : Below w2.heap.size w2 w5 := HS.out.2.1.trans ((HA.out.2.trans (hb5.mono HA.out.2.size)).mono HS.out.2.1.size)
      have ho5' : NatO w2.heap.size w5 p5 c5 (D32 (v * k + y)) := ho5.base (Nat.le_trans HS.out.2.1.size HA.out.2.size)
      have HF := Lib.hid (And.intro ho5' hbb5)
      clear ho5 ho5' hb5 hbb5
      go_wp2_with fail
      go_roundw
      case rel => exact ⟨j + 1, p5, c5, by have := H.out.2.2; omega, by go_num, by rw [HS.out.1], by rw [HS.out.1]; exact HF.out.1, HF.out.2⟩
      case measure => simp [intOf]; omega
    · obtain rfl : j = n := by omega
      have he : l.take j = l := by rw [H.out.2.2, List.take_length]
      rw [he] at hoq ⊢
      have HF := Lib.hid (And.intro (hoq.base HB2.out.1.size) (HB2.out.1.trans (hb.mono HB2.out.1.size)))
      clear hoq hb he
      go_wp2_with fail
      go_ret2
      exact ⟨q, cq, rfl, HF.out.1, HF.out.2⟩
set_option maxRecDepth 100000 in
theorem index_bad (k : Int) (p : Option Addr) (n c : Nat) (l : List Int) (w : World) (A : Nat → Addr) (hr : Roots w A) (hn : n = l.length) (h : IntV w.heap.size w p c l) (i m : Nat) (hc : chkW k l = some (i, m)) :
    Calls Tryz.prog 24 #[.int .i64 k, .slice p n c] w (Err2 w A wordOp i m (.slice none 0 0)) := by
  have hck := check_bad k p n c l w A hr hn h i m hc
  have HCK := Lib.hid hck
  clear h hc hck hr hn
  go_enter Tryz.func24, Tryz.ntmps24
  go_wp2_with fail
  refine HCK.out.mono ?_
  rintro e w1 ⟨b, rfl, hl1, hb1⟩
  have H := Lib.hid (And.intro hl1 hb1)
  clear hl1 hb1
  go_wp2_with fail
  go_ret2
  exact ⟨_, rfl, H.out.1, H.out.2⟩
set_option maxRecDepth 100000 in
theorem index_big (k : Int) (p : Option Addr) (n c : Nat) (l : List Int) (w : World) (A : Nat → Addr) (hr : Roots w A) (hn : n = l.length) (h : IntV w.heap.size w p c l) (hc : chkW k l = none) (h256 : 256 < n) (hn2 : n ≤ 9223372036854775807) :
    Calls Tryz.prog 24 #[.int .i64 k, .slice p n c] w (Err2 w A wordOp 0 4 (.slice none 0 0)) := by
  have hck := check_ok k p n c l w hn h hc
  have HCK := Lib.hid (And.intro hck hr)
  clear h hc hck hr hn
  go_enter Tryz.func24, Tryz.ntmps24
  go_wp2_with fail
  refine HCK.out.1.mono ?_
  rintro e w1 ⟨rfl, hb1⟩
  have H1 := Lib.hid (And.intro hb1 (HCK.out.2.below hb1))
  clear hb1
  go_wp2_with fail
  refine (new_at wordOp 0 4 w1 A H1.out.2 (by omega)).mono ?_
  rintro e w2 ⟨b, rfl, hl1, hb2⟩
  have H := Lib.hid (And.intro hl1 (H1.out.1.trans (hb2.mono H1.out.1.size)))
  clear hl1 hb2
  go_wp2_with fail
  go_ret2
  exact ⟨_, rfl, H.out.1, H.out.2⟩
end Go.Proofs.YtfgoflaeclfggaaGreatDoor
end
section
namespace Go.Proofs.YtfgoflaeclfggaaGreatDoor
open Go.RowKit Go.Extern.Stop Go.Stop Go.Extern WordM NatM
attribute [local go_sem ↓] Go.wp_at_zero Go.wp_at_succ

def IndexRefRel (w : World) (k n : Nat) (l : List Int) (v7 v8 : Value) (wr : World) : Prop :=
  ∃ (j : Nat) (q : Option Addr) (cq : Nat), j ≤ n ∧ v8 = .int .i64 (j : Int) ∧ v7 = .slice q (D32 (valW k (l.take j))).length cq ∧ NatO w.heap.size wr q cq (D32 (valW k (l.take j))) ∧ Below w.heap.size w wr
set_option maxRecDepth 100000 in
set_option maxHeartbeats 8000000 in
theorem index_ref_ok (k : Nat) (p : Option Addr) (n c : Nat) (l : List Int) (w : World) (hn : n = l.length) (h : IntV w.heap.size w p c l) (hc : chkW k l = none) (h256 : n ≤ 256) :
    Calls Tryz.prog 25 #[.int .i64 (k : Int), .slice p n c] w (RefOk2 w (valW k l)) := by
  have hc' := hc
  obtain ⟨k', hk', h1, h4, hl, ho⟩ := chkW_none hc
  obtain rfl : k = k' := by omega
  have hle := h.le
  have hcap := h.cap
  unfold maxLen at hcap
  have hnc : n ≤ c := by omega
  have H := Lib.hid (And.intro h (And.intro hn hc'))
  have HW := Lib.hid ho
  have hwk : IntKind.u64.wrap (k : Int) = (k : Int) := by rw [IntKind.wrap_u64]; omega
  clear h hc hc' hl ho hn hle hk'
  go_enter Tryz.func25, Tryz.ntmps25
  go_wp2_with fail
  obtain ⟨w0, hw0⟩ : ∃ w0, w0 = w.alloc (.cells #[.int .i64 0, .slice none 0 0, .slice none 0 0] 56) := ⟨_, rfl⟩
  have hb0 : Below w.heap.size w w0 := by rw [hw0]; exact (Below.refl _ _).alloc (Nat.le_refl _) _
  have hs0 : w.heap.size < w0.heap.size := by rw [hw0]; simp
  have hE0 : Err3 w0 w.heap.size (.int .i64 0) (.slice none 0 0) (.slice none 0 0) := by rw [hw0]; exact Err3.new w
  rw [← hw0]
  have HE := Lib.hid (And.intro hE0 hb0)
  clear hw0 hE0 hb0
  have hck : Calls Tryz.prog 22 #[.int .i64 (k : Int), .slice p n c] w0 (Tells (.agg #[.int .i64 0, .slice none 0 0, .slice none 0 0]) w0) := check_ref_ok (k : Int) p n c l w0 H.out.2.1 (H.out.1.next HE.out.2) H.out.2.2
  refine hck.mono ?_
  clear hck
  rintro e w1 ⟨rfl, hb1⟩
  obtain ⟨wB, hwB⟩ : ∃ x, x = w1.alloc (.cells #[.int .i64 0, .slice none 0 0, .slice none 0 0] 56) := ⟨_, rfl⟩
  have hbB : Below w1.heap.size w1 wB := by rw [hwB]; exact (Below.refl _ _).alloc (Nat.le_refl _) _
  have hs1 := hb1.size
  have hsB : w1.heap.size < wB.heap.size := by rw [hwB]; simp
  have hEB : Err3 wB w1.heap.size (.int .i64 0) (.slice none 0 0) (.slice none 0 0) := by rw [hwB]; exact ⟨heap_newN w1 _⟩
  have hE1 := (HE.out.1.next hb1).next hbB
  have hbw : Below w.heap.size w wB := (HE.out.2.trans (hb1.mono (by omega))).trans (hbB.mono (by omega))
  obtain ⟨_, hk0, hk1, hk2⟩ := hEB.facts
  have H1 := Lib.hid (And.intro hE1 hbw)
  clear hb1 hbB hEB hE1 hbw
  go_upto_region 2 with fail
  rw [← hwB]
  clear hwB
  go_wp2_with fail
  refine (bad_no (.slice none 0 0) (.slice none 0 0) wB).mono ?_
  rintro e wq ⟨rfl, hb2⟩
  have hE2 := H1.out.1.next hb2
  have hbw2 : Below w.heap.size w wq := H1.out.2.trans (hb2.mono (by omega))
  have H2 := Lib.hid (And.intro hE2 hbw2)
  clear hb2 hE2 hbw2 hk0 hk1 hk2
  have hsq : w.heap.size < wq.heap.size := heap_ltN H2.out.1.heap
  go_wp2_with fail
  go_loopw [7, 8] (fun v7 v8 wr => IndexRefRel wq k n l v7 v8 wr) (fun _ v _ => n - (intOf v).toNat)
  case atStart => exact ⟨0, none, 0, Nat.zero_le _, rfl, by rw [List.take_zero, show valW k [] = 0 from rfl, D32_nil.2 rfl]; rfl, by rw [List.take_zero, show valW k [] = 0 from rfl, D32_nil.2 rfl]; exact NatO.nothing _ _, Below.refl _ _⟩
  case round =>
    obtain ⟨j, q, cq, hj, rfl, rfl, hoq, hb⟩ := hrel
    by_cases hlt : j < n
    · have hnl := H.out.2.1
      obtain ⟨b, off, rfl, hbb, hcc⟩ := ((H.out.1.next H2.out.2).next hb).cell (by rintro rfl; simp at hnl; omega)
      obtain ⟨x, hx⟩ := getI (l := l) (k := j) (by omega)
      have hcx := hcc j x hx
      have hxo := HW.out x (List.mem_of_getElem? hx)
      obtain ⟨y, rfl⟩ : ∃ y : Nat, x = (y : Int) := ⟨x.toNat, by omega⟩
      have hst := valW_take (k := k) hx
      rw [Int.toNat_natCast] at hst
      have hvl := valW_len h4 (okW_take HW.out j)
      have hvl2 := valW_len h4 (okW_take HW.out (j + 1))
      rw [List.length_take] at hvl hvl2
      obtain ⟨v, hv⟩ : ∃ v, valW k (l.take j) = v := ⟨_, rfl⟩
      rw [hv] at hoq hst hvl ⊢
      have hy4 : y ≤ 4 := by omega
      have hvl' : (D32 v).length ≤ 100000 := by omega
      have hvm : (D32 (v * k)).length ≤ 100000 := by
        have h1 : v * k ≤ v * k + y := Nat.le_add_right _ _
        rw [hst] at hvl2
        rcases Nat.lt_or_ge 100000 (D32 (v * k)).length with h2 | h2
        · have := cmp_len (m := v * k + y) (n := v * k) (by omega)
          omega
        · exact h2
      have hwy : IntKind.u64.wrap (y : Int) = (y : Int) := by rw [IntKind.wrap_u64]; omega
      have hkl : (D32 k).length ≤ 100000 := by
        have := D32_len (n := k) (k := 1) (by omega)
        omega
      have hyl : (D32 y).length ≤ 100000 := by
        have := D32_len (n := y) (k := 1) (by omega)
        omega
      have hf1 : ∀ wx : World, Below wr.heap.size wr wx → Calls Tryz.prog 75 #[.int .u64 (k : Int)] wx (NatPost wx k) := fun wx _ => from_ref k wx (by omega)
      have hf2 : ∀ (wx : World) (pa : Option Addr) (ca : Nat), Below wr.heap.size wr wx → NatV wx.heap.size wx pa ca (D32 k) → Calls Tryz.prog 74 #[.slice q (D32 v).length cq, .slice pa (D32 k).length ca] wx (NatPost wx (v * k)) := fun wx pa ca hbx hk => by
        have := mul_ref q pa cq ca (D32 v) (D32 k) wx (hoq.next hbx).toV hk (by omega) (by omega)
        rwa [V32_D32, V32_D32] at this
      have hf3 : ∀ wx : World, Below wr.heap.size wr wx → Calls Tryz.prog 75 #[.int .u64 (y : Int)] wx (NatPost wx y) := fun wx _ => from_ref y wx (by omega)
      have hf4 : ∀ (wx : World) (pa pb : Option Addr) (ca cb : Nat), NatV wx.heap.size wx pa ca (D32 (v * k)) → NatV wx.heap.size wx pb cb (D32 y) → Calls Tryz.prog 73 #[.slice pa (D32 (v * k)).length ca, .slice pb (D32 y).length cb] wx (NatPost wx (v * k + y)) := fun wx pa pb ca cb h1 h2 => by
        have := add_ref pa pb ca cb (D32 (v * k)) (D32 y) wx h1 h2 (by omega) (by omega)
        rwa [V32_D32, V32_D32] at this
      have hd0 : Below wr.heap.size wr wr.drew := (Below.refl _ _).drew
      have hxc : ∀ wx : World, Below wr.heap.size wr wx → wx.cell? ⟨b, off + j, none⟩ = some (.int .i64 (y : Int)) := fun wx hbx => (hbx.cell (p := ⟨b, off + j, none⟩) hbb).trans hcx
      have HS := Lib.hid (And.intro hst hb)
      clear hcc hx hxo hst hvl hvl2 hv hoq hb hvm hnl hvl' hkl hyl
      go_wp2_with fail
      go_region_held3 (fun w' => w'.cell? ⟨b, off + j, none⟩ = some (.int .i64 (y : Int))) (first | exact hxc _ (by assumption) | exact hxc _ (Below.refl _ _) | exact hxc _ hd0 | go_keep) (first
        | (go_at_call 75; have hhb := hBb; refine (hf3 _ hBb).mono ?_; rintro e wc ⟨pc, cc, rfl, hoc, hbc⟩; have hBc : Below wr.heap.size wr wc := hBb.trans (hbc.mono hBb.size))
        | (go_at_call 75; refine (hf1 _ (by first | assumption | exact Below.refl _ _)).mono ?_; rintro e wa ⟨pa, ca, rfl, hoa, hba⟩; have hBa : Below wr.heap.size wr wa := (by first | exact hba | exact hd0.trans (hba.mono hd0.size)))
        | (go_at_call 74; refine (hf2 _ pa ca hBa hoa.toV).mono ?_; rintro e wb ⟨pb, cb, rfl, hob, hbb'⟩; have hBb : Below wr.heap.size wr wb := hBa.trans (hbb'.mono hBa.size))
        | (go_at_call 73; refine (hf4 _ pb pc cb cc (hob.next hbc).toV hoc.toV).mono ?_; rintro e wd ⟨pd, cd, rfl, hod, hbd⟩; have hBd : Below wr.heap.size wr wd := hBc.trans (hbd.mono hBc.size)))
      all_goals
        have HF := Lib.hid (And.intro (hod.base (Nat.le_trans HS.out.2.size hBc.size)) (HS.out.2.trans (hBd.mono HS.out.2.size)))
        clear hf1 hf2 hf3 hf4 hxc hba hbb' hbc hbd hBa hBb hBc hBd hoa hob hoc hod
        go_wp2_with fail
        go_roundw
        case rel => exact ⟨j + 1, pd, cd, by omega, by go_num, by rw [HS.out.1], by rw [HS.out.1]; exact HF.out.1, HF.out.2⟩
        case measure => simp [intOf]; omega
    · obtain rfl : j = n := by omega
      have he : l.take j = l := by rw [H.out.2.1, List.take_length]
      rw [he] at hoq ⊢
      obtain ⟨⟨hf0, hf1, hf2⟩, hc0, hc1, hc2⟩ := (H2.out.1.next hb).facts
      have HF := Lib.hid (And.intro hoq (H2.out.2.trans (hb.mono (by omega))))
      clear hoq hb he
      go_wp2_with fail
      refine bodyPost_ret (v := .tuple #[.slice q (D32 (valW k l)).length cq, noErr]) (by simp [results, Tryz.results25, go_sem, hc0, hc1, hc2, noErr]) rfl ⟨_, _, rfl, ?_, ?_⟩
      · exact (HF.out.1.put3 (by omega) _ _ _).base (by omega)
      · exact put3_below HF.out.2 (Nat.le_refl _) _ _ _
end Go.Proofs.YtfgoflaeclfggaaGreatDoor
end
section
namespace Go.Proofs.YtfgoflaeclfggaaGreatDoor
open Go.RowKit Go.Extern.Stop Go.Stop Go.Extern WordM

set_option maxRecDepth 100000 in
set_option maxHeartbeats 4000000 in
theorem next_full (k : Nat) (p : Option Addr) (n c : Nat) (l : List Int) (w : World) (A : Nat → Addr) (hr : Roots w A) (hn : n = l.length) (h : IntV w.heap.size w p c l) (hc : chkW k l = none) (h4096 : l.length = 4096) (hlast : l = List.replicate l.length ((k : Int) - 1)) :
    Calls Tryz.prog 15 #[.int .i64 (k : Int), .slice p n c] w (Err2 w A wordOp 0 4 (.slice none 0 0)) := by
  obtain ⟨i0, hi, hz0, hz1, hz2⟩ := info_parts infoI
  have hck := check_ok (k : Int) p n c l w hn h hc
  obtain ⟨k', hk', h1, h4, hl, ho⟩ := chkW_none hc
  obtain rfl : k = k' := by omega
  have hall : ∀ x ∈ l, x = (k : Int) - 1 := by
    intro x hx
    rw [hlast] at hx
    exact List.eq_of_mem_replicate hx
  have H := Lib.hid (And.intro h (And.intro ho (And.intro hn (And.intro hall (And.intro h4096 hr)))))
  have hn4 : n ≤ 4096 := by omega
  have HCK := Lib.hid hck
  clear h hc hl ho hck hlast hk' hn h4096 hall hr
  go_enter Tryz.func15, Tryz.ntmps15
  go_wp2_with fail
  refine HCK.out.mono ?_
  rintro e w1 ⟨rfl, hb1⟩
  have hcl := cloneI_any p c l w1 (H.out.1.next hb1) (by have := H.out.2.2.1; omega)
  rw [← H.out.2.2.1] at hcl
  have HB1 := Lib.hid (And.intro hb1 hcl)
  clear hb1 hcl
  go_wp2_with fail
  refine HB1.out.2.mono ?_
  rintro e w2 ⟨p2, c2, rfl, ho2, hb2⟩
  have hb02 : Below w.heap.size w w2 := HB1.out.1.trans (hb2.mono HB1.out.1.size)
  have ho02 := ho2.base HB1.out.1.size
  have hlen := H.out.2.2.1
  obtain ⟨L, hL⟩ : ∃ L, l.length = L := ⟨_, rfl⟩
  have hLn : L = n := by omega
  rw [hL, hLn]
  have HO := Lib.hid (And.intro hb02 ho02)
  clear hb2 ho2 hb02 ho02 hlen hL hLn
  go_wp2_with fail
  go_loopw [8] (fun v wr => NextRel w k l p2 c2 v wr) (fun v _ => (intOf v + 1).toNat)
  case atStart =>
    have hlen := H.out.2.2.1
    exact ⟨l.length, Nat.le_refl _, by rw [hlen], by simp, by simp; exact HO.out.2, HO.out.1⟩
  case round =>
    obtain ⟨j, hj, rfl, hw2, ho, hb⟩ := hrel
    have hlen := H.out.2.2.1
    have hleng : (l.take j ++ List.replicate (l.length - j) (0 : Int)).length = n := by simp; omega
    rcases Nat.eq_zero_or_pos j with rfl | hj0
    · -- all were k - 1
      obtain rfl : n = 4096 := by have := H.out.2.2.2.2.1; omega
      have hown : wr.ownsRow w.heap.size 3 1 (.slice p2 4096 c2) 4096 (cI (l.take 0 ++ List.replicate (l.length - 0) (0 : Int))) := by
        unfold IntO at ho
        rwa [hleng] at ho
      have hcap := ho.toV.cap
      unfold maxLen at hcap
      have hHR := Lib.hid (H.out.2.2.2.2.2.below hb)
      have HX := Lib.hid hb
      clear ho hw2 hb hlen hleng hown
      go_wp2_with fail
      refine (new_at wordOp 0 4 wr A hHR.out (by omega)).mono ?_
      rintro e w3 ⟨b, rfl, hl1, hb2⟩
      have HF := Lib.hid (And.intro hl1 (HX.out.trans (hb2.mono HX.out.size)))
      clear hl1 hb2
      go_wp2_with fail
      go_ret2
      exact ⟨_, rfl, HF.out.1, HF.out.2⟩
    · obtain ⟨i, rfl⟩ : ∃ i, j = i + 1 := ⟨j - 1, by omega⟩
      have e1 : (((i + 1 : Nat) : Int) - 1) = (i : Int) := by omega
      rw [e1]
      obtain ⟨y, hy⟩ := getI (l := l) (k := i) (by omega)
      have hyo := H.out.2.1 y (List.mem_of_getElem? hy)
      have hyx : (l.take (i + 1) ++ List.replicate (l.length - (i + 1)) (0 : Int))[i]? = some y := by
        rw [List.getElem?_append_left (by rw [List.length_take]; omega), List.getElem?_take, if_pos (by omega), hy]
      have hset := fun v => set_mid (v := v) hy (l.length - (i + 1)) 0
      have hrep := take_rep hy hw2
      obtain ⟨xs, hxs⟩ : ∃ xs, l.take (i + 1) ++ List.replicate (l.length - (i + 1)) (0 : Int) = xs := ⟨_, rfl⟩
      rw [hxs] at ho hleng hyx
      simp only [hxs] at hset
      have hown : wr.ownsRow w.heap.size 3 1 (.slice p2 n c2) n (cI xs) := by
        unfold IntO at ho
        rwa [hleng] at ho
      rcases own_shape hown with ⟨hv, h0, _⟩ | ⟨g, cap, hv, hg, hglt, hcc, hm, hcel, _⟩
      · omega
      obtain ⟨rfl, rfl⟩ : p2 = some ⟨g, 0, none⟩ ∧ c2 = cap := by simpa using hv
      have hin : i < n := by omega
      have hcx : wr.cell? ⟨g, i, none⟩ = some (.int .i64 y) := (hcel i hin).trans (cI_get hyx)
      have hfx : wr.frozen? ⟨g, i, none⟩ = false := hown.frozenAt i
      have hnc2 : n ≤ c2 := hcc
      have hc2m : c2 ≤ 9223372036854775807 := by unfold maxLen at hm; omega
      · obtain rfl : y = (k : Int) - 1 := H.out.2.2.2.1 y (List.mem_of_getElem? hy)
        obtain ⟨s1, t1⟩ := hown.stored i (.int .i64 0)
        rw [← cI_set, hset] at s1
        have hb1 : Below w.heap.size w (wr.setCell ⟨g, i, none⟩ (.int .i64 0)) := hb.setCell (p := ⟨g, i, none⟩) hg _
        have HS := Lib.hid (And.intro s1 (And.intro hb1 (And.intro hy hrep)))
        clear ho hown hcel hv hset hxs s1 t1 hb1 hb hw2 hy hrep hyx hleng hlen hyo e1 hcc hm
        go_wp2_with fail
        go_roundw
        case rel =>
          have e3 : l.length - i = l.length - (i + 1) + 1 := by have := H.out.2.2.1; omega
          refine ⟨i, by have := H.out.2.2.1; omega, rfl, by rw [e3, List.replicate_succ]; exact HS.out.2.2.2, ?_, HS.out.2.1⟩
          rw [e3, List.replicate_succ]
          unfold IntO
          have : (l.take i ++ 0 :: List.replicate (l.length - (i + 1)) (0 : Int)).length = n := by simp; have := H.out.2.2.1; omega
          rw [this]; exact HS.out.1
        case measure => simp [intOf]
end Go.Proofs.YtfgoflaeclfggaaGreatDoor
end
section
namespace Go.Proofs.YtfgoflaeclfggaaGreatDoor
open Go.RowKit Go.Extern.Stop Go.Stop Go.Extern WordM NatM

def IsI (l : List Int) (w : World) (u : Value) : Prop := ∃ p c n, u = .slice p n c ∧ n = l.length ∧ IntV w.heap.size w p c l
def IsN (l : List Nat) (w : World) (u : Value) : Prop := ∃ p c, u = .slice p l.length c ∧ NatV w.heap.size w p c l
def IsS (s : ByteArray) (_ : World) (u : Value) : Prop := u = .string s
abbrev OErr := Option (List (ByteArray × Int) × Nat)
/-- the program's answer: a value, and an error that stands for x -/
def ProgP (A : Nat → Addr) (x : OErr) (F : World → Value → Prop) (w : World) (e : Ending) (w' : World) : Prop :=
  ∃ u v, e = .returned (.tuple #[u, v]) ∧ F w' u ∧ PChn w' A x v ∧ Below w.heap.size w w'
/-- the document's -/
def RefP (x : OErr) (F : World → Value → Prop) (w : World) (e : Ending) (w' : World) : Prop :=
  ∃ u a po pa n, e = .returned (.tuple #[u, .agg #[.int .i64 a, .slice po n n, .slice pa n n]]) ∧ F w' u ∧ WChn w' x a po pa n ∧ Below w.heap.size w w'
def badW (i : Int) (m : Nat) : OErr := some ([(wordOp, i)], m)
theorem IsI.nil (w : World) : IsI [] w (.slice none 0 0) := ⟨none, 0, 0, rfl, rfl, (IntO.nothing w.heap.size w).toV⟩
theorem IsN.nil (w : World) : IsN [] w (.slice none 0 0) := ⟨none, 0, rfl, (NatO.nothing w.heap.size w).toV⟩
theorem progP_bad {A : Nat → Addr} {F : World → Value → Prop} {w w' : World} {u : Value} {i : Int} {m : Nat} {e : Ending} (hF : F w' u) (h : Err2 w A wordOp i m u e w') : ProgP A (badW i m) F w e w' := by
  obtain ⟨b, he, hl, hb⟩ := h
  exact ⟨_, _, he, hF, ⟨b, rfl, Chn.one hl⟩, hb⟩
theorem refP_bad {F : World → Value → Prop} {w w' : World} {u : Value} {i : Int} {m : Nat} {e : Ending} (hF : F w' u) (h : RefErrW2 w u i (m : Int) e w') : RefP (badW i m) F w e w' := by
  obtain ⟨v, he, g, g', rfl, _, hw, hb⟩ := h
  exact ⟨_, _, _, _, _, he, hF, ⟨rfl, rfl, hw⟩, hb⟩
theorem progI_ok {A : Nat → Addr} {l : List Int} {w w' : World} {e : Ending} (h : IntOk w l e w') : ProgP A none (IsI l) w e w' := by
  obtain ⟨p, c, he, ho, hb⟩ := h
  exact ⟨_, _, he, ⟨p, c, _, rfl, rfl, ho.toV⟩, rfl, hb⟩
theorem refI_ok {l : List Int} {w w' : World} {e : Ending} (h : RefIOk w l e w') : RefP none (IsI l) w e w' := by
  obtain ⟨p, c, he, ho, hb⟩ := h
  exact ⟨_, 0, none, none, 0, he, ⟨p, c, _, rfl, rfl, ho.toV⟩, ⟨rfl, rfl, rfl, rfl⟩, hb⟩
theorem err_laidW {w2 w3 : World} {a b c : Value} (hb : Below (w2.alloc (.cells #[a, b, c] 56)).heap.size (w2.alloc (.cells #[a, b, c] 56)) w3) : w3.cell? ⟨w2.heap.size, 0, none⟩ = some a ∧ w3.cell? ⟨w2.heap.size, 1, none⟩ = some b ∧ w3.cell? ⟨w2.heap.size, 2, none⟩ = some c := by
  have h := fun j => (hb.cell (p := ⟨w2.heap.size, j, none⟩) (by simp)).trans (cell_alloc_at w2 #[a, b, c] 56 w2.heap.size j rfl)
  exact ⟨h 0, h 1, h 2⟩
def kind8 (k : Int) : Int := (k.tmod 8 + 8).tmod 8
set_option maxRecDepth 100000 in
set_option maxHeartbeats 8000000 in
theorem playsW_1 (k K N : Int) (p q r : Option Addr) (n c m d f : Nat) (b : List Nat) (s : ByteArray) (l : List Int) (x : OErr) (w : World) (A : Nat → Addr) (hr : Roots w A) (hT : TypeVar w) (hx : ∀ y, x = some y → 1 ≤ y.2 ∧ y.2 ≤ 11)
    (hpf : ∀ W : World, Below w.heap.size w W → Calls Tryz.prog 15 #[.int .i64 K, .slice p n c] W (ProgP A x (IsI l) W)) (hrf : ∀ W : World, Below w.heap.size w W → Calls Tryz.prog 23 #[.int .i64 K, .slice p n c] W (RefP x (IsI l) W)) (hk : kind8 k = 1) :
    Calls Tryz.prog 8 #[.agg #[.int .i64 k, .int .i64 K, .int .i64 N, .slice p n c, .slice q m d, .slice r b.length f, .string s]] w (Tells (.bool true) w) := by
  have hk' : (k.tmod 8 + 8).tmod 8 = 1 := hk
  have hkl : -8 < k.tmod 8 := Int.lt_tmod_of_pos k (by omega)
  have hkg : k.tmod 8 < 8 := Int.tmod_lt_of_pos k (by omega)
  have HP := Lib.hid (And.intro hpf hrf)
  have HT := Lib.hid (And.intro hr (And.intro hT hx))
  clear hpf hrf hr hT hx hk
  go_enter Tryz.func8, Tryz.ntmps8
  obtain ⟨w0, hw0⟩ : ∃ w0, w0 = w.alloc (.cells #[.int .i64 k, .int .i64 K, .int .i64 N, .slice p n c, .slice q m d, .slice r b.length f, .string s] 28) := ⟨_, rfl⟩
  have hb0 : Below w.heap.size w w0 := by rw [hw0]; exact (Below.refl _ _).alloc (Nat.le_refl _) _
  have hs0 : w0.heap.size = w.heap.size + 1 := by rw [hw0]; simp
  have hC1 : ∀ wx : World, Below w0.heap.size w0 wx → wx.cell? ⟨w.heap.size, 1, none⟩ = some (.int .i64 K) := fun wx hb => by
    rw [hb.cell (p := ⟨w.heap.size, 1, none⟩) (by simp; omega), hw0, cell_alloc_at _ _ _ _ _ rfl]; rfl
  have hC3 : ∀ wx : World, Below w0.heap.size w0 wx → wx.cell? ⟨w.heap.size, 3, none⟩ = some (.slice p n c) := fun wx hb => by
    rw [hb.cell (p := ⟨w.heap.size, 3, none⟩) (by simp; omega), hw0, cell_alloc_at _ _ _ _ _ rfl]; rfl
  have HC := Lib.hid (And.intro hC1 hC3)
  have hA1 := hC1 w0 (Below.refl _ _)
  have hA3 := hC3 w0 (Below.refl _ _)
  have H0 := Lib.hid hb0
  clear hb0 hC1 hC3
  go_wp2_with fail
  rw [← hw0]
  clear hw0
  go_wp2_with fail
  refine (HP.out.1 w0 H0.out).mono ?_
  rintro e1 w1 ⟨u1, v1, rfl, ⟨p1, c1, n1, rfl, hn1, hv1⟩, hp1, hb1⟩
  have hB1 := HC.out.1 w1 hb1
  have hB3 := HC.out.2 w1 hb1
  have H1 := Lib.hid (And.intro (And.intro hv1 hn1) (And.intro hp1 (And.intro hb1 (H0.out.trans (hb1.mono H0.out.size)))))
  clear hv1 hn1 hp1 hb1
  go_wp2_with fail
  refine (HP.out.2 w1 H1.out.2.2.2).mono ?_
  rintro e2 w2 ⟨u2, a, po, pa, z, rfl, ⟨p2, c2, n2, rfl, hn2, hv2⟩, hw2, hb2⟩
  have H2 := Lib.hid (And.intro (And.intro hv2 hn2) (And.intro hw2 (And.intro hb2 (H1.out.2.2.2.trans (hb2.mono H1.out.2.2.2.size)))))
  clear hv2 hn2 hw2 hb2
  go_wp2_with fail
  have hbA : Below w2.heap.size w2 (w2.alloc (.cells #[.int .i64 a, .slice po z z, .slice pa z z] 56)) := (Below.refl _ _).alloc (Nat.le_refl _) _
  have hsame := ints_any p1 p2 n1 n2 c1 c2 l l _ H1.out.1.2 H2.out.1.2 ((H1.out.1.1.next H2.out.2.2.1).next hbA) (H2.out.1.1.next hbA)
  rw [sameI_self] at hsame
  refine hsame.mono ?_
  clear hsame
  rintro e3 w3 ⟨rfl, hb3⟩
  obtain ⟨hE0, hE1, hE2⟩ := err_laidW hb3
  have hb23 : Below w2.heap.size w2 w3 := hbA.trans (hb3.mono (by simp))
  have hb13 : Below w1.heap.size w1 w3 := H2.out.2.2.1.trans (hb23.mono H2.out.2.2.1.size)
  have hb03 : Below w.heap.size w w3 := H2.out.2.2.2.trans (hb23.mono H2.out.2.2.2.size)
  have HI := Lib.hid (And.intro (is_chn (HT.out.1.below hb03) (HT.out.2.1.below hb03) HT.out.2.2 (H1.out.2.1.next hb13) (H2.out.2.1.next hb23)) hb03)
  clear hb3 hb23 hb13 hb03 hbA
  go_wp2_with fail
  refine HI.out.1.mono ?_
  rintro e4 w4 ⟨rfl, hb4⟩
  have HZ := Lib.hid (HI.out.2.trans (hb4.mono HI.out.2.size))
  clear hb4
  go_wp2_with fail
  go_ret
  exact ⟨rfl, HZ.out⟩
set_option maxRecDepth 100000 in
set_option maxHeartbeats 8000000 in
theorem playsW_2 (k K N : Int) (p q r : Option Addr) (n c m d f : Nat) (b : List Nat) (s : ByteArray) (l : List Nat) (x : OErr) (w : World) (A : Nat → Addr) (hr : Roots w A) (hT : TypeVar w) (hx : ∀ y, x = some y → 1 ≤ y.2 ∧ y.2 ≤ 11)
    (hpf : ∀ W : World, Below w.heap.size w W → Calls Tryz.prog 24 #[.int .i64 K, .slice p n c] W (ProgP A x (IsN l) W)) (hrf : ∀ W : World, Below w.heap.size w W → Calls Tryz.prog 25 #[.int .i64 K, .slice p n c] W (RefP x (IsN l) W)) (hk : kind8 k = 2) :
    Calls Tryz.prog 8 #[.agg #[.int .i64 k, .int .i64 K, .int .i64 N, .slice p n c, .slice q m d, .slice r b.length f, .string s]] w (Tells (.bool true) w) := by
  have hk' : (k.tmod 8 + 8).tmod 8 = 2 := hk
  have hkl : -8 < k.tmod 8 := Int.lt_tmod_of_pos k (by omega)
  have hkg : k.tmod 8 < 8 := Int.tmod_lt_of_pos k (by omega)
  have HP := Lib.hid (And.intro hpf hrf)
  have HT := Lib.hid (And.intro hr (And.intro hT hx))
  clear hpf hrf hr hT hx hk
  go_enter Tryz.func8, Tryz.ntmps8
  obtain ⟨w0, hw0⟩ : ∃ w0, w0 = w.alloc (.cells #[.int .i64 k, .int .i64 K, .int .i64 N, .slice p n c, .slice q m d, .slice r b.length f, .string s] 28) := ⟨_, rfl⟩
  have hb0 : Below w.heap.size w w0 := by rw [hw0]; exact (Below.refl _ _).alloc (Nat.le_refl _) _
  have hs0 : w0.heap.size = w.heap.size + 1 := by rw [hw0]; simp
  have hC1 : ∀ wx : World, Below w0.heap.size w0 wx → wx.cell? ⟨w.heap.size, 1, none⟩ = some (.int .i64 K) := fun wx hb => by
    rw [hb.cell (p := ⟨w.heap.size, 1, none⟩) (by simp; omega), hw0, cell_alloc_at _ _ _ _ _ rfl]; rfl
  have hC3 : ∀ wx : World, Below w0.heap.size w0 wx → wx.cell? ⟨w.heap.size, 3, none⟩ = some (.slice p n c) := fun wx hb => by
    rw [hb.cell (p := ⟨w.heap.size, 3, none⟩) (by simp; omega), hw0, cell_alloc_at _ _ _ _ _ rfl]; rfl
  have HC := Lib.hid (And.intro hC1 hC3)
  have hA1 := hC1 w0 (Below.refl _ _)
  have hA3 := hC3 w0 (Below.refl _ _)
  have H0 := Lib.hid hb0
  clear hb0 hC1 hC3
  go_wp2_with fail
  rw [← hw0]
  clear hw0
  go_wp2_with fail
  refine (HP.out.1 w0 H0.out).mono ?_
  rintro e1 w1 ⟨u1, v1, rfl, ⟨p1, c1, rfl, hv1⟩, hp1, hb1⟩
  have hB1 := HC.out.1 w1 hb1
  have hB3 := HC.out.2 w1 hb1
  have H1 := Lib.hid (And.intro hv1 (And.intro hp1 (And.intro hb1 (H0.out.trans (hb1.mono H0.out.size)))))
  clear hv1 hp1 hb1
  go_wp2_with fail
  refine (HP.out.2 w1 H1.out.2.2.2).mono ?_
  rintro e2 w2 ⟨u2, a, po, pa, z, rfl, ⟨p2, c2, rfl, hv2⟩, hw2, hb2⟩
  have H2 := Lib.hid (And.intro hv2 (And.intro hw2 (And.intro hb2 (H1.out.2.2.2.trans (hb2.mono H1.out.2.2.2.size)))))
  clear hv2 hw2 hb2
  go_wp2_with fail
  have hbA : Below w2.heap.size w2 (w2.alloc (.cells #[.int .i64 a, .slice po z z, .slice pa z z] 56)) := (Below.refl _ _).alloc (Nat.le_refl _) _
  refine (nats_same p1 p2 c1 c2 l _ ((H1.out.1.next H2.out.2.2.1).next hbA) (H2.out.1.next hbA)).mono ?_
  rintro e3 w3 ⟨rfl, hb3⟩
  obtain ⟨hE0, hE1, hE2⟩ := err_laidW hb3
  have hb23 : Below w2.heap.size w2 w3 := hbA.trans (hb3.mono (by simp))
  have hb13 : Below w1.heap.size w1 w3 := H2.out.2.2.1.trans (hb23.mono H2.out.2.2.1.size)
  have hb03 : Below w.heap.size w w3 := H2.out.2.2.2.trans (hb23.mono H2.out.2.2.2.size)
  have HI := Lib.hid (And.intro (is_chn (HT.out.1.below hb03) (HT.out.2.1.below hb03) HT.out.2.2 (H1.out.2.1.next hb13) (H2.out.2.1.next hb23)) hb03)
  clear hb3 hb23 hb13 hb03 hbA
  go_wp2_with fail
  refine HI.out.1.mono ?_
  rintro e4 w4 ⟨rfl, hb4⟩
  have HZ := Lib.hid (HI.out.2.trans (hb4.mono HI.out.2.size))
  clear hb4
  go_wp2_with fail
  go_ret
  exact ⟨rfl, HZ.out⟩
set_option maxRecDepth 100000 in
set_option maxHeartbeats 8000000 in
theorem playsW_3 (k K N : Int) (p q r : Option Addr) (n c m d f : Nat) (b : List Nat) (s : ByteArray) (l : List Int) (x : OErr) (w : World) (A : Nat → Addr) (hr : Roots w A) (hT : TypeVar w) (hx : ∀ y, x = some y → 1 ≤ y.2 ∧ y.2 ≤ 11)
    (hpf : ∀ W : World, Below w.heap.size w W → Calls Tryz.prog 27 #[.int .i64 K, .int .i64 N, .slice r b.length f] W (ProgP A x (IsI l) W)) (hrf : ∀ W : World, Below w.heap.size w W → Calls Tryz.prog 28 #[.int .i64 K, .int .i64 N, .slice r b.length f] W (RefP x (IsI l) W)) (hk : kind8 k = 3) :
    Calls Tryz.prog 8 #[.agg #[.int .i64 k, .int .i64 K, .int .i64 N, .slice p n c, .slice q m d, .slice r b.length f, .string s]] w (Tells (.bool true) w) := by
  have hk' : (k.tmod 8 + 8).tmod 8 = 3 := hk
  have hkl : -8 < k.tmod 8 := Int.lt_tmod_of_pos k (by omega)
  have hkg : k.tmod 8 < 8 := Int.tmod_lt_of_pos k (by omega)
  have HP := Lib.hid (And.intro hpf hrf)
  have HT := Lib.hid (And.intro hr (And.intro hT hx))
  clear hpf hrf hr hT hx hk
  go_enter Tryz.func8, Tryz.ntmps8
  obtain ⟨w0, hw0⟩ : ∃ w0, w0 = w.alloc (.cells #[.int .i64 k, .int .i64 K, .int .i64 N, .slice p n c, .slice q m d, .slice r b.length f, .string s] 28) := ⟨_, rfl⟩
  have hb0 : Below w.heap.size w w0 := by rw [hw0]; exact (Below.refl _ _).alloc (Nat.le_refl _) _
  have hs0 : w0.heap.size = w.heap.size + 1 := by rw [hw0]; simp
  have hC1 : ∀ wx : World, Below w0.heap.size w0 wx → wx.cell? ⟨w.heap.size, 1, none⟩ = some (.int .i64 K) := fun wx hb => by
    rw [hb.cell (p := ⟨w.heap.size, 1, none⟩) (by simp; omega), hw0, cell_alloc_at _ _ _ _ _ rfl]; rfl
  have hC2 : ∀ wx : World, Below w0.heap.size w0 wx → wx.cell? ⟨w.heap.size, 2, none⟩ = some (.int .i64 N) := fun wx hb => by
    rw [hb.cell (p := ⟨w.heap.size, 2, none⟩) (by simp; omega), hw0, cell_alloc_at _ _ _ _ _ rfl]; rfl
  have hC5 : ∀ wx : World, Below w0.heap.size w0 wx → wx.cell? ⟨w.heap.size, 5, none⟩ = some (.slice r b.length f) := fun wx hb => by
    rw [hb.cell (p := ⟨w.heap.size, 5, none⟩) (by simp; omega), hw0, cell_alloc_at _ _ _ _ _ rfl]; rfl
  have HC := Lib.hid (And.intro hC1 (And.intro hC2 hC5))
  have hA1 := hC1 w0 (Below.refl _ _)
  have hA2 := hC2 w0 (Below.refl _ _)
  have hA5 := hC5 w0 (Below.refl _ _)
  have H0 := Lib.hid hb0
  clear hb0 hC1 hC2 hC5
  go_wp2_with fail
  rw [← hw0]
  clear hw0
  go_wp2_with fail
  refine (HP.out.1 w0 H0.out).mono ?_
  rintro e1 w1 ⟨u1, v1, rfl, ⟨p1, c1, n1, rfl, hn1, hv1⟩, hp1, hb1⟩
  have hB1 := HC.out.1 w1 hb1
  have hB2 := HC.out.2.1 w1 hb1
  have hB5 := HC.out.2.2 w1 hb1
  have H1 := Lib.hid (And.intro (And.intro hv1 hn1) (And.intro hp1 (And.intro hb1 (H0.out.trans (hb1.mono H0.out.size)))))
  clear hv1 hn1 hp1 hb1
  go_wp2_with fail
  refine (HP.out.2 w1 H1.out.2.2.2).mono ?_
  rintro e2 w2 ⟨u2, a, po, pa, z, rfl, ⟨p2, c2, n2, rfl, hn2, hv2⟩, hw2, hb2⟩
  have H2 := Lib.hid (And.intro (And.intro hv2 hn2) (And.intro hw2 (And.intro hb2 (H1.out.2.2.2.trans (hb2.mono H1.out.2.2.2.size)))))
  clear hv2 hn2 hw2 hb2
  go_wp2_with fail
  have hbA : Below w2.heap.size w2 (w2.alloc (.cells #[.int .i64 a, .slice po z z, .slice pa z z] 56)) := (Below.refl _ _).alloc (Nat.le_refl _) _
  have hsame := ints_any p1 p2 n1 n2 c1 c2 l l _ H1.out.1.2 H2.out.1.2 ((H1.out.1.1.next H2.out.2.2.1).next hbA) (H2.out.1.1.next hbA)
  rw [sameI_self] at hsame
  refine hsame.mono ?_
  clear hsame
  rintro e3 w3 ⟨rfl, hb3⟩
  obtain ⟨hE0, hE1, hE2⟩ := err_laidW hb3
  have hb23 : Below w2.heap.size w2 w3 := hbA.trans (hb3.mono (by simp))
  have hb13 : Below w1.heap.size w1 w3 := H2.out.2.2.1.trans (hb23.mono H2.out.2.2.1.size)
  have hb03 : Below w.heap.size w w3 := H2.out.2.2.2.trans (hb23.mono H2.out.2.2.2.size)
  have HI := Lib.hid (And.intro (is_chn (HT.out.1.below hb03) (HT.out.2.1.below hb03) HT.out.2.2 (H1.out.2.1.next hb13) (H2.out.2.1.next hb23)) hb03)
  clear hb3 hb23 hb13 hb03 hbA
  go_wp2_with fail
  refine HI.out.1.mono ?_
  rintro e4 w4 ⟨rfl, hb4⟩
  have HZ := Lib.hid (HI.out.2.trans (hb4.mono HI.out.2.size))
  clear hb4
  go_wp2_with fail
  go_ret
  exact ⟨rfl, HZ.out⟩
set_option maxRecDepth 100000 in
set_option maxHeartbeats 8000000 in
theorem playsW_4 (k K N : Int) (p q r : Option Addr) (n c m d f : Nat) (b : List Nat) (s : ByteArray) (t : ByteArray) (x : OErr) (w : World) (A : Nat → Addr) (hr : Roots w A) (hT : TypeVar w) (hx : ∀ y, x = some y → 1 ≤ y.2 ∧ y.2 ≤ 11)
    (hpf : ∀ W : World, Below w.heap.size w W → Calls Tryz.prog 29 #[.int .i64 K, .slice p n c] W (ProgP A x (IsS t) W)) (hrf : ∀ W : World, Below w.heap.size w W → Calls Tryz.prog 30 #[.int .i64 K, .slice p n c] W (RefP x (IsS t) W)) (hk : kind8 k = 4) :
    Calls Tryz.prog 8 #[.agg #[.int .i64 k, .int .i64 K, .int .i64 N, .slice p n c, .slice q m d, .slice r b.length f, .string s]] w (Tells (.bool true) w) := by
  have hk' : (k.tmod 8 + 8).tmod 8 = 4 := hk
  have hkl : -8 < k.tmod 8 := Int.lt_tmod_of_pos k (by omega)
  have hkg : k.tmod 8 < 8 := Int.tmod_lt_of_pos k (by omega)
  have HP := Lib.hid (And.intro hpf hrf)
  have HT := Lib.hid (And.intro hr (And.intro hT hx))
  clear hpf hrf hr hT hx hk
  go_enter Tryz.func8, Tryz.ntmps8
  obtain ⟨w0, hw0⟩ : ∃ w0, w0 = w.alloc (.cells #[.int .i64 k, .int .i64 K, .int .i64 N, .slice p n c, .slice q m d, .slice r b.length f, .string s] 28) := ⟨_, rfl⟩
  have hb0 : Below w.heap.size w w0 := by rw [hw0]; exact (Below.refl _ _).alloc (Nat.le_refl _) _
  have hs0 : w0.heap.size = w.heap.size + 1 := by rw [hw0]; simp
  have hC1 : ∀ wx : World, Below w0.heap.size w0 wx → wx.cell? ⟨w.heap.size, 1, none⟩ = some (.int .i64 K) := fun wx hb => by
    rw [hb.cell (p := ⟨w.heap.size, 1, none⟩) (by simp; omega), hw0, cell_alloc_at _ _ _ _ _ rfl]; rfl
  have hC3 : ∀ wx : World, Below w0.heap.size w0 wx → wx.cell? ⟨w.heap.size, 3, none⟩ = some (.slice p n c) := fun wx hb => by
    rw [hb.cell (p := ⟨w.heap.size, 3, none⟩) (by simp; omega), hw0, cell_alloc_at _ _ _ _ _ rfl]; rfl
  have HC := Lib.hid (And.intro hC1 hC3)
  have hA1 := hC1 w0 (Below.refl _ _)
  have hA3 := hC3 w0 (Below.refl _ _)
  have H0 := Lib.hid hb0
  clear hb0 hC1 hC3
  go_wp2_with fail
  rw [← hw0]
  clear hw0
  go_wp2_with fail
  refine (HP.out.1 w0 H0.out).mono ?_
  rintro e1 w1 ⟨u1, v1, rfl, rfl, hp1, hb1⟩
  have hB1 := HC.out.1 w1 hb1
  have hB3 := HC.out.2 w1 hb1
  have H1 := Lib.hid (And.intro trivial (And.intro hp1 (And.intro hb1 (H0.out.trans (hb1.mono H0.out.size)))))
  clear hp1 hb1
  go_wp2_with fail
  refine (HP.out.2 w1 H1.out.2.2.2).mono ?_
  rintro e2 w2 ⟨u2, a, po, pa, z, rfl, rfl, hw2, hb2⟩
  have H2 := Lib.hid (And.intro trivial (And.intro hw2 (And.intro hb2 (H1.out.2.2.2.trans (hb2.mono H1.out.2.2.2.size)))))
  clear hw2 hb2
  go_wp2_with fail
  have hbA : Below w2.heap.size w2 (w2.alloc (.cells #[.int .i64 a, .slice po z z, .slice pa z z] 56)) := (Below.refl _ _).alloc (Nat.le_refl _) _
  obtain ⟨w3, hw3⟩ : ∃ x, w2.alloc (.cells #[.int .i64 a, .slice po z z, .slice pa z z] 56) = x := ⟨_, rfl⟩
  have hb3 : Below (w2.alloc (.cells #[.int .i64 a, .slice po z z, .slice pa z z] 56)).heap.size (w2.alloc (.cells #[.int .i64 a, .slice po z z, .slice pa z z] 56)) w3 := by rw [hw3]; exact Below.refl _ _
  obtain ⟨hE0, hE1, hE2⟩ := err_laidW hb3
  have hb23 : Below w2.heap.size w2 w3 := hbA.trans (hb3.mono (by simp))
  have hb13 : Below w1.heap.size w1 w3 := H2.out.2.2.1.trans (hb23.mono H2.out.2.2.1.size)
  have hb03 : Below w.heap.size w w3 := H2.out.2.2.2.trans (hb23.mono H2.out.2.2.2.size)
  have HI := Lib.hid (And.intro (is_chn (HT.out.1.below hb03) (HT.out.2.1.below hb03) HT.out.2.2 (H1.out.2.1.next hb13) (H2.out.2.1.next hb23)) hb03)
  clear hb3 hb23 hb13 hb03 hbA
  first | rw [hw3] | skip
  clear hw3
  refine HI.out.1.mono ?_
  rintro e4 w4 ⟨rfl, hb4⟩
  have HZ := Lib.hid (HI.out.2.trans (hb4.mono HI.out.2.size))
  clear hb4
  go_wp2_with fail
  go_ret
  exact ⟨rfl, HZ.out⟩
set_option maxRecDepth 100000 in
set_option maxHeartbeats 8000000 in
theorem playsW_5 (k K N : Int) (p q r : Option Addr) (n c m d f : Nat) (b : List Nat) (s : ByteArray) (l : List Int) (x : OErr) (w : World) (A : Nat → Addr) (hr : Roots w A) (hT : TypeVar w) (hx : ∀ y, x = some y → 1 ≤ y.2 ∧ y.2 ≤ 11)
    (hpf : ∀ W : World, Below w.heap.size w W → Calls Tryz.prog 16 #[.int .i64 K, .string s] W (ProgP A x (IsI l) W)) (hrf : ∀ W : World, Below w.heap.size w W → Calls Tryz.prog 31 #[.int .i64 K, .string s] W (RefP x (IsI l) W)) (hk : kind8 k = 5) :
    Calls Tryz.prog 8 #[.agg #[.int .i64 k, .int .i64 K, .int .i64 N, .slice p n c, .slice q m d, .slice r b.length f, .string s]] w (Tells (.bool true) w) := by
  have hk' : (k.tmod 8 + 8).tmod 8 = 5 := hk
  have hkl : -8 < k.tmod 8 := Int.lt_tmod_of_pos k (by omega)
  have hkg : k.tmod 8 < 8 := Int.tmod_lt_of_pos k (by omega)
  have HP := Lib.hid (And.intro hpf hrf)
  have HT := Lib.hid (And.intro hr (And.intro hT hx))
  clear hpf hrf hr hT hx hk
  go_enter Tryz.func8, Tryz.ntmps8
  obtain ⟨w0, hw0⟩ : ∃ w0, w0 = w.alloc (.cells #[.int .i64 k, .int .i64 K, .int .i64 N, .slice p n c, .slice q m d, .slice r b.length f, .string s] 28) := ⟨_, rfl⟩
  have hb0 : Below w.heap.size w w0 := by rw [hw0]; exact (Below.refl _ _).alloc (Nat.le_refl _) _
  have hs0 : w0.heap.size = w.heap.size + 1 := by rw [hw0]; simp
  have hC1 : ∀ wx : World, Below w0.heap.size w0 wx → wx.cell? ⟨w.heap.size, 1, none⟩ = some (.int .i64 K) := fun wx hb => by
    rw [hb.cell (p := ⟨w.heap.size, 1, none⟩) (by simp; omega), hw0, cell_alloc_at _ _ _ _ _ rfl]; rfl
  have hC6 : ∀ wx : World, Below w0.heap.size w0 wx → wx.cell? ⟨w.heap.size, 6, none⟩ = some (.string s) := fun wx hb => by
    rw [hb.cell (p := ⟨w.heap.size, 6, none⟩) (by simp; omega), hw0, cell_alloc_at _ _ _ _ _ rfl]; rfl
  have HC := Lib.hid (And.intro hC1 hC6)
  have hA1 := hC1 w0 (Below.refl _ _)
  have hA6 := hC6 w0 (Below.refl _ _)
  have H0 := Lib.hid hb0
  clear hb0 hC1 hC6
  go_wp2_with fail
  rw [← hw0]
  clear hw0
  go_wp2_with fail
  refine (HP.out.1 w0 H0.out).mono ?_
  rintro e1 w1 ⟨u1, v1, rfl, ⟨p1, c1, n1, rfl, hn1, hv1⟩, hp1, hb1⟩
  have hB1 := HC.out.1 w1 hb1
  have hB6 := HC.out.2 w1 hb1
  have H1 := Lib.hid (And.intro (And.intro hv1 hn1) (And.intro hp1 (And.intro hb1 (H0.out.trans (hb1.mono H0.out.size)))))
  clear hv1 hn1 hp1 hb1
  go_wp2_with fail
  refine (HP.out.2 w1 H1.out.2.2.2).mono ?_
  rintro e2 w2 ⟨u2, a, po, pa, z, rfl, ⟨p2, c2, n2, rfl, hn2, hv2⟩, hw2, hb2⟩
  have H2 := Lib.hid (And.intro (And.intro hv2 hn2) (And.intro hw2 (And.intro hb2 (H1.out.2.2.2.trans (hb2.mono H1.out.2.2.2.size)))))
  clear hv2 hn2 hw2 hb2
  go_wp2_with fail
  have hbA : Below w2.heap.size w2 (w2.alloc (.cells #[.int .i64 a, .slice po z z, .slice pa z z] 56)) := (Below.refl _ _).alloc (Nat.le_refl _) _
  have hsame := ints_any p1 p2 n1 n2 c1 c2 l l _ H1.out.1.2 H2.out.1.2 ((H1.out.1.1.next H2.out.2.2.1).next hbA) (H2.out.1.1.next hbA)
  rw [sameI_self] at hsame
  refine hsame.mono ?_
  clear hsame
  rintro e3 w3 ⟨rfl, hb3⟩
  obtain ⟨hE0, hE1, hE2⟩ := err_laidW hb3
  have hb23 : Below w2.heap.size w2 w3 := hbA.trans (hb3.mono (by simp))
  have hb13 : Below w1.heap.size w1 w3 := H2.out.2.2.1.trans (hb23.mono H2.out.2.2.1.size)
  have hb03 : Below w.heap.size w w3 := H2.out.2.2.2.trans (hb23.mono H2.out.2.2.2.size)
  have HI := Lib.hid (And.intro (is_chn (HT.out.1.below hb03) (HT.out.2.1.below hb03) HT.out.2.2 (H1.out.2.1.next hb13) (H2.out.2.1.next hb23)) hb03)
  clear hb3 hb23 hb13 hb03 hbA
  go_wp2_with fail
  refine HI.out.1.mono ?_
  rintro e4 w4 ⟨rfl, hb4⟩
  have HZ := Lib.hid (HI.out.2.trans (hb4.mono HI.out.2.size))
  clear hb4
  go_wp2_with fail
  go_ret
  exact ⟨rfl, HZ.out⟩
set_option maxRecDepth 100000 in
set_option maxHeartbeats 8000000 in
theorem playsW_6 (k K N : Int) (p q r : Option Addr) (n c m d f : Nat) (b : List Nat) (s : ByteArray) (l : List Int) (x : OErr) (w : World) (A : Nat → Addr) (hr : Roots w A) (hT : TypeVar w) (hx : ∀ y, x = some y → 1 ≤ y.2 ∧ y.2 ≤ 11)
    (hpf : ∀ W : World, Below w.heap.size w W → Calls Tryz.prog 32 #[.slice p n c, .int .i64 N] W (ProgP A x (IsI l) W)) (hrf : ∀ W : World, Below w.heap.size w W → Calls Tryz.prog 33 #[.slice p n c, .int .i64 N] W (RefP x (IsI l) W)) (hk : kind8 k = 6) :
    Calls Tryz.prog 8 #[.agg #[.int .i64 k, .int .i64 K, .int .i64 N, .slice p n c, .slice q m d, .slice r b.length f, .string s]] w (Tells (.bool true) w) := by
  have hk' : (k.tmod 8 + 8).tmod 8 = 6 := hk
  have hkl : -8 < k.tmod 8 := Int.lt_tmod_of_pos k (by omega)
  have hkg : k.tmod 8 < 8 := Int.tmod_lt_of_pos k (by omega)
  have HP := Lib.hid (And.intro hpf hrf)
  have HT := Lib.hid (And.intro hr (And.intro hT hx))
  clear hpf hrf hr hT hx hk
  go_enter Tryz.func8, Tryz.ntmps8
  obtain ⟨w0, hw0⟩ : ∃ w0, w0 = w.alloc (.cells #[.int .i64 k, .int .i64 K, .int .i64 N, .slice p n c, .slice q m d, .slice r b.length f, .string s] 28) := ⟨_, rfl⟩
  have hb0 : Below w.heap.size w w0 := by rw [hw0]; exact (Below.refl _ _).alloc (Nat.le_refl _) _
  have hs0 : w0.heap.size = w.heap.size + 1 := by rw [hw0]; simp
  have hC3 : ∀ wx : World, Below w0.heap.size w0 wx → wx.cell? ⟨w.heap.size, 3, none⟩ = some (.slice p n c) := fun wx hb => by
    rw [hb.cell (p := ⟨w.heap.size, 3, none⟩) (by simp; omega), hw0, cell_alloc_at _ _ _ _ _ rfl]; rfl
  have hC2 : ∀ wx : World, Below w0.heap.size w0 wx → wx.cell? ⟨w.heap.size, 2, none⟩ = some (.int .i64 N) := fun wx hb => by
    rw [hb.cell (p := ⟨w.heap.size, 2, none⟩) (by simp; omega), hw0, cell_alloc_at _ _ _ _ _ rfl]; rfl
  have HC := Lib.hid (And.intro hC3 hC2)
  have hA3 := hC3 w0 (Below.refl _ _)
  have hA2 := hC2 w0 (Below.refl _ _)
  have H0 := Lib.hid hb0
  clear hb0 hC3 hC2
  go_wp2_with fail
  rw [← hw0]
  clear hw0
  go_wp2_with fail
  refine (HP.out.1 w0 H0.out).mono ?_
  rintro e1 w1 ⟨u1, v1, rfl, ⟨p1, c1, n1, rfl, hn1, hv1⟩, hp1, hb1⟩
  have hB3 := HC.out.1 w1 hb1
  have hB2 := HC.out.2 w1 hb1
  have H1 := Lib.hid (And.intro (And.intro hv1 hn1) (And.intro hp1 (And.intro hb1 (H0.out.trans (hb1.mono H0.out.size)))))
  clear hv1 hn1 hp1 hb1
  go_wp2_with fail
  refine (HP.out.2 w1 H1.out.2.2.2).mono ?_
  rintro e2 w2 ⟨u2, a, po, pa, z, rfl, ⟨p2, c2, n2, rfl, hn2, hv2⟩, hw2, hb2⟩
  have H2 := Lib.hid (And.intro (And.intro hv2 hn2) (And.intro hw2 (And.intro hb2 (H1.out.2.2.2.trans (hb2.mono H1.out.2.2.2.size)))))
  clear hv2 hn2 hw2 hb2
  go_wp2_with fail
  have hbA : Below w2.heap.size w2 (w2.alloc (.cells #[.int .i64 a, .slice po z z, .slice pa z z] 56)) := (Below.refl _ _).alloc (Nat.le_refl _) _
  have hsame := ints_any p1 p2 n1 n2 c1 c2 l l _ H1.out.1.2 H2.out.1.2 ((H1.out.1.1.next H2.out.2.2.1).next hbA) (H2.out.1.1.next hbA)
  rw [sameI_self] at hsame
  refine hsame.mono ?_
  clear hsame
  rintro e3 w3 ⟨rfl, hb3⟩
  obtain ⟨hE0, hE1, hE2⟩ := err_laidW hb3
  have hb23 : Below w2.heap.size w2 w3 := hbA.trans (hb3.mono (by simp))
  have hb13 : Below w1.heap.size w1 w3 := H2.out.2.2.1.trans (hb23.mono H2.out.2.2.1.size)
  have hb03 : Below w.heap.size w w3 := H2.out.2.2.2.trans (hb23.mono H2.out.2.2.2.size)
  have HI := Lib.hid (And.intro (is_chn (HT.out.1.below hb03) (HT.out.2.1.below hb03) HT.out.2.2 (H1.out.2.1.next hb13) (H2.out.2.1.next hb23)) hb03)
  clear hb3 hb23 hb13 hb03 hbA
  go_wp2_with fail
  refine HI.out.1.mono ?_
  rintro e4 w4 ⟨rfl, hb4⟩
  have HZ := Lib.hid (HI.out.2.trans (hb4.mono HI.out.2.size))
  clear hb4
  go_wp2_with fail
  go_ret
  exact ⟨rfl, HZ.out⟩
end Go.Proofs.YtfgoflaeclfggaaGreatDoor
end
section
namespace Go.Proofs.YtfgoflaeclfggaaGreatDoor
open Go.RowKit WordM

theorem set_frontI {x : List Int} {j : Nat} {v : Int} : (List.replicate (j + 1) (0 : Int) ++ x).set j v = List.replicate j 0 ++ v :: x := by
  rw [List.replicate_succ', List.append_assoc, List.set_append_right _ _ (by simp), List.length_replicate, Nat.sub_self]
  rfl
def BackRel (w : World) (l : List Int) (n g : Nat) (v : Value) (wr : World) : Prop :=
  ∃ i : Nat, i ≤ n ∧ v = .int .i64 (i : Int) ∧ IntO w.heap.size wr (some ⟨g, 0, none⟩) n (List.replicate (n - i) 0 ++ (l.take i).reverse) ∧ Below w.heap.size w wr
set_option maxRecDepth 100000 in
set_option maxHeartbeats 4000000 in
theorem back_ref (p : Option Addr) (n c : Nat) (l : List Int) (w : World) (hn : n = l.length) (h : IntV w.heap.size w p c l) (hl : l.length ≤ 17592186044000) :
    Calls Tryz.prog 36 #[.slice p n c] w (IntPost w l.reverse) := by
  have hle := h.le
  have hcap := h.cap
  unfold maxLen at hcap
  have hnc : n ≤ c := by omega
  have hnl : n ≤ 17592186044000 := by omega
  have hmk := makeI n hnl w
  have H := Lib.hid (And.intro h hn)
  clear h hn hl hle
  go_enter Tryz.func36, Tryz.ntmps36
  go_wp2_with fail
  clear hmk
  have ho0 := IntO.made w n hnl
  have hb0 : Below w.heap.size w (w.alloc (.cells (madeCells #[.int .i64 0] n) 3)) := (Below.refl _ _).alloc (Nat.le_refl _) _
  have HO := Lib.hid (And.intro ho0 hb0)
  clear ho0 hb0
  go_loopw [4] (fun v wr => BackRel w l n w.heap.size v wr) (fun v _ => n - (intOf v).toNat)
  case atStart => exact ⟨0, Nat.zero_le _, rfl, by rw [List.take_zero, List.reverse_nil, List.append_nil, Nat.sub_zero]; exact HO.out.1, HO.out.2⟩
  case round =>
    obtain ⟨i, hi, rfl, ho, hb⟩ := hrel
    by_cases hlt : i < n
    · have hnl' := H.out.2
      obtain ⟨b, off, rfl, hbb, hcc⟩ := (H.out.1.next hb).cell (by rintro rfl; simp at hnl'; omega)
      obtain ⟨x, hx⟩ := getI (l := l) (k := i) (by omega)
      have hcx := hcc i x hx
      obtain ⟨j, hj⟩ : ∃ j, n - i = j + 1 := ⟨n - i - 1, by omega⟩
      have e1 : ((n : Int) - 1 - (i : Int)) = (j : Int) := by omega
      have hjn : j < n := by omega
      have hrv : (l.take (i + 1)).reverse = x :: (l.take i).reverse := by rw [List.take_add_one, hx]; simp
      have hlen : (List.replicate (n - i) (0 : Int) ++ (l.take i).reverse).length = n := by simp; omega
      have hown : wr.ownsRow w.heap.size 3 1 (.slice (some ⟨w.heap.size, 0, none⟩) n n) n (cI (List.replicate (n - i) 0 ++ (l.take i).reverse)) := by
        unfold IntO at ho
        rwa [hlen] at ho
      rw [hj] at hown
      obtain ⟨y, hy⟩ := getI (l := List.replicate (j + 1) (0 : Int) ++ (l.take i).reverse) (k := j) (by simp; omega)
      have hcy : wr.cell? ⟨w.heap.size, j, none⟩ = some (.int .i64 y) := (hown.cellAt j (by omega)).trans (cI_get hy)
      have hfy : wr.frozen? ⟨w.heap.size, j, none⟩ = false := hown.frozenAt j
      obtain ⟨s1, t1⟩ := hown.stored j (.int .i64 x)
      rw [← cI_set, set_frontI, ← hrv] at s1
      have hb1 : Below w.heap.size w (wr.setCell ⟨w.heap.size, j, none⟩ (.int .i64 x)) := hb.setCell (p := ⟨w.heap.size, j, none⟩) (Nat.le_refl _) _
      have HS := Lib.hid (And.intro s1 (And.intro hb1 hj))
      clear hcc hx hj hrv hlen hown hy s1 t1 hb1 ho hb hnl'
      go_wp2_with fail
      go_roundw
      case rel =>
        refine ⟨i + 1, by omega, by go_num, ?_, HS.out.2.1⟩
        have e : n - (i + 1) = j := by have := HS.out.2.2; omega
        rw [e]
        unfold IntO
        have hlen2 : (List.replicate j (0 : Int) ++ (l.take (i + 1)).reverse).length = n := by have := HS.out.2.2; have := H.out.2; simp; omega
        rw [hlen2]; exact HS.out.1
      case measure => simp [intOf]; omega
    · obtain rfl : i = n := by omega
      have he : List.replicate (i - i) (0 : Int) ++ (l.take i).reverse = l.reverse := by rw [Nat.sub_self, H.out.2, List.take_length]; rfl
      rw [he] at ho
      have HF := Lib.hid (And.intro ho hb)
      clear ho hb he
      go_wp2_with fail
      go_ret
      exact ⟨_, _, by rw [List.length_reverse, H.out.2]; rfl, HF.out.1, HF.out.2⟩
end Go.Proofs.YtfgoflaeclfggaaGreatDoor
end
section
namespace Go.Proofs.YtfgoflaeclfggaaGreatDoor
open Go.RowKit WordM

open Classical in
/-- the period of a word; 0 for the empty one -/
noncomputable def perW (l : List Int) : Nat := if h : l.length ≠ 0 ∧ ∃ p, IsPer l p then h.2.choose else 0
theorem perW_eq {l : List Int} {p : Nat} (h0 : l.length ≠ 0) (h : IsPer l p) : perW l = p := by
  unfold perW
  have hx : l.length ≠ 0 ∧ ∃ p, IsPer l p := ⟨h0, p, h⟩
  rw [dif_pos hx]
  exact isPer_unique hx.2.choose_spec h
theorem perW_nil : perW [] = 0 := by unfold perW; rw [dif_neg (by simp)]
open Classical in
/-- the least turn of a word; 0 for the empty one -/
noncomputable def leastW (l : List Int) : Nat := if h : ∃ p, IsLeast l p then h.choose else 0
theorem leastW_eq {l : List Int} {p : Nat} (h : IsLeast l p) : leastW l = p := by
  unfold leastW
  have hx : ∃ p, IsLeast l p := ⟨p, h⟩
  rw [dif_pos hx]
  exact isLeast_unique hx.choose_spec h
theorem leastW_nil : leastW [] = 0 := by
  unfold leastW
  rw [dif_neg]
  rintro ⟨p, h⟩
  have := h.1
  simp at this
theorem leastW_is {l : List Int} (h : 0 < l.length) : IsLeast l (leastW l) := by
  obtain ⟨p, hp⟩ := least_exists h
  rw [leastW_eq hp]; exact hp

theorem piece_same {l : List Int} {q n : Nat} (hn : n = l.length) (hd : q ∣ n) (h : sameI (l.drop q) (l.take (n - q)) = true) : Per l q := by
  have e : l.drop q = l.take (n - q) := by simpa [sameI] using h
  refine per_piece (by rw [← hn]; exact hd) (fun i hi => ?_)
  have h1 := congrArg (fun x : List Int => x[i]?) e
  simp only [List.getElem?_drop, List.getElem?_take] at h1
  rw [if_pos (by omega)] at h1
  rw [Nat.add_comm]
  exact h1
theorem piece_other {l : List Int} {q n : Nat} (hn : n = l.length) (hq : q ≤ n) (h : sameI (l.drop q) (l.take (n - q)) = false) : ¬ Per l q := by
  intro k
  have e : ¬ l.drop q = l.take (n - q) := by simpa [sameI] using h
  apply e
  apply List.ext_getElem?
  intro i
  rw [List.getElem?_drop, List.getElem?_take]
  by_cases hi : i < n - q
  · rw [if_pos hi, Nat.add_comm]
    exact piece_per k i (by omega)
  · rw [if_neg hi, List.getElem?_eq_none (by omega)]
set_option maxRecDepth 100000 in
set_option maxHeartbeats 4000000 in
theorem period_any (p : Option Addr) (n c : Nat) (l : List Int) (w : World) (hn : n = l.length) (h : IntV w.heap.size w p c l) (hl : l.length ≤ 17592186044000) :
    Calls Tryz.prog 19 #[.slice p n c] w (Quiet (.int .i64 (perW l : Int)) w) := by
  have hle := h.le
  have hcap := h.cap
  unfold maxLen at hcap
  have hnc : n ≤ c := by omega
  have hnl : n ≤ 17592186044000 := by omega
  have H := Lib.hid (And.intro h hn)
  clear h hn hl hle
  go_enter Tryz.func19, Tryz.ntmps19
  go_wp2_with fail
  go_loopw [4] (fun v wr => ∃ q : Nat, 1 ≤ q ∧ q ≤ n + 1 ∧ v = .int .i64 (q : Int) ∧ Hid (∃ a, wr = w.drewN a) ∧ Hid (∀ r, 1 ≤ r → r < q → r < n → ¬ (r ∣ n ∧ Per l r))) (fun v _ => n + 1 - (intOf v).toNat)
  case atStart => exact ⟨1, Nat.le_refl _, by omega, rfl, ⟨0, rfl⟩, by intro r h1 h2; omega⟩
  case round =>
    obtain ⟨q, hq1, hqn, rfl, hdr, hno⟩ := hrel
    by_cases hlt : q < n
    · have hbw : Below w.heap.size w wr := hdr.out.elim fun a e => e ▸ below_drewN (Below.refl _ _) a
      have hv := H.out.1.next hbw
      obtain ⟨b, off, rfl, hb, hc⟩ := hv.cell (by have := H.out.2; rintro rfl; simp at this; omega)
      obtain ⟨m, hmm⟩ : ∃ m, n % q = m := ⟨_, rfl⟩
      have e2 : (n : Int) % (q : Int) = (m : Int) := by rw [← hmm]; rfl
      have e1 : (n : Int).tmod (q : Int) = (m : Int) := by rw [Int.tmod_eq_emod_of_nonneg (by omega), e2]
      have hw : IntKind.i64.wrap ((n : Int) - (q : Int)) = ((n - q : Nat) : Int) := by rw [IntWalk.i64_in _ (by omega)]; omega
      have hsub : ((n : Int) - (q : Int)) = ((n - q : Nat) : Int) := by omega
      by_cases hm : m = 0
      · subst hm
        have hm := hmm
        have hd : q ∣ n := Nat.dvd_of_mod_eq_zero hm
        have heq := equal_q (some ⟨b, off + q, none⟩) (some ⟨b, off, none⟩) (n - q) (n - q) (c - q) c (l.drop q) (l.take (n - q))
        have hd1 : (l.drop q).length = n - q := by rw [List.length_drop, H.out.2]
        have hd2 : (l.take (n - q)).length = n - q := by rw [List.length_take, ← H.out.2]; omega
        have hcall : ∀ a, Calls Tryz.prog 63 #[.slice (some ⟨b, off + q, none⟩) (n - q) (c - q), .slice (some ⟨b, off, none⟩) (n - q) c] (wr.drewN a) (Quiet (.bool (sameI (l.drop q) (l.take (n - q)))) (wr.drewN a)) := fun a =>
          heq _ hd1.symm hd2.symm (hd1.trans hd2.symm) ((hv.next (below_drewN (Below.refl _ _) a)).drop q (by have := H.out.2; omega)) ((hv.next (below_drewN (Below.refl _ _) a)).take _)
        have HC := Lib.hid hcall
        have h0q : (0 : Int) ≤ (q : Int) := by omega
        have hqn2 : (q : Int) ≤ (n : Int) := by omega
        have hnc2 : (n : Int) ≤ (c : Int) := by omega
        have hcq : ¬ (c : Int) = (q : Int) := by omega
        have hcq2 : ¬ c = q := by omega
        have hnq : (((n - q : Nat) : Int)) ≤ (c : Int) := by omega
        have HD := Lib.hid (And.intro hd hm)
        clear hcall heq hd hm hmm hbw hv hc hd1 hd2
        obtain ⟨same, hs⟩ : ∃ same, sameI (l.drop q) (l.take (n - q)) = same := ⟨_, rfl⟩
        rw [hs] at HC
        have HS := Lib.hid hs
        clear hs
        rcases same with _ | _
        · go_wp2_with fail
          go_quiet ((go_at_call 63; exact Quiet.add (HC.out _)))
          go_wp2_with fail
          go_roundw
          case rel => exact ⟨q + 1, by omega, by omega, by go_num, quiet_more hdr.out _, by
            intro r h1 h2 h3
            rcases (by omega : r < q ∨ r = q) with h4 | rfl
            · exact hno.out r h1 h4 h3
            · exact fun k => piece_other H.out.2 (by omega) HS.out k.2⟩
          case measure => simp [intOf]; omega
        · have hp : perW l = q := perW_eq (by have := H.out.2; omega) ⟨hq1, by rw [← H.out.2]; exact HD.out.1, piece_same H.out.2 HD.out.1 HS.out, fun r h1 h2 => by rw [← H.out.2]; exact hno.out r h1 h2 (by omega)⟩
          have HP := Lib.hid hp
          clear hp
          go_wp2_with fail
          go_quiet ((go_at_call 63; exact Quiet.add (HC.out _)))
          go_wp2_with fail
          go_ret
          exact ⟨by rw [HP.out]; rfl, quiet_more hdr.out _⟩
      · have hz : ((m : Int) == 0) = false := by rw [beq_eq_false_iff_ne]; omega
        have HD := Lib.hid (And.intro hmm hm)
        clear hbw hv hc hm hmm
        go_wp2_with fail
        go_quiet (fail)
        go_wp2_with fail
        go_roundw
        case rel => exact ⟨q + 1, by omega, by omega, by go_num, quiet_more hdr.out _, by
          intro r h1 h2 h3
          rcases (by omega : r < q ∨ r = q) with h4 | rfl
          · exact hno.out r h1 h4 h3
          · exact fun k => HD.out.2 (HD.out.1.symm.trans (Nat.mod_eq_zero_of_dvd k.1))⟩
        case measure => simp [intOf]; omega
    · have hp : perW l = n := by
        rcases Nat.eq_zero_or_pos n with h0 | h0
        · have hl0 : l = [] := List.eq_nil_of_length_eq_zero (by have := H.out.2; omega)
          rw [hl0, perW_nil, h0]
        · refine perW_eq (by have := H.out.2; omega) ⟨h0, by rw [← H.out.2]; exact Nat.dvd_refl _, by rw [H.out.2]; exact per_len l, fun r h1 h2 => ?_⟩
          rw [← H.out.2]
          exact hno.out r h1 (by omega) h2
      have HP := Lib.hid hp
      clear hp
      go_wp2_with fail
      go_ret
      exact ⟨by rw [HP.out]; rfl, hdr.out⟩
end Go.Proofs.YtfgoflaeclfggaaGreatDoor
end
section
namespace Go.Proofs.YtfgoflaeclfggaaGreatDoor
open Go.RowKit WordM

set_option maxRecDepth 100000 in
set_option maxHeartbeats 4000000 in
theorem cmp_refW (p q : Option Addr) (n m c d : Nat) (l k : List Int) (w : World) (hn : n = l.length) (hm : m = k.length) (h : IntV w.heap.size w p c l) (h' : IntV w.heap.size w q d k) :
    Calls Tryz.prog 34 #[.slice p n c, .slice q m d] w (Quiet (.int .i64 (cmpW l k)) w) := by
  have hle := h.le
  have hcap := h.cap
  have hdle := h'.le
  have hdcap := h'.cap
  unfold maxLen at hcap hdcap
  have hnc : n ≤ c := by omega
  have hmd : m ≤ d := by omega
  rcases Nat.lt_trichotomy n m with hnm | hnm | hnm
  · have hc : cmpW l k = -1 := by unfold cmpW; rw [if_pos (by omega)]
    have HC := Lib.hid hc
    clear hc h h' hn hm hle hdle
    go_enter Tryz.func34, Tryz.ntmps34
    go_wp2_with fail
    go_ret
    exact ⟨by rw [HC.out]; rfl, 0, rfl⟩
  · subst hnm
    have hlen : l.length = k.length := by omega
    have hw : cmpW l k = lexC l k := cmpW_len hlen
    have H := Lib.hid (And.intro h (And.intro h' (And.intro hn (And.intro hlen hw))))
    clear h h' hn hm hlen hw hle hdle
    go_enter Tryz.func34, Tryz.ntmps34
    go_wp2_with fail
    go_loopw [5] (fun v wx => ∃ j : Nat, j ≤ n ∧ v = .int .i64 (j : Int) ∧ Hid (∃ a, wx = w.drewN a) ∧ Hid (l.take j = k.take j)) (fun v _ => n - (intOf v).toNat)
    case atStart => exact ⟨0, Nat.zero_le _, rfl, ⟨0, rfl⟩, by show _ = _; simp⟩
    case round =>
      obtain ⟨j, hj, rfl, hbx, ht⟩ := hrel
      by_cases hlt : j < n
      · have hnl := H.out.2.2.1
        have hkl := H.out.2.2.2.1
        have hne : l ≠ [] := by rintro rfl; simp at hnl; omega
        have hne' : k ≠ [] := by rintro rfl; simp at hkl; simp [hkl] at hnl; omega
        have hbw : Below w.heap.size w wr := hbx.out.elim fun a e => e ▸ below_drewN (Below.refl _ _) a
        obtain ⟨b, off, rfl, hb, hc⟩ := (H.out.1.below hbw).cell hne
        obtain ⟨b', off', rfl, hb', hc'⟩ := (H.out.2.1.below hbw).cell hne'
        obtain ⟨x, hx⟩ := getI (l := l) (k := j) (by omega)
        obtain ⟨y, hy⟩ := getI (l := k) (k := j) (by omega)
        have h1 := hc j x hx
        have h2 := hc' j y hy
        have HX := Lib.hid (And.intro hx hy)
        clear hc hc' hx hy hne hne' hnl hkl hbw
        rcases (by omega : x < y ∨ y < x ∨ x = y) with hxy | hxy | hxy
        · have hlx : lexC l k = -1 := lexC_lt j H.out.2.2.2.1 (get_take_alike ht.out) ⟨x, y, HX.out.1, HX.out.2, hxy⟩
          have HC := Lib.hid hlx
          have hd : decide (x < y) = true := by rw [decide_eq_true_iff]; exact hxy
          clear hlx
          go_wp2_with fail
          go_quiet (fail)
          go_wp2_with fail
          go_ret
          exact ⟨by rw [H.out.2.2.2.2, HC.out]; rfl, quiet_more hbx.out _⟩
        · have hlx : lexC l k = 1 := lexC_gt j H.out.2.2.2.1 (get_take_alike ht.out) ⟨x, y, HX.out.1, HX.out.2, hxy⟩
          have HC := Lib.hid hlx
          have hd : decide (x < y) = false := by rw [decide_eq_false_iff_not]; omega
          have hd2 : decide (y < x) = true := by rw [decide_eq_true_iff]; exact hxy
          clear hlx
          go_wp2_with fail
          go_quiet (fail)
          go_wp2_with fail
          go_quiet (fail)
          go_wp2_with fail
          go_ret
          exact ⟨by rw [H.out.2.2.2.2, HC.out]; rfl, by first | exact quiet_more hbx.out _ | exact quiet_more (quiet_more hbx.out _) _⟩
        · subst hxy
          have hd : decide (x < x) = false := by rw [decide_eq_false_iff_not]; omega
          go_wp2_with fail
          go_quiet (fail)
          go_wp2_with fail
          go_quiet (fail)
          go_wp2_with fail
          go_roundw
          case rel => exact ⟨j + 1, by omega, by go_num, by first | exact quiet_more hbx.out _ | exact quiet_more (quiet_more hbx.out _) _, take_alike HX.out.1 HX.out.2 ht.out⟩
          case measure => simp [intOf]; omega
      · obtain rfl : j = n := by omega
        have hlx : lexC l k = 0 := by
          have e := ht.out
          rw [H.out.2.2.1, List.take_length, H.out.2.2.2.1, List.take_length] at e
          rw [e, lexC_self]
        have HC := Lib.hid hlx
        clear hlx
        go_wp2_with fail
        go_ret
        exact ⟨by rw [H.out.2.2.2.2, HC.out]; rfl, hbx.out⟩
  · have hc : cmpW l k = 1 := by unfold cmpW; rw [if_neg (by omega), if_pos (by omega)]
    have HC := Lib.hid hc
    clear hc h h' hn hm hle hdle
    go_enter Tryz.func34, Tryz.ntmps34
    go_wp2_with fail
    go_ret
    exact ⟨by rw [HC.out]; rfl, 0, rfl⟩

def TurnRel (w : World) (X : List Int) (n g : Nat) (v : Value) (wr : World) : Prop :=
  ∃ i : Nat, i ≤ n ∧ v = .int .i64 (i : Int) ∧ IntO w.heap.size wr (some ⟨g, 0, none⟩) n (X.take i ++ List.replicate (n - i) 0) ∧ Below w.heap.size w wr
theorem put_nextI {l : List Int} {j n : Nat} {x : Int} (h : l[j]? = some x) (hj : j < n) : (l.take j ++ List.replicate (n - j) 0).set j x = l.take (j + 1) ++ List.replicate (n - (j + 1)) 0 := by
  have hl := ltI h
  rw [List.set_append_right _ _ (by rw [List.length_take]; omega), List.length_take, Nat.min_eq_left (by omega), Nat.sub_self, List.take_add_one, h]
  obtain ⟨m, hm⟩ : ∃ m, n - j = m + 1 := ⟨n - j - 1, by omega⟩
  rw [hm, show n - (j + 1) = m by omega, List.replicate_succ]
  simp
set_option maxRecDepth 100000 in
set_option maxHeartbeats 4000000 in
theorem turn_ref (p : Option Addr) (n c : Nat) (l : List Int) (z : Int) (w : World) (hn : n = l.length) (h : IntV w.heap.size w p c l) (hl : l.length ≤ 17592186044000) :
    Calls Tryz.prog 38 #[.slice p n c, .int .i64 z] w (IntPost w (turnW l z)) := by
  have hle := h.le
  have hcap := h.cap
  unfold maxLen at hcap
  have hnc : n ≤ c := by omega
  have hnl : n ≤ 17592186044000 := by omega
  have hmk := makeI n hnl w
  have ho0 := IntO.made w n hnl
  have hb0 : Below w.heap.size w (w.alloc (.cells (madeCells #[.int .i64 0] n) 3)) := (Below.refl _ _).alloc (Nat.le_refl _) _
  have HO := Lib.hid (And.intro ho0 hb0)
  clear ho0 hb0
  rcases Nat.eq_zero_or_pos n with h0 | h0
  · have hl0 : l = [] := List.eq_nil_of_length_eq_zero (by omega)
    subst hl0 h0
    have HO' := Lib.hid (And.intro (show IntO w.heap.size (w.alloc (.cells (madeCells #[.int .i64 0] 0) 3)) (some ⟨w.heap.size, 0, none⟩) 0 [] from HO.out.1) HO.out.2)
    have hmk0 : (Instr.makeSlice 24 (.int .i64 0) (.int .i64 0)).run Tryz.prog w = .ok (.slice (some ⟨w.heap.size, 0, none⟩) 0 0) (w.alloc (.cells (madeCells #[.int .i64 0] 0) 3)) := makeI 0 (by omega) w
    clear h hle hn hl HO hmk
    go_enter Tryz.func38, Tryz.ntmps38
    go_wp2_with fail
    go_ret
    exact ⟨_, _, rfl, HO'.out.1, HO'.out.2⟩
  · obtain ⟨t, ht⟩ : ∃ t, turnN l z = t := ⟨_, rfl⟩
    have htn : t < n := by
      rw [← ht, hn]
      unfold turnN
      have h1 := Int.emod_lt_of_pos z (show (0 : Int) < (l.length : Int) by omega)
      have h2 := Int.emod_nonneg z (show (l.length : Int) ≠ 0 by omega)
      omega
    have htz : z % (n : Int) = (t : Int) := by
      rw [← ht, hn]
      unfold turnN
      have h2 := Int.emod_nonneg z (show (l.length : Int) ≠ 0 by omega)
      omega
    have hnz : ((n : Int) == 0) = false := by rw [beq_eq_false_iff_ne]; omega
    obtain ⟨r, hr⟩ : ∃ r, z.tmod (n : Int) = r := ⟨_, rfl⟩
    have hrt : (r < 0 ∧ r + (n : Int) = (t : Int)) ∨ (¬ r < 0 ∧ r = (t : Int)) := by
      have e := @Int.tmod_eq_emod z (n : Int)
      have hlo : -(n : Int) < r := by rw [← hr]; exact Int.lt_tmod_of_pos z (by omega)
      rw [hr, htz] at e
      split at e <;> omega
    have hX : turnW l z = rot l t := by unfold turnW; rw [ht]
    have hXl : (rot l t).length = n := by rw [rot_length, hn]
    have H := Lib.hid (And.intro h (And.intro hn (And.intro hX hXl)))
    clear ht htz h hn hX hXl hle hl
    rcases hrt with ⟨hr0, hrt⟩ | ⟨hr0, rfl⟩
    all_goals
      go_enter Tryz.func38, Tryz.ntmps38
      go_wp2_with fail
      clear hmk
      go_loopw [7] (fun v wr => TurnRel w (rot l t) n w.heap.size v wr) (fun v _ => n - (intOf v).toNat)
      case atStart => exact ⟨0, Nat.zero_le _, rfl, by rw [List.take_zero, List.nil_append, Nat.sub_zero]; exact HO.out.1, HO.out.2⟩
      case round =>
        obtain ⟨i, hi, rfl, ho, hb⟩ := hrel
        by_cases hlt : i < n
        · have hnl' := H.out.2.1
          obtain ⟨b, off, rfl, hbb, hcc⟩ := (H.out.1.next hb).cell (by rintro rfl; simp at hnl'; omega)
          obtain ⟨i1, hi1⟩ : ∃ i1, (i + t) % n = i1 := ⟨_, rfl⟩
          have h1n : i1 < n := by rw [← hi1]; exact Nat.mod_lt _ h0
          obtain ⟨x, hx⟩ := getI (l := l) (k := i1) (by omega)
          have hcx := hcc i1 x hx
          have hxr : (rot l t)[i]? = some x := by
            rw [rot_get (by omega), ← hx, ← F_mod, ← H.out.2.1, hi1, F_get (by omega)]
          have e1 : ((i : Int) + (t : Int)) % (n : Int) = (i1 : Int) := by rw [← hi1]; rfl
          have t1 : ((i : Int) + (t : Int)).tmod (n : Int) = (i1 : Int) := by rw [Int.tmod_eq_emod_of_nonneg (by omega), e1]
          have hput := put_nextI (n := n) hxr hlt
          have hlen : ((rot l t).take i ++ List.replicate (n - i) (0 : Int)).length = n := by have := H.out.2.2.2; simp; omega
          have hlen2 : ((rot l t).take (i + 1) ++ List.replicate (n - (i + 1)) (0 : Int)).length = n := by have := H.out.2.2.2; simp; omega
          have hown : wr.ownsRow w.heap.size 3 1 (.slice (some ⟨w.heap.size, 0, none⟩) n n) n (cI ((rot l t).take i ++ List.replicate (n - i) 0)) := by
            unfold IntO at ho
            rwa [hlen] at ho
          obtain ⟨y, hy⟩ := getI (l := (rot l t).take i ++ List.replicate (n - i) (0 : Int)) (k := i) (by omega)
          have hcy : wr.cell? ⟨w.heap.size, i, none⟩ = some (.int .i64 y) := (hown.cellAt i (by omega)).trans (cI_get hy)
          have hfy : wr.frozen? ⟨w.heap.size, i, none⟩ = false := hown.frozenAt i
          obtain ⟨s1, u1⟩ := hown.stored i (.int .i64 x)
          rw [← cI_set, hput] at s1
          have hb1 : Below w.heap.size w (wr.setCell ⟨w.heap.size, i, none⟩ (.int .i64 x)) := hb.setCell (p := ⟨w.heap.size, i, none⟩) (Nat.le_refl _) _
          have HS := Lib.hid (And.intro s1 (And.intro hb1 hlen2))
          clear hcc hx hi1 hxr hput hlen hlen2 hown hy s1 u1 hb1 ho hb hnl'
          go_wp2_with fail
          go_roundw
          case rel => exact ⟨i + 1, by omega, by go_num, by unfold IntO; rw [HS.out.2.2]; exact HS.out.1, HS.out.2.1⟩
          case measure => simp [intOf]; omega
        · obtain rfl : i = n := by omega
          have he : (rot l t).take i ++ List.replicate (i - i) (0 : Int) = rot l t := by rw [Nat.sub_self, List.replicate_zero, List.append_nil, ← H.out.2.2.2, List.take_length]
          rw [he] at ho
          have HF := Lib.hid (And.intro ho hb)
          clear ho hb he
          go_wp2_with fail
          go_ret
          exact ⟨_, _, by rw [H.out.2.2.1, H.out.2.2.2]; rfl, by rw [H.out.2.2.1]; exact HF.out.1, HF.out.2⟩
theorem turnW_nat' (l : List Int) (t : Nat) : turnW l (t : Int) = rot l t := by
  unfold turnW turnN
  have : (t : Int) % (l.length : Int) = ((t % l.length : Nat) : Int) := rfl
  rw [this, Int.toNat_natCast, rot_mod]
end Go.Proofs.YtfgoflaeclfggaaGreatDoor
end
section
namespace Go.Proofs.YtfgoflaeclfggaaGreatDoor
open Go.RowKit Go.Extern.Stop Go.Stop Go.Extern WordM NatM

def ProgE (A : Nat → Addr) (x : OErr) (w : World) (e : Ending) (w' : World) : Prop := ∃ v, e = .returned v ∧ PChn w' A x v ∧ Below w.heap.size w w'
def RefE (x : OErr) (w : World) (e : Ending) (w' : World) : Prop :=
  ∃ a po pa n, e = .returned (.agg #[.int .i64 a, .slice po n n, .slice pa n n]) ∧ WChn w' x a po pa n ∧ Below w.heap.size w w'
/-- a word of n symbols, laid anew or not -/
def IntsP (L : List Int) (n : Nat) (w : World) (e : Ending) (w' : World) : Prop := ∃ p c, e = .returned (.slice p n c) ∧ IntV w'.heap.size w' p c L ∧ Below w.heap.size w w'
theorem IntPost.ints {w w' : World} {L : List Int} {n : Nat} {e : Ending} (hn : L.length = n) (h : IntPost w L e w') : IntsP L n w e w' := by
  subst hn
  obtain ⟨p, c, he, ho, hb⟩ := h
  exact ⟨p, c, he, ho.toV, hb⟩
set_option maxRecDepth 100000 in
set_option maxHeartbeats 16000000 in
theorem playsW_0 (k K N : Int) (p q r : Option Addr) (n c m d f : Nat) (b : List Nat) (s : ByteArray) (x : OErr) (w : World) (A : Nat → Addr) (hr : Roots w A) (hT : TypeVar w) (hxx : ∀ y, x = some y → 1 ≤ y.2 ∧ y.2 ≤ 11) (hpf : ∀ W : World, Below w.heap.size w W → Calls Tryz.prog 21 #[.int .i64 K, .slice p n c] W (ProgE A x W)) (hrf : ∀ W : World, Below w.heap.size w W → Calls Tryz.prog 22 #[.int .i64 K, .slice p n c] W (RefE x W)) (hk : kind8 k = 0) :
    Calls Tryz.prog 8 #[.agg #[.int .i64 k, .int .i64 K, .int .i64 N, .slice p n c, .slice q m d, .slice r b.length f, .string s]] w (Tells (.bool true) w) := by
  have hk' : (k.tmod 8 + 8).tmod 8 = 0 := hk
  have hkl : -8 < k.tmod 8 := Int.lt_tmod_of_pos k (by omega)
  have hkg : k.tmod 8 < 8 := Int.tmod_lt_of_pos k (by omega)
  clear hk
  go_enter Tryz.func8, Tryz.ntmps8
  obtain ⟨w0, hw0⟩ : ∃ w0, w0 = w.alloc (.cells #[.int .i64 k, .int .i64 K, .int .i64 N, .slice p n c, .slice q m d, .slice r b.length f, .string s] 28) := ⟨_, rfl⟩
  have hb0 : Below w.heap.size w w0 := by rw [hw0]; exact (Below.refl _ _).alloc (Nat.le_refl _) _
  have hs0 : w0.heap.size = w.heap.size + 1 := by rw [hw0]; simp
  have hx : ∀ wx : World, Below w0.heap.size w0 wx → wx.cell? ⟨w.heap.size, 1, none⟩ = some (.int .i64 K) ∧ wx.cell? ⟨w.heap.size, 3, none⟩ = some (.slice p n c) := fun wx hb =>
    ⟨by rw [hb.cell (p := ⟨w.heap.size, 1, none⟩) (by simp; omega), hw0, cell_alloc_at _ _ _ _ _ rfl]; rfl, by rw [hb.cell (p := ⟨w.heap.size, 3, none⟩) (by simp; omega), hw0, cell_alloc_at _ _ _ _ _ rfl]; rfl⟩
  have H0 := Lib.hid hb0
  clear hb0
  go_upto_region 3 with fail
  rw [← hw0]
  clear hw0
  have hd0 : Below w0.heap.size w0 w0.drew := (Below.refl _ _).drew
  have h1 := (hx w0 (Below.refl _ _)).1
  have h2 := (hx w0 (Below.refl _ _)).2
  have hf1 : ∀ W : World, Below w0.heap.size w0 W → Calls Tryz.prog 21 #[.int .i64 K, .slice p n c] W (ProgE A x W) := fun W hb => hpf W (H0.out.trans (hb.mono H0.out.size))
  have hf2 : ∀ W : World, Below w0.heap.size w0 W → Calls Tryz.prog 22 #[.int .i64 K, .slice p n c] W (RefE x W) := fun W hb => hrf W (H0.out.trans (hb.mono H0.out.size))
  have hf3 : ∀ (W : World) (v : Value) (a : Int) (po pa : Option Addr) (z : Nat), Below w0.heap.size w0 W → PChn W A x v → WChn W x a po pa z → Calls Tryz.prog 20 #[v, .agg #[.int .i64 a, .slice po z z, .slice pa z z]] W (Tells (.bool true) W) := fun W v a po pa z hb h1 h2 => is_chn (hr.below (H0.out.trans (hb.mono H0.out.size))) (hT.below (H0.out.trans (hb.mono H0.out.size))) hxx h1 h2
  clear hpf hrf hr hT hxx
  go_region_held3 (fun w' => w'.cell? ⟨w.heap.size, 1, none⟩ = some (.int .i64 K) ∧ w'.cell? ⟨w.heap.size, 3, none⟩ = some (.slice p n c)) (first | exact hx _ (by assumption) | exact hx _ (Below.refl _ _) | exact hx _ hd0 | go_keep) (first
    | (go_at_call 21; refine (hf1 _ (by first | assumption | exact Below.refl _ _)).mono ?_; rintro e wa ⟨va, rfl, hpa, hba⟩; have hBa : Below w0.heap.size w0 wa := (by first | exact hba | exact hd0.trans (hba.mono hd0.size)))
    | (go_at_call 22; refine (hf2 _ (by first | assumption)).mono ?_; rintro e wb ⟨ab, pob, pab, zb, rfl, hwb, hbb⟩; have hBb : Below w0.heap.size w0 wb := hBa.trans (hbb.mono hBa.size))
    | (go_at_call 20; refine (hf3 _ _ _ _ _ _ hBb (hpa.next hbb) hwb).mono ?_; rintro e wc ⟨rfl, hbc⟩; have hBc : Below w0.heap.size w0 wc := hBb.trans (hbc.mono hBb.size)))
  all_goals
    have HZ := Lib.hid (H0.out.trans (hBc.mono H0.out.size))
    clear hf1 hf2 hf3 hx hba hbb hbc hBa hBb hBc hpa hwb
    go_wp2_with fail
    go_ret
    exact ⟨rfl, HZ.out⟩
set_option maxRecDepth 100000 in
set_option maxHeartbeats 16000000 in
theorem playsW_7 (k K N : Int) (p q r : Option Addr) (n c m d f : Nat) (b : List Nat) (s : ByteArray) (l t : List Int) (w : World) (hn : n = l.length) (hm : m = t.length) (hv : IntV w.heap.size w p c l) (hu : IntV w.heap.size w q d t) (hl : l.length ≤ 17592186044000) (hk : kind8 k = 7) :
    Calls Tryz.prog 8 #[.agg #[.int .i64 k, .int .i64 K, .int .i64 N, .slice p n c, .slice q m d, .slice r b.length f, .string s]] w (Tells (.bool true) w) := by
  have hk' : (k.tmod 8 + 8).tmod 8 = 7 := hk
  have hkl : -8 < k.tmod 8 := Int.lt_tmod_of_pos k (by omega)
  have hkg : k.tmod 8 < 8 := Int.tmod_lt_of_pos k (by omega)
  clear hk
  have HN := Lib.hid (And.intro hn (And.intro hm (And.intro hv (And.intro hu hl))))
  clear hn hm hv hu hl
  go_enter Tryz.func8, Tryz.ntmps8
  obtain ⟨w0, hw0⟩ : ∃ w0, w0 = w.alloc (.cells #[.int .i64 k, .int .i64 K, .int .i64 N, .slice p n c, .slice q m d, .slice r b.length f, .string s] 28) := ⟨_, rfl⟩
  have hb0 : Below w.heap.size w w0 := by rw [hw0]; exact (Below.refl _ _).alloc (Nat.le_refl _) _
  have hs0 : w0.heap.size = w.heap.size + 1 := by rw [hw0]; simp
  have hx : ∀ wx : World, Below w0.heap.size w0 wx → wx.cell? ⟨w.heap.size, 2, none⟩ = some (.int .i64 N) ∧ wx.cell? ⟨w.heap.size, 3, none⟩ = some (.slice p n c) ∧ wx.cell? ⟨w.heap.size, 4, none⟩ = some (.slice q m d) := fun wx hb =>
    ⟨by rw [hb.cell (p := ⟨w.heap.size, 2, none⟩) (by simp; omega), hw0, cell_alloc_at _ _ _ _ _ rfl]; rfl, by rw [hb.cell (p := ⟨w.heap.size, 3, none⟩) (by simp; omega), hw0, cell_alloc_at _ _ _ _ _ rfl]; rfl, by rw [hb.cell (p := ⟨w.heap.size, 4, none⟩) (by simp; omega), hw0, cell_alloc_at _ _ _ _ _ rfl]; rfl⟩
  have H0 := Lib.hid hb0
  clear hb0
  go_upto_region 28 with fail
  rw [← hw0]
  clear hw0
  have hd0 : Below w0.heap.size w0 w0.drew := (Below.refl _ _).drew
  have h1 := (hx w0 (Below.refl _ _)).1
  have h2 := (hx w0 (Below.refl _ _)).2.1
  have h3 := (hx w0 (Below.refl _ _)).2.2
  obtain ⟨hn, hm, hv, hu, hl⟩ := HN.out
  obtain ⟨C, hC⟩ : ∃ C, cmpW l t = C := ⟨_, rfl⟩
  obtain ⟨L1, hL1⟩ : ∃ z, l.reverse = z := ⟨_, rfl⟩
  obtain ⟨L2, hL2⟩ : ∃ z, turnW l N = z := ⟨_, rfl⟩
  obtain ⟨n1, hn1⟩ : ∃ z, L1.length = z := ⟨_, rfl⟩
  obtain ⟨n2, hn2⟩ : ∃ z, L2.length = z := ⟨_, rfl⟩
  have hV : ∀ W : World, Below w0.heap.size w0 W → IntV W.heap.size W p c l := fun W hb => hv.next (H0.out.trans (hb.mono H0.out.size))
  have hU : ∀ W : World, Below w0.heap.size w0 W → IntV W.heap.size W q d t := fun W hb => hu.next (H0.out.trans (hb.mono H0.out.size))
  have hf1 : ∀ W : World, Below w0.heap.size w0 W → Calls Tryz.prog 18 #[.slice p n c, .slice q m d] W (Tells (.int .i64 C) W) := fun W hb => by rw [← hC]; exact Tells.of_same (cmp_w p q n m c d l t W hn hm (hV W hb) (hU W hb))
  have hf2 : ∀ W : World, Below w0.heap.size w0 W → Calls Tryz.prog 34 #[.slice p n c, .slice q m d] W (Tells (.int .i64 C) W) := fun W hb => by rw [← hC]; exact Quiet.tells (cmp_refW p q n m c d l t W hn hm (hV W hb) (hU W hb))
  have hf3 : ∀ W : World, Below w0.heap.size w0 W → Calls Tryz.prog 35 #[.slice p n c] W (IntsP L1 n1 W) := fun W hb => by rw [← hL1] at hn1 ⊢; exact (back_any p n c l W hn (hV W hb) hl).mono fun _ _ h => h.ints hn1
  have hf4 : ∀ W : World, Below w0.heap.size w0 W → Calls Tryz.prog 36 #[.slice p n c] W (IntsP L1 n1 W) := fun W hb => by rw [← hL1] at hn1 ⊢; exact (back_ref p n c l W hn (hV W hb) hl).mono fun _ _ h => h.ints hn1
  have hf5 : ∀ W : World, Below w0.heap.size w0 W → Calls Tryz.prog 37 #[.slice p n c, .int .i64 N] W (IntsP L2 n2 W) := fun W hb => by rw [← hL2] at hn2 ⊢; exact (turn_any p n c l N W hn (hV W hb) hl).mono fun _ _ h => h.ints hn2
  have hf6 : ∀ W : World, Below w0.heap.size w0 W → Calls Tryz.prog 38 #[.slice p n c, .int .i64 N] W (IntsP L2 n2 W) := fun W hb => by rw [← hL2] at hn2 ⊢; exact (turn_ref p n c l N W hn (hV W hb) hl).mono fun _ _ h => h.ints hn2
  have hg1 : ∀ (W : World) (p1 p2 : Option Addr) (c1 c2 : Nat), IntV W.heap.size W p1 c1 L1 → IntV W.heap.size W p2 c2 L1 → Calls Tryz.prog 17 #[.slice p1 n1 c1, .slice p2 n1 c2] W (Tells (.bool true) W) := fun W p1 p2 c1 c2 h1 h2 => by have := ints_any p1 p2 n1 n1 c1 c2 L1 L1 W hn1.symm hn1.symm h1 h2; rwa [sameI_self] at this
  have hg2 : ∀ (W : World) (p1 p2 : Option Addr) (c1 c2 : Nat), IntV W.heap.size W p1 c1 L2 → IntV W.heap.size W p2 c2 L2 → Calls Tryz.prog 17 #[.slice p1 n2 c1, .slice p2 n2 c2] W (Tells (.bool true) W) := fun W p1 p2 c1 c2 h1 h2 => by have := ints_any p1 p2 n2 n2 c1 c2 L2 L2 W hn2.symm hn2.symm h1 h2; rwa [sameI_self] at this
  clear hC hL1 hL2 hn1 hn2 hV hU hv hu hl hn hm
  go_region_held3 (fun w' => w'.cell? ⟨w.heap.size, 2, none⟩ = some (.int .i64 N) ∧ w'.cell? ⟨w.heap.size, 3, none⟩ = some (.slice p n c) ∧ w'.cell? ⟨w.heap.size, 4, none⟩ = some (.slice q m d)) (first | exact hx _ (by assumption) | exact hx _ (Below.refl _ _) | exact hx _ hd0 | go_keep) (first
    | (go_at_call 18; refine (hf1 _ (by first | assumption | exact Below.refl _ _)).mono ?_; rintro e wa ⟨rfl, hba⟩; have hBa : Below w0.heap.size w0 wa := (by first | exact hba | exact hd0.trans (hba.mono hd0.size)))
    | (go_at_call 34; refine (hf2 _ (by first | assumption)).mono ?_; rintro e wb ⟨rfl, hbb⟩; have hBb : Below w0.heap.size w0 wb := hBa.trans (hbb.mono hBa.size))
    | (go_at_call 35; refine (hf3 _ (by first | assumption)).mono ?_; rintro e wc ⟨pc, cc, rfl, hvc, hbc⟩; have hBc : Below w0.heap.size w0 wc := hBb.trans (hbc.mono hBb.size))
    | (go_at_call 36; refine (hf4 _ (by first | assumption)).mono ?_; rintro e wd ⟨pd, cd, rfl, hvd, hbd⟩; have hBd : Below w0.heap.size w0 wd := hBc.trans (hbd.mono hBc.size))
    | (go_at_call 17; refine (hg2 _ _ _ _ _ (hvf.next hbg) hvg).mono ?_; rintro e wh ⟨rfl, hbh⟩; have hBh : Below w0.heap.size w0 wh := hBg.trans (hbh.mono hBg.size))
    | (go_at_call 17; refine (hg1 _ _ _ _ _ (hvc.next hbd) hvd).mono ?_; rintro e we ⟨rfl, hbe⟩; have hBe : Below w0.heap.size w0 we := hBd.trans (hbe.mono hBd.size))
    | (go_at_call 37; refine (hf5 _ (by first | assumption)).mono ?_; rintro e wf ⟨pf, cf, rfl, hvf, hbf⟩; have hBf : Below w0.heap.size w0 wf := hBe.trans (hbf.mono hBe.size))
    | (go_at_call 38; refine (hf6 _ (by first | assumption)).mono ?_; rintro e wg ⟨pg, cg, rfl, hvg, hbg⟩; have hBg : Below w0.heap.size w0 wg := hBf.trans (hbg.mono hBf.size)))
  all_goals
    have HZ := Lib.hid (H0.out.trans (hBh.mono H0.out.size))
    clear hf1 hf2 hf3 hf4 hf5 hf6 hg1 hg2 hx hba hbb hbc hbd hbe hbf hbg hbh hBa hBb hBc hBd hBe hBf hBg hBh hvc hvd hvf hvg
    go_wp2_with fail
    go_ret
    exact ⟨rfl, HZ.out⟩
end Go.Proofs.YtfgoflaeclfggaaGreatDoor
end
section
namespace Go.Proofs.YtfgoflaeclfggaaGreatDoor
open Go.RowKit Go.Extern.Stop Go.Stop Go.Extern WordM NatM

/-- the word of n symbols with this number, and no error -/
def AtOk (w : World) (k n i : Nat) (e : Ending) (w' : World) : Prop := ∃ x : List Int, x.length = n ∧ okW k x ∧ valW k x = i ∧ IntOk w x e w'
def AtRel (w : World) (k n i : Nat) (g : Nat) (v2 v11 : Value) (wr : World) : Prop :=
  ∃ (j R : Nat) (x : List Int) (q : Option Addr) (cq : Nat) (b : List Nat), j ≤ n ∧ v11 = .int .i64 ((j : Int) - 1) ∧ v2 = .slice q b.length cq ∧ V32 b = R ∧ NatV wr.heap.size wr q cq b ∧ b.length ≤ 100000 ∧
    x.length = n - j ∧ okW k x ∧ valW k x + k ^ (n - j) * R = i ∧ IntO w.heap.size wr (some ⟨g, 0, none⟩) n (List.replicate j 0 ++ x) ∧ w.heap.size ≤ g ∧ Below w.heap.size w wr
def OverIs (w : World) (q d : Nat) (e : Ending) (w' : World) : Prop :=
  ∃ p c, e = .returned (.tuple #[.slice p (D32 q).length c, .int .u32 (d : Int), .nilIface]) ∧ NatO w.heap.size w' p c (D32 q) ∧ Below w.heap.size w w'
theorem over_is {w : World} {n d q r : Nat} {e : Ending} {w' : World} (hq : n / d = q) (hr : n % d = r) (h : OverPost w n d e w') : OverIs w q r e w' := by
  subst hq hr
  exact h
theorem set_front {x : List Int} {j : Nat} {v : Int} : (List.replicate (j + 1) (0 : Int) ++ x).set j v = List.replicate j 0 ++ v :: x := by
  rw [List.replicate_succ', List.append_assoc, List.set_append_right _ _ (by simp), List.length_replicate, Nat.sub_self]
  rfl
set_option maxRecDepth 100000 in
set_option maxHeartbeats 4000000 in
theorem at_ok (k n : Nat) (p : Option Addr) (m c : Nat) (a : List Nat) (w : World) (hm : m = a.length) (h : NatV w.heap.size w p c a) (hl : a.length ≤ 100000) (h1 : 1 ≤ k) (h4 : k ≤ 4) (h256 : n ≤ 256) (hlt : V32 a < k ^ n) :
    Calls Tryz.prog 27 #[.int .i64 (k : Int), .int .i64 (n : Int), .slice p m c] w (AtOk w k n (V32 a)) := by
  subst hm
  have hpow := pow_any k n (by omega) (by omega) w
  have hpl : (D32 (k ^ n)).length ≤ 100000 := by
    have h2 : k ^ n ≤ 4294967296 ^ n := Nat.pow_le_pow_left (by omega) n
    have h3 : 4294967296 ^ n < 4294967296 ^ (n + 1) := Nat.pow_lt_pow_right (by omega) (by omega)
    have := D32_len (n := k ^ n) (k := n + 1) (by omega)
    omega
  have hck := cmp_lt hlt
  have H := Lib.hid (And.intro h (And.intro hl (And.intro hlt (And.intro hpl (And.intro hck hpow)))))
  clear h hl hlt hpow hpl hck
  have hdn : decide ((n : Int) < 0) = false := by rw [decide_eq_false_iff_not]; omega
  go_enter Tryz.func27, Tryz.ntmps27
  go_wp2_with fail
  refine (alpha_yes _ _ (by omega) (by omega)).mono ?_
  rintro e w' ⟨rfl, rfl⟩
  go_wp2_with fail
  refine H.out.2.2.2.2.2.mono ?_
  rintro e w1 ⟨p1, c1, rfl, ho1, hb1⟩
  have hcmp := cmp_any p p1 c c1 a (D32 (k ^ n)) w1 (H.out.1.next hb1) ho1.toV
  have hcv : cmpV a (D32 (k ^ n)) = .int .i64 (-1) := by unfold cmpV; rw [V32_D32, H.out.2.2.2.2.1]
  rw [hcv] at hcmp
  have HB1 := Lib.hid (And.intro hb1 hcmp)
  clear ho1 hb1 hcmp hcv
  go_wp2_with fail
  refine HB1.out.2.mono ?_
  rintro e w2 ⟨rfl, hb2⟩
  have hmk := makeI n (by omega) w2
  have hb02 : Below w.heap.size w w2 := HB1.out.1.trans (hb2.mono HB1.out.1.size)
  have HB2 := Lib.hid hb02
  clear hb2 hb02
  go_wp2_with fail
  clear hmk
  have ho0 := IntO.made w2 n (by omega)
  have hbm : Below w.heap.size w (w2.alloc (.cells (madeCells #[.int .i64 0] n) 3)) := HB2.out.alloc HB2.out.size _
  obtain ⟨g, hg⟩ : ∃ g, g = w2.heap.size := ⟨_, rfl⟩
  rw [← hg] at ho0 ⊢
  have HM := Lib.hid (And.intro (ho0.base (by rw [hg]; exact HB2.out.size : w.heap.size ≤ g)) (And.intro hbm (by rw [hg]; exact HB2.out.size : w.heap.size ≤ g)))
  clear ho0 hbm hg
  go_loopw [2, 11] (fun v2 v11 wr => AtRel w k n (V32 a) g v2 v11 wr) (fun _ v _ => (intOf v + 1).toNat)
  case atStart => exact ⟨n, V32 a, [], p, c, a, Nat.le_refl _, rfl, rfl, rfl, H.out.1.next HM.out.2.1, H.out.2.1, by simp, okW_nil k, by rw [Nat.sub_self, Nat.pow_zero, Nat.one_mul]; exact Nat.zero_add _, by rw [List.append_nil]; exact HM.out.1, HM.out.2.2, HM.out.2.1⟩
  case round =>
    obtain ⟨j, R, x, q, cq, b, hj, rfl, rfl, hR, hbv, hbl, hxl, hxo, hxv, ho, hgB, hb⟩ := hrel
    rcases Nat.eq_zero_or_pos j with rfl | hj0
    · have hxa : valW k x = V32 a := at_done hxv (by rw [Nat.sub_zero]; exact H.out.2.2.1)
      rw [Nat.sub_zero] at hxl
      have ho' : IntO w.heap.size wr (some ⟨g, 0, none⟩) n x := ho
      have HF := Lib.hid (And.intro hxl (And.intro hxo (And.intro hxa (And.intro ho' hb))))
      clear hR hbv hbl hxl hxo hxv ho ho' hb hxa
      go_wp2_with fail
      go_ret2
      exact ⟨x, HF.out.1, HF.out.2.1, HF.out.2.2.1, _, _, by rw [HF.out.1]; rfl, HF.out.2.2.2.1, HF.out.2.2.2.2⟩
    · obtain ⟨i, rfl⟩ : ∃ i, j = i + 1 := ⟨j - 1, by omega⟩
      have e1 : (((i + 1 : Nat) : Int) - 1) = (i : Int) := by omega
      rw [e1]
      have hov := over_any q cq b k wr hbv hbl h1 (by omega)
      rw [hR] at hov
      have hq : (D32 (R / k)).length ≤ 100000 := by
        have h2 : R / k ≤ R := Nat.div_le_self _ _
        rcases Nat.lt_or_ge 100000 (D32 (R / k)).length with h3 | h3
        · have h5 : (D32 R).length ≤ b.length := by rw [← hR]; exact D32_le hbv.ok
          have := cmp_len (m := R) (n := R / k) (by omega)
          omega
        · exact h3
      have hst := at_step (k := k) (p := n - (i + 1)) (i := R) (i0 := V32 a) hxl hxv
      obtain ⟨d, hd⟩ : ∃ d, R % k = d := ⟨_, rfl⟩
      obtain ⟨Q, hQ⟩ : ∃ Q, R / k = Q := ⟨_, rfl⟩
      have hdk : d < k := by rw [← hd]; exact Nat.mod_lt _ h1
      have hov := hov.mono fun e w' h => over_is hQ hd h
      rw [hd, hQ] at hst
      rw [hQ] at hq
      have hlen : (List.replicate (i + 1) (0 : Int) ++ x).length = n := by simp; omega
      have hown : wr.ownsRow w.heap.size 3 1 (.slice (some ⟨g, 0, none⟩) n n) n (cI (List.replicate (i + 1) 0 ++ x)) := by
        unfold IntO at ho
        rwa [hlen] at ho
      have hin : i < n := by omega
      have HS := Lib.hid (And.intro hov (And.intro hq (And.intro hst (And.intro hown (And.intro hb (And.intro hxo hxl))))))
      clear hov hq hst hown hb hxo hxl hxv ho hlen hR hbv hbl hd hQ e1
      go_wp2_with fail
      refine HS.out.1.mono ?_
      rintro e w3 ⟨p3, c3, rfl, ho3, hb3⟩
      have hown3 := ownsRow_below hb3 HS.out.2.2.2.1
      obtain ⟨y, hy⟩ := getI (l := List.replicate (i + 1) (0 : Int) ++ x) (k := i) (by simp; omega)
      have hcy : w3.cell? ⟨g, i, none⟩ = some (.int .i64 y) := (hown3.cellAt i (by omega)).trans (cI_get hy)
      have hfy : w3.frozen? ⟨g, i, none⟩ = false := hown3.frozenAt i
      obtain ⟨s1, t1⟩ := hown3.stored i (.int .i64 (d : Int))
      rw [← cI_set, set_front] at s1
      have hb03 : Below w.heap.size w w3 := HS.out.2.2.2.2.1.trans (hb3.mono HS.out.2.2.2.2.1.size)
      have hb4 : Below w.heap.size w (w3.setCell ⟨g, i, none⟩ (.int .i64 (d : Int))) := hb03.setCell (p := ⟨g, i, none⟩) hgB _
      have hv3 : NatV (w3.setCell ⟨g, i, none⟩ (.int .i64 (d : Int))).heap.size (w3.setCell ⟨g, i, none⟩ (.int .i64 (d : Int))) p3 c3 (D32 Q) := by
        have hgl : g < wr.heap.size := by
          rcases own_shape HS.out.2.2.2.1 with ⟨hv, h0, _⟩ | ⟨g', cap, hv, _, hlt', _⟩
          · simp at hv
          · have e : g = g' := by simpa using (Value.slice.inj hv).1
            omega
        have ho4 : NatO wr.heap.size (w3.setCell ⟨g, i, none⟩ (.int .i64 (d : Int))) p3 c3 (D32 Q) := ⟨ownsRow_setCell_below ho3.own (a := ⟨g, i, none⟩) hgl _, ho3.ok⟩
        exact ho4.toV
      have HF := Lib.hid (And.intro s1 (And.intro hb4 hv3))
      clear hown3 hy s1 t1 hb03 hb4 hv3 ho3 hb3
      go_wp2_with fail
      go_roundw
      case rel =>
        refine ⟨i, Q, (d : Int) :: x, p3, c3, D32 Q, by omega, rfl, rfl, V32_D32 Q, HF.out.2.2, HS.out.2.1, ?_, ?_, ?_, ?_, hgB, HF.out.2.1⟩
        · rw [List.length_cons, HS.out.2.2.2.2.2.2]; omega
        · intro z hz
          rcases List.mem_cons.1 hz with rfl | hz
          · omega
          · exact HS.out.2.2.2.2.2.1 z hz
        · have := HS.out.2.2.1
          rw [show n - (i + 1) + 1 = n - i by omega] at this
          exact this
        · unfold IntO
          have hlen : (List.replicate i (0 : Int) ++ (d : Int) :: x).length = n := by simp; have := HS.out.2.2.2.2.2.2; omega
          rw [hlen]; exact HF.out.1
      case measure => simp [intOf]
end Go.Proofs.YtfgoflaeclfggaaGreatDoor
end
section
namespace Go.Proofs.YtfgoflaeclfggaaGreatDoor
open Go.RowKit Go.Extern.Stop Go.Stop Go.Extern WordM NatM

set_option maxRecDepth 100000 in
set_option maxHeartbeats 1000000 in
theorem at_arg (k n : Int) (p : Option Addr) (m c : Nat) (w : World) (A : Nat → Addr) (hr : Roots w A) (h : (k < 1 ∨ 4 < k) ∨ n < 0) :
    Calls Tryz.prog 27 #[.int .i64 k, .int .i64 n, .slice p m c] w (Err2 w A wordOp 0 3 (.slice none 0 0)) := by
  have HR := Lib.hid hr
  clear hr
  by_cases hk : k < 1 ∨ 4 < k
  · clear h
    go_enter Tryz.func27, Tryz.ntmps27
    go_wp2_with fail
    refine (alpha_no _ _ hk).mono ?_
    rintro e w' ⟨rfl, rfl⟩
    go_wp2_with fail
    refine (new_at wordOp 0 3 _ A HR.out (by omega)).mono ?_
    rintro e w1 ⟨b, rfl, hl1, hb1⟩
    have H := Lib.hid (And.intro hl1 hb1)
    clear hl1 hb1
    go_wp2_with fail
    go_ret2
    exact ⟨_, rfl, H.out.1, H.out.2⟩
  · have hn : n < 0 := by omega
    have hk1 : 1 ≤ k := by omega
    have hk4 : k ≤ 4 := by omega
    clear h hk
    go_enter Tryz.func27, Tryz.ntmps27
    go_wp2_with fail
    refine (alpha_yes _ _ hk1 hk4).mono ?_
    rintro e w' ⟨rfl, rfl⟩
    go_wp2_with fail
    refine (new_at wordOp 0 3 _ A HR.out (by omega)).mono ?_
    rintro e w1 ⟨b, rfl, hl1, hb1⟩
    have H := Lib.hid (And.intro hl1 hb1)
    clear hl1 hb1
    go_wp2_with fail
    go_ret2
    exact ⟨_, rfl, H.out.1, H.out.2⟩
set_option maxRecDepth 100000 in
set_option maxHeartbeats 1000000 in
theorem at_long (k n : Int) (p : Option Addr) (m c : Nat) (w : World) (A : Nat → Addr) (hr : Roots w A) (hk1 : 1 ≤ k) (hk4 : k ≤ 4) (hn : 256 < n) :
    Calls Tryz.prog 27 #[.int .i64 k, .int .i64 n, .slice p m c] w (Err2 w A wordOp 0 4 (.slice none 0 0)) := by
  have HR := Lib.hid hr
  have hn0 : ¬ n < 0 := by omega
  clear hr
  go_enter Tryz.func27, Tryz.ntmps27
  go_wp2_with fail
  refine (alpha_yes _ _ hk1 hk4).mono ?_
  rintro e w' ⟨rfl, rfl⟩
  go_wp2_with fail
  refine (new_at wordOp 0 4 _ A HR.out (by omega)).mono ?_
  rintro e w1 ⟨b, rfl, hl1, hb1⟩
  have H := Lib.hid (And.intro hl1 hb1)
  clear hl1 hb1
  go_wp2_with fail
  go_ret2
  exact ⟨_, rfl, H.out.1, H.out.2⟩
set_option maxRecDepth 100000 in
set_option maxHeartbeats 4000000 in
theorem at_over (k n : Nat) (p : Option Addr) (m c : Nat) (a : List Nat) (w : World) (A : Nat → Addr) (hr : Roots w A) (hm : m = a.length) (h : NatV w.heap.size w p c a) (h1 : 1 ≤ k) (h4 : k ≤ 4) (h256 : n ≤ 256) (hge : k ^ n ≤ V32 a) :
    Calls Tryz.prog 27 #[.int .i64 (k : Int), .int .i64 (n : Int), .slice p m c] w (Err2 w A wordOp 0 3 (.slice none 0 0)) := by
  subst hm
  have hpow := pow_any k n (by omega) (by omega) w
  have hcv : ∃ r : Int, 0 ≤ r ∧ cmpN (V32 a) (k ^ n) = r := by
    rcases Nat.lt_or_ge (k ^ n) (V32 a) with h1 | h1
    · exact ⟨1, by omega, by rw [cmp_gt h1]⟩
    · exact ⟨0, by omega, by rw [show V32 a = k ^ n by omega, cmp_eq]⟩
  obtain ⟨r, hr0, hcr⟩ := hcv
  have H := Lib.hid (And.intro h (And.intro hcr (And.intro hpow hr)))
  clear h hcr hpow hr hge
  have hdn : decide ((n : Int) < 0) = false := by rw [decide_eq_false_iff_not]; omega
  go_enter Tryz.func27, Tryz.ntmps27
  go_wp2_with fail
  refine (alpha_yes _ _ (by omega) (by omega)).mono ?_
  rintro e w' ⟨rfl, rfl⟩
  go_wp2_with fail
  refine H.out.2.2.1.mono ?_
  rintro e w1 ⟨p1, c1, rfl, ho1, hb1⟩
  have hcmp := cmp_any p p1 c c1 a (D32 (k ^ n)) w1 (H.out.1.next hb1) ho1.toV
  have hcv : cmpV a (D32 (k ^ n)) = .int .i64 r := by unfold cmpV; rw [V32_D32, H.out.2.1]
  rw [hcv] at hcmp
  have HB1 := Lib.hid (And.intro hb1 hcmp)
  clear ho1 hb1 hcmp hcv
  go_wp2_with fail
  refine HB1.out.2.mono ?_
  rintro e w2 ⟨rfl, hb2⟩
  have hb02 : Below w.heap.size w w2 := HB1.out.1.trans (hb2.mono HB1.out.1.size)
  have HB2 := Lib.hid (And.intro hb02 (H.out.2.2.2.below hb02))
  clear hb2 hb02
  go_wp2_with fail
  refine (new_at wordOp 0 3 _ A HB2.out.2 (by omega)).mono ?_
  rintro e w3 ⟨b, rfl, hl3, hb3⟩
  have HF := Lib.hid (And.intro hl3 (HB2.out.1.trans (hb3.mono HB2.out.1.size)))
  clear hl3 hb3
  go_wp2_with fail
  go_ret2
  exact ⟨_, rfl, HF.out.1, HF.out.2⟩

/-- whatever Pow tells -/
def PowSome (w : World) (e : Ending) (w' : World) : Prop := ∃ p n c v, e = .returned (.tuple #[.slice p n c, v]) ∧ Below w.heap.size w w'
theorem pow_some (k n : Int) (w : World) (A : Nat → Addr) (hr : Roots w A) (hk : 0 ≤ k) (hk2 : k < 4294967296) : Calls Tryz.prog 76 #[.int .u32 k, .int .i64 n] w (PowSome w) := by
  rcases (by omega : n < 0 ∨ 1024 < n ∨ (0 ≤ n ∧ n ≤ 1024)) with h | h | ⟨h1, h2⟩
  · refine (pow_neg k n h w A hr).mono fun e w' ⟨b, he, _, hb⟩ => ⟨_, _, _, _, he, hb⟩
  · refine (pow_big k n h w A hr).mono fun e w' ⟨b, he, _, hb⟩ => ⟨_, _, _, _, he, hb⟩
  · obtain ⟨m, rfl⟩ : ∃ m : Nat, n = (m : Int) := ⟨n.toNat, by omega⟩
    obtain ⟨q, rfl⟩ : ∃ q : Nat, k = (q : Int) := ⟨k.toNat, by omega⟩
    refine (pow_any q m (by omega) (by omega) w).mono fun e w' ⟨p, c, he, _, hb⟩ => ⟨_, _, _, _, he, hb⟩
end Go.Proofs.YtfgoflaeclfggaaGreatDoor
end
