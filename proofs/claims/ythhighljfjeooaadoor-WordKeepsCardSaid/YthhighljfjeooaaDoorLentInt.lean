/- edenraw.Lent, Kept and Copy, by contracts. -/
import Derived.Test.YthhighljfjeooaaDoorIntE
import Derived.Laws.CopyOwn
import Derived.Laws.AppendOwnNone
namespace Go.Proofs.YthhighljfjeooaaDoor
open Go.RowKit

/-- a lent list: its block holds it, and the two marks behind -/
def LentI (w : World) (g : Nat) (l : List Int) : Prop := w.heap[g]? = some (.cells (cI (l ++ [7001, 7002])).toArray 3 (0, 0))
theorem LentI.lt {w : World} {g : Nat} {l : List Int} (h : LentI w g l) : g < w.heap.size := heap_ltN h
theorem LentI.cell {w : World} {g : Nat} {l : List Int} (h : LentI w g l) {j : Nat} {x : Int} (hx : (l ++ [7001, 7002])[j]? = some x) : w.cell? ⟨g, j, none⟩ = some (.int .i64 x) := by
  rw [cell_of_row w g j _ _ _ h, List.getElem?_toArray]
  exact cI_get hx
theorem LentI.block {w w' : World} {g : Nat} {l : List Int} (hb : w'.heap[g]? = w.heap[g]?) (h : LentI w g l) : LentI w' g l := hb.trans h
theorem LentI.below {w w' : World} {g : Nat} {l : List Int} (hb : Below w.heap.size w w') (h : LentI w g l) : LentI w' g l := h.block (hb.block g h.lt)
theorem LentI.own {w : World} {g base : Nat} {l : List Int} (hB : base ≤ g) (hl : l.length ≤ 17592186043904) (h : LentI w g l) : IntO base w (some ⟨g, 0, none⟩) (l.length + 2) l := by
  refine ⟨by rw [cI_length, Nat.mul_one], Or.inr ⟨g, l.length + 2, _, rfl, hB, h, by omega, by unfold maxLen; omega, by simp [cI], ?_⟩⟩
  rw [List.toList_toArray, Nat.mul_one]
  unfold cI
  rw [List.map_append, List.take_left' (by simp)]
theorem LentI.of_own {w : World} {g base : Nat} {l : List Int} (h : IntO base w (some ⟨g, 0, none⟩) l.length l) (hfull : ∃ m, l = m ++ [7001, 7002]) : ∃ m, l = m ++ [7001, 7002] ∧ LentI w g m := by
  obtain ⟨m, rfl⟩ := hfull
  refine ⟨m, rfl, ?_⟩
  obtain ⟨hx, h1 | ⟨g', cap, cur, hv, hg, hh, hc, hm, hs, ht⟩⟩ := h
  · simp at h1
  · obtain ⟨rfl, rfl⟩ : g = g' ∧ (m ++ [7001, 7002]).length = cap := by simpa using hv
    unfold LentI
    rw [hh]
    congr 2
    rw [← Array.toList_inj, List.toList_toArray, ← ht, Nat.mul_one, List.take_of_length_le (by rw [Array.length_toList]; omega)]

def LentPostI (w : World) (l : List Int) (e : Ending) (w' : World) : Prop :=
  e = .returned (.slice (some ⟨w.heap.size, 0, none⟩) l.length (l.length + 2)) ∧ LentI w' w.heap.size l ∧ Below w.heap.size w w'
theorem splice_zeroI (cs : List Value) (n : Nat) (v : Value) : splice (List.replicate n v) 0 cs = cs ++ List.replicate (n - cs.length) v := by
  unfold splice
  simp

set_option maxRecDepth 100000 in
set_option maxHeartbeats 1000000 in
theorem lentI_any (p : Option Addr) (cap : Nat) (l : List Int) (w : World) (h : IntV w.heap.size w p cap l) (hl : l.length ≤ 17592186043904) :
    Calls Tryd.prog 42 #[.slice p l.length cap] w (LentPostI w l) := by
  obtain ⟨n, hn⟩ : ∃ n, n = l.length + 2 := ⟨_, rfl⟩
  have hmk := makeI n (by omega)
  have hn2 : (l.length : Int) + 2 = (n : Int) := by omega
  have H := Lib.hid (And.intro h hn)
  have hln : l.length < n := by omega
  have hln1 : l.length + 1 < n := by omega
  have hnb : n ≤ 17592186043906 := by omega
  clear h hn
  go_enter Tryd.func42, Tryd.ntmps42
  have hB1 : Below w.heap.size w (w.alloc (.cells (madeCells #[.int .i64 0] n) 3)) := (Below.refl _ _).alloc (Nat.le_refl _) _
  have HB1 := Lib.hid hB1
  have hh : (w.alloc (.cells (madeCells #[.int .i64 0] n) 3)).heap[w.heap.size]? = some (.cells (List.replicate n (Value.int .i64 0)).toArray 3 (0, 0)) := by
    rw [heap_newN, ← madeI_list]
  have HHH := Lib.hid hh
  clear hB1 hh
  go_wp2_with (with_reducible refine wpList_copy_splice rfl (.tmp 8) (.tmp 9) 40 40 rfl 3 Tryd.underlying40 sizeI (some ⟨w.heap.size, 0, none⟩) p n n l.length cap rfl rfl w.heap.size 0 (List.replicate n (Value.int .i64 0)) 3 HHH.out (cI l) ?k1 ?k2 ?k3 ?k4 w.heap.size w HB1.out (Nat.le_refl _) ?_)
  case k1 => rw [cI_length]; exact (Nat.min_eq_left (by omega)).symm
  case k2 =>
    intro hpos
    rw [cI_length] at hpos
    obtain ⟨b, off, rfl, hb, hc⟩ := H.out.1.cell (List.length_pos_iff.1 hpos)
    refine ⟨_, rfl, fun j v hv => ?_⟩
    rw [add_off]
    unfold cI at hv
    rw [List.getElem?_map] at hv
    obtain ⟨x, hx, rfl⟩ := Option.map_eq_some_iff.1 hv
    exact (HB1.out.cell (p := ⟨b, off + j, none⟩) hb).trans (hc j x hx)
  case k3 => rw [cI_length, List.length_replicate]; omega
  case k4 =>
    intro v hv
    unfold cI at hv
    obtain ⟨x, _, rfl⟩ := List.mem_map.1 hv
    rfl
  intro w1 hw1 hb1
  have hn0 : n = l.length + 2 := H.out.2
  have hw2 : w1.heap[w.heap.size]? = some (.cells (cI l ++ [Value.int .i64 0, Value.int .i64 0]).toArray 3 (0, 0)) := by
    have h := hw1.out
    rw [splice_zeroI, cI_length, show n - l.length = 2 by omega] at h
    exact h
  have hc1 : w1.cell? ⟨w.heap.size, l.length, none⟩ = some (.int .i64 0) := by
    rw [cell_of_row w1 _ _ _ _ _ hw2, List.getElem?_toArray, List.getElem?_append_right (by rw [cI_length]; exact Nat.le_refl _), cI_length, Nat.sub_self]
    rfl
  have hc2 : w1.cell? ⟨w.heap.size, l.length + 1, none⟩ = some (.int .i64 0) := by
    rw [cell_of_row w1 _ _ _ _ _ hw2, List.getElem?_toArray, List.getElem?_append_right (by rw [cI_length]; omega), cI_length, show l.length + 1 - l.length = 1 by omega]
    rfl
  have hf1 : ∀ j, w1.frozen? ⟨w.heap.size, j, none⟩ = false := fun j => frozen_of_row w1 w.heap.size j _ _ hw2
  have hff1 := hf1 l.length
  have hff2 := hf1 (l.length + 1)
  have hnn : n ≤ l.length + 2 := by omega
  have hB2 : Below w.heap.size w ((w1.setCell ⟨w.heap.size, l.length, none⟩ (.int .i64 7001)).setCell ⟨w.heap.size, l.length + 1, none⟩ (.int .i64 7002)) := (hb1.setCell (p := ⟨w.heap.size, l.length, none⟩) (Nat.le_refl _) _).setCell (p := ⟨w.heap.size, l.length + 1, none⟩) (Nat.le_refl _) _
  have hL : LentI ((w1.setCell ⟨w.heap.size, l.length, none⟩ (.int .i64 7001)).setCell ⟨w.heap.size, l.length + 1, none⟩ (.int .i64 7002)) w.heap.size l := by
    unfold LentI
    rw [heap_setCell_same _ w.heap.size (l.length + 1) _ _ _ (heap_setCell_same w1 w.heap.size l.length _ _ _ hw2)]
    congr 2
    rw [← Array.toList_inj]
    simp only [Array.toList_setIfInBounds]
    rw [List.set_append_right _ _ (by rw [cI_length]; exact Nat.le_refl _), List.set_append_right _ _ (by rw [cI_length]; omega), cI_length, Nat.sub_self, show l.length + 1 - l.length = 1 by omega]
    simp [cI]
  have HF := Lib.hid (And.intro hL hB2)
  clear hw1 hb1 hw2 hf1 hn0 hL hB2 hmk HB1 HHH
  go_wp2_with fail
  go_ret
  exact ⟨by rw [H.out.2]; rfl, HF.out.1, HF.out.2⟩
set_option maxRecDepth 100000 in
set_option maxHeartbeats 1000000 in
theorem keptI_any (g : Nat) (p : Option Addr) (n m c : Nat) (l : List Int) (w : World) (hg : LentI w g l) (h : IntV w.heap.size w p c l) (hl : l.length ≤ 17592186043904) (hn : n = l.length) (hm : m = l.length + 2) :
    Calls Tryd.prog 43 #[.slice (some ⟨g, 0, none⟩) n m, .slice p l.length c] w (Tells (.bool true) w) := by
  subst hn hm
  have hcap := h.cap
  unfold maxLen at hcap
  have hle := h.le
  have hsame := ints_any (some ⟨g, 0, none⟩) p l.length l.length (l.length + 2) c l l w rfl rfl ((LentI.own (base := 0) (Nat.zero_le _) (by omega) hg).toV) h
  rw [sameI_self] at hsame
  have HG := Lib.hid hg
  clear hg h
  go_enter Tryd.func43, Tryd.ntmps43
  go_wp2_with fail
  refine hsame.mono ?_
  clear hsame
  rintro e w1 ⟨rfl, hb1⟩
  have hc1 : w1.cell? ⟨g, l.length, none⟩ = some (.int .i64 7001) := (HG.out.below hb1).cell (by simp)
  have hc2 : w1.cell? ⟨g, l.length + 1, none⟩ = some (.int .i64 7002) := (HG.out.below hb1).cell (by rw [List.getElem?_append_right (by omega), show l.length + 1 - l.length = 1 by omega]; rfl)
  have HB := Lib.hid hb1
  clear hb1
  go_wp2_with fail
  go_ret
  exact ⟨rfl, HB.out⟩

def CopyPostI (w : World) (l : List Int) (e : Ending) (w' : World) : Prop :=
  ∃ p c, e = .returned (.slice p l.length c) ∧ IntO w.heap.size w' p c l ∧ Below w.heap.size w w'
set_option maxRecDepth 100000 in
set_option maxHeartbeats 1000000 in
theorem copyI_any (p : Option Addr) (n cap : Nat) (l : List Int) (w : World) (hn : n = l.length) (h : IntV w.heap.size w p cap l) (hl : l.length ≤ 17592186043904) :
    Calls Tryd.prog 44 #[.slice p n cap] w (CopyPostI w l) := by
  subst hn
  obtain ⟨i0, hi, hz0, hz1, hz2⟩ := info_parts infoI
  have H := Lib.hid h
  have hle := h.le
  rcases p with _ | a
  · have hc := h.nil rfl
    subst hc
    obtain rfl : l = [] := List.eq_nil_of_length_eq_zero (by omega)
    clear h
    show Calls Tryd.prog 44 #[.slice none 0 0] w (CopyPostI w [])
    go_enter Tryd.func44, Tryd.ntmps44
    go_wp2_with (at_builtin; refine wpList_append_own_none rfl _ _ 40 rfl w.heap.size 3 i0 1 Tryd.underlying40 hi _ 0 [] rfl (World.ownsRow_made w #[] 0 (Nat.le_refl _) (Nat.zero_le _) rfl) rfl ?_)
    go_ret
    have ho : IntO w.heap.size (w.alloc (.cells #[] 3)) (some ⟨w.heap.size, 0, none⟩) 0 [] := IntO.of_block (l := []) (Nat.le_refl _) (Nat.zero_le _) (heap_newN _ _)
    exact ⟨_, _, rfl, ho, (Below.refl _ _).alloc (Nat.le_refl _) _⟩
  rcases Nat.eq_zero_or_pos l.length with hl0 | hl0
  · obtain rfl : l = [] := List.eq_nil_of_length_eq_zero hl0
    clear h
    show Calls Tryd.prog 44 #[.slice (some a) 0 cap] w (CopyPostI w [])
    go_enter Tryd.func44, Tryd.ntmps44
    go_wp2_with (at_builtin; refine wpList_append_own _ rfl _ _ 40 rfl w.heap.size 3 i0 (.int .i64 0) 1 8 Tryd.underlying40 hi hz0 hz1 hz2 rfl (by decide) _ 0 [] rfl (World.ownsRow_made w #[] 0 (Nat.le_refl _) (Nat.zero_le _) rfl) a 0 cap [] rfl rfl ?c1 ?c2 ?c3 ?c4 ?c5 ?_)
    case c1 => intro j u hj; simp at hj
    case c2 => intro u hu; simp at hu
    case c3 => unfold maxLen; omega
    case c4 => omega
    case c5 => simp
    intro v' w1 hown' hgrow _
    obtain ⟨p1, c1, rfl, ho1⟩ := IntO.slice_own (l := []) hown'
    have hb1 : Below w.heap.size w w1 := ((Below.refl _ _).alloc (Nat.le_refl _) _).grown hgrow (by simp) (fun j hj => by have := Option.some.inj hj; simp at this; omega)
    have HO := Lib.hid (And.intro ho1 hb1)
    clear hown' hgrow ho1 hb1
    go_wp2_with fail
    go_ret
    exact ⟨p1, c1, rfl, HO.out.1, HO.out.2⟩
  · obtain ⟨b, off, ha, hb, hc⟩ := h.cell (List.length_pos_iff.1 hl0)
    obtain rfl : a = ⟨b, off, none⟩ := by simpa using ha
    have HC := Lib.hid hc
    clear h hc ha
    go_enter Tryd.func44, Tryd.ntmps44
    go_wp2_with (at_builtin; refine wpList_append_own _ rfl _ _ 40 rfl w.heap.size 3 i0 (.int .i64 0) 1 8 Tryd.underlying40 hi hz0 hz1 hz2 rfl (by decide) _ 0 [] rfl (World.ownsRow_made w #[] 0 (Nat.le_refl _) (Nat.zero_le _) rfl) ⟨b, off, none⟩ l.length cap (cI l) rfl ?d0 ?d1 ?d2 ?d3 ?d4 ?d5 ?_)
    case d0 => simp [cI]
    case d1 =>
      intro j u hj
      unfold cI at hj
      rw [List.getElem?_map] at hj
      obtain ⟨x, hx, rfl⟩ := Option.map_eq_some_iff.1 hj
      rw [add_off]
      exact (((Below.refl w.heap.size w).alloc (Nat.le_refl _) _).cell (p := ⟨b, off + j, none⟩) hb).trans (HC.out j x hx)
    case d2 =>
      intro u hu
      unfold cI at hu
      obtain ⟨x, _, rfl⟩ := List.mem_map.1 hu
      rfl
    case d3 => unfold maxLen; omega
    case d4 => omega
    case d5 => simp
    intro v' w1 hown' hgrow _
    obtain ⟨p1, c1, rfl, ho1⟩ := IntO.slice_own (l := l) (by simpa using hown')
    have hb1 : Below w.heap.size w w1 := ((Below.refl _ _).alloc (Nat.le_refl _) _).grown hgrow (by simp) (fun j hj => by have := Option.some.inj hj; simp at this; omega)
    have HO := Lib.hid (And.intro ho1 hb1)
    clear hown' hgrow ho1 hb1
    go_wp2_with fail
    go_ret
    exact ⟨p1, c1, by simp, HO.out.1, HO.out.2⟩
end Go.Proofs.YthhighljfjeooaaDoor
