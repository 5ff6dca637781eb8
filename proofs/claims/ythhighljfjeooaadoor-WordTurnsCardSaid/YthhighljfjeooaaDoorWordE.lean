/- Package word by its contracts, fifth part: Next where it is refused, Parse. -/
import Derived.Test.YthhighljfjeooaaDoorWordD
import Derived.Test.YthhighljfjeooaaDoorStr
namespace Go.Proofs.YthhighljfjeooaaDoor
open Go.RowKit Go.Extern.Stop Go.Stop Go.Extern WordM NatM

set_option maxRecDepth 100000 in
set_option maxHeartbeats 4000000 in
theorem next_bad (k : Int) (p : Option Addr) (n c : Nat) (l : List Int) (w : World) (A : Nat → Addr) (hr : Roots w A) (hn : n = l.length) (h : IntV w.heap.size w p c l) (i m : Nat) (hc : chkW k l = some (i, m)) :
    Calls Tryd.prog 33 #[.int .i64 k, .slice p n c] w (Err2 w A wordOp i m (.slice none 0 0)) := by
  have hck := check_bad k p n c l w A hr hn h i m hc
  have HCK := Lib.hid hck
  clear h hc hck hr hn
  go_enter Tryd.func33, Tryd.ntmps33
  go_wp2_with fail
  refine HCK.out.mono ?_
  rintro e w1 ⟨b, rfl, hl1, hb1⟩
  have H := Lib.hid (And.intro hl1 hb1)
  clear hl1 hb1
  go_wp2_with fail
  go_ret2
  exact ⟨_, rfl, H.out.1, H.out.2⟩

/-- a text's digits as symbols -/
def sW (s : ByteArray) : List Int := (bsOf s).map fun (b : Nat) => (b : Int) - 48
theorem sW_length (s : ByteArray) : (sW s).length = s.size := by unfold sW; rw [List.length_map, bsOf_length]
theorem sW_get {s : ByteArray} {k : Nat} (h : k < s.size) : (sW s)[k]? = some ((s[k].toNat : Int) - 48) := by
  unfold sW
  rw [List.getElem?_map, bsOf_get h]; rfl
/-- of a text that is refused the number is 6 in place of 2 -/
def code6 (m : Nat) : Nat := if m = 2 then 6 else m

def ParseWRel (w : World) (n : Nat) (l : List Int) (p : Option Addr) (c : Nat) (J : Nat) (v : Value) (wr : World) : Prop :=
  ∃ j : Nat, j ≤ J ∧ v = .int .i64 (j : Int) ∧ IntO w.heap.size wr p c (l.take j ++ List.replicate (n - j) 0) ∧ Below w.heap.size w wr
theorem put_next {l : List Int} {j n : Nat} {x : Int} (h : l[j]? = some x) (hj : j < n) : (l.take j ++ List.replicate (n - j) 0).set j x = l.take (j + 1) ++ List.replicate (n - (j + 1)) 0 := by
  have hl := ltI h
  rw [List.set_append_right _ _ (by rw [List.length_take]; omega), List.length_take, Nat.min_eq_left (by omega), Nat.sub_self, List.take_add_one, h]
  obtain ⟨m, hm⟩ : ∃ m, n - j = m + 1 := ⟨n - j - 1, by omega⟩
  rw [hm, show n - (j + 1) = m by omega, List.replicate_succ]
  simp
theorem mid_len {l : List Int} {j n : Nat} (hl : j ≤ l.length) (hj : j ≤ n) : (l.take j ++ List.replicate (n - j) (0 : Int)).length = n := by simp; omega

set_option maxRecDepth 100000 in
set_option maxHeartbeats 4000000 in
theorem parseW_ok (k : Int) (s : ByteArray) (w : World) (hc : chkW k (sW s) = none) :
    Calls Tryd.prog 40 #[.int .i64 k, .string s] w (IntOk w (sW s)) := by
  obtain ⟨k, rfl, h1, h4, hl, ho⟩ := chkW_none hc
  rw [sW_length] at hl
  have H := Lib.hid ho
  have hmk := makeI s.size (by omega) w
  clear hc ho
  go_enter Tryd.func40, Tryd.ntmps40
  go_wp2_with fail
  refine (alpha_yes _ _ (by omega) (by omega)).mono ?_
  rintro e w' ⟨rfl, rfl⟩
  go_wp2_with fail
  have ho0 := IntO.made w s.size (by omega)
  have hb0 : Below w.heap.size w (w.alloc (.cells (madeCells #[.int .i64 0] s.size) 3)) := (Below.refl _ _).alloc (Nat.le_refl _) _
  have HO := Lib.hid (And.intro ho0 hb0)
  clear hmk ho0 hb0
  go_loopw [21] (fun v wr => ParseWRel w s.size (sW s) (some ⟨w.heap.size, 0, none⟩) s.size s.size v wr) (fun v _ => s.size - (intOf v).toNat)
  case atStart => exact ⟨0, Nat.zero_le _, rfl, by simpa using HO.out.1, HO.out.2⟩
  case round =>
    obtain ⟨j, hj, rfl, ho, hb⟩ := hrel
    have hlen := mid_len (l := sW s) (j := j) (n := s.size) (by rw [sW_length]; exact hj) hj
    by_cases hlt : j < s.size
    · have hx := sW_get hlt
      have hxo := H.out _ (List.mem_of_getElem? hx)
      obtain ⟨x, hxx⟩ : ∃ x, (s[j].toNat : Int) - 48 = x := ⟨_, rfl⟩
      rw [hxx] at hx hxo
      have hput := put_next hx hlt
      obtain ⟨xs, hxs⟩ : ∃ xs, (sW s).take j ++ List.replicate (s.size - j) (0 : Int) = xs := ⟨_, rfl⟩
      rw [hxs] at ho hlen hput
      have hown : wr.ownsRow w.heap.size 3 1 (.slice (some ⟨w.heap.size, 0, none⟩) s.size s.size) s.size (cI xs) := by
        unfold IntO at ho
        rwa [hlen] at ho
      obtain ⟨y, hy⟩ := getI (l := xs) (k := j) (by omega)
      have hcy : wr.cell? ⟨w.heap.size, j, none⟩ = some (.int .i64 y) := (hown.cellAt j (by omega)).trans (cI_get hy)
      have hfy : wr.frozen? ⟨w.heap.size, j, none⟩ = false := hown.frozenAt j
      obtain ⟨s1, t1⟩ := hown.stored j (.int .i64 x)
      rw [← cI_set, hput] at s1
      have hb1 : Below w.heap.size w (wr.setCell ⟨w.heap.size, j, none⟩ (.int .i64 x)) := hb.setCell (p := ⟨w.heap.size, j, none⟩) (Nat.le_refl _) _
      have hlen1 := mid_len (l := sW s) (j := j + 1) (n := s.size) (by rw [sW_length]; omega) (by omega)
      have HS := Lib.hid (And.intro s1 (And.intro hb1 hlen1))
      have hx0 : ¬ x < 0 := by omega
      have hxk : ¬ (k : Int) ≤ x := by omega
      clear ho hown hput hxs s1 t1 hb1 hb hy hx hlen hlen1 hxo
      go_wp2_with fail
      go_roundw
      case rel => exact ⟨j + 1, by omega, by go_num, by unfold IntO; rw [HS.out.2.2]; exact HS.out.1, HS.out.2.1⟩
      case measure => simp [intOf]; omega
    · obtain rfl : j = s.size := by omega
      have he : (sW s).take s.size ++ List.replicate (s.size - s.size) (0 : Int) = sW s := by
        rw [Nat.sub_self, List.replicate_zero, List.append_nil, ← sW_length, List.take_length]
      rw [he] at ho
      have HF := Lib.hid (And.intro ho hb)
      clear ho hb he hlen
      go_wp2_with fail
      go_ret2
      exact ⟨_, _, by rw [sW_length]; rfl, HF.out.1, HF.out.2⟩

set_option maxRecDepth 100000 in
set_option maxHeartbeats 4000000 in
theorem parseW_bad (k : Int) (s : ByteArray) (w : World) (A : Nat → Addr) (hr : Roots w A) (hsz : s.size ≤ maxLen) (i m : Nat) (hc : chkW k (sW s) = some (i, m)) :
    Calls Tryd.prog 40 #[.int .i64 k, .string s] w (Err2 w A wordOp i (code6 m) (.slice none 0 0)) := by
  unfold chkW at hc
  rw [sW_length] at hc
  unfold maxLen at hsz
  split at hc
  · obtain ⟨rfl, rfl⟩ := Prod.mk.inj (Option.some.inj hc)
    have HR := Lib.hid hr
    clear hr hc
    go_enter Tryd.func40, Tryd.ntmps40
    go_wp2_with fail
    refine (alpha_no _ _ (by omega)).mono ?_
    rintro e w' ⟨rfl, rfl⟩
    go_wp2_with fail
    refine (new_at wordOp 0 3 _ A HR.out (by omega)).mono ?_
    rintro e w1 ⟨b, rfl, hl1, hb1⟩
    have H := Lib.hid (And.intro hl1 hb1)
    clear hl1 hb1
    go_wp2_with fail
    go_ret2
    exact ⟨_, rfl, H.out.1, H.out.2⟩
  · split at hc
    · obtain ⟨rfl, rfl⟩ := Prod.mk.inj (Option.some.inj hc)
      have HR := Lib.hid hr
      have hk1 : 1 ≤ k := by omega
      have hk4 : k ≤ 4 := by omega
      clear hr hc
      go_enter Tryd.func40, Tryd.ntmps40
      go_wp2_with fail
      refine (alpha_yes _ _ hk1 hk4).mono ?_
      rintro e w' ⟨rfl, rfl⟩
      go_wp2_with fail
      refine (new_at wordOp 0 4 _ A HR.out (by omega)).mono ?_
      rintro e w1 ⟨b, rfl, hl1, hb1⟩
      have H := Lib.hid (And.intro hl1 hb1)
      clear hl1 hb1
      go_wp2_with fail
      go_ret2
      exact ⟨_, rfl, H.out.1, H.out.2⟩
    · obtain ⟨i', hi, he⟩ := Option.map_eq_some_iff.1 hc
      obtain ⟨rfl, rfl⟩ := Prod.mk.inj he
      obtain ⟨hil, hbad, hall⟩ := List.findIdx?_eq_some_iff_getElem.1 hi
      rw [sW_length] at hil
      have hs4 : s.size ≤ 4096 := by omega
      have hk1 : 1 ≤ k := by omega
      have hk4 : k ≤ 4 := by omega
      have H := Lib.hid (And.intro hr (And.intro hbad hall))
      have hmk := makeI s.size (by omega) w
      clear hr hc hi he hbad hall
      go_enter Tryd.func40, Tryd.ntmps40
      go_wp2_with fail
      refine (alpha_yes _ _ hk1 hk4).mono ?_
      rintro e w' ⟨rfl, rfl⟩
      go_wp2_with fail
      have ho0 := IntO.made w s.size (by omega)
      have hb0 : Below w.heap.size w (w.alloc (.cells (madeCells #[.int .i64 0] s.size) 3)) := (Below.refl _ _).alloc (Nat.le_refl _) _
      have HO := Lib.hid (And.intro ho0 hb0)
      clear hmk ho0 hb0
      go_loopw [21] (fun v wr => ParseWRel w s.size (sW s) (some ⟨w.heap.size, 0, none⟩) s.size i' v wr) (fun v _ => s.size - (intOf v).toNat)
      case atStart => exact ⟨0, Nat.zero_le _, rfl, by simpa using HO.out.1, HO.out.2⟩
      case round =>
        obtain ⟨j, hj, rfl, ho, hb⟩ := hrel
        have hlen := mid_len (l := sW s) (j := j) (n := s.size) (by rw [sW_length]; omega) (by omega)
        have hlt : j < s.size := by omega
        have hx := sW_get hlt
        have hbd : s[j].toNat < 256 := UInt8.toNat_lt _
        obtain ⟨x, hxx⟩ : ∃ x, (s[j].toNat : Int) - 48 = x := ⟨_, rfl⟩
        rw [hxx] at hx
        have hput := put_next hx hlt
        obtain ⟨xs, hxs⟩ : ∃ xs, (sW s).take j ++ List.replicate (s.size - j) (0 : Int) = xs := ⟨_, rfl⟩
        rw [hxs] at ho hlen hput
        have hown : wr.ownsRow w.heap.size 3 1 (.slice (some ⟨w.heap.size, 0, none⟩) s.size s.size) s.size (cI xs) := by
          unfold IntO at ho
          rwa [hlen] at ho
        obtain ⟨y, hy⟩ := getI (l := xs) (k := j) (by omega)
        have hcy : wr.cell? ⟨w.heap.size, j, none⟩ = some (.int .i64 y) := (hown.cellAt j (by omega)).trans (cI_get hy)
        have hfy : wr.frozen? ⟨w.heap.size, j, none⟩ = false := hown.frozenAt j
        obtain ⟨s1, t1⟩ := hown.stored j (.int .i64 x)
        rw [← cI_set, hput] at s1
        have hb1 : Below w.heap.size w (wr.setCell ⟨w.heap.size, j, none⟩ (.int .i64 x)) := hb.setCell (p := ⟨w.heap.size, j, none⟩) (Nat.le_refl _) _
        have hlen1 := mid_len (l := sW s) (j := j + 1) (n := s.size) (by rw [sW_length]; omega) (by omega)
        have HS := Lib.hid (And.intro s1 (And.intro hb1 (And.intro hlen1 hx)))
        clear ho hown hput hxs s1 t1 hb1 hb hy hx hlen hlen1
        by_cases hji : j < i'
        · have hg := H.out.2.2 j hji
          have hgx : (sW s)[j]'(by rw [sW_length]; exact hlt) = x := by
            have e := HS.out.2.2.2
            rw [List.getElem?_eq_getElem (by rw [sW_length]; exact hlt)] at e
            exact Option.some.inj e
          rw [hgx] at hg
          unfold badAt at hg
          simp at hg
          have hx0 : ¬ x < 0 := by omega
          have hxk : ¬ k ≤ x := by omega
          clear hg hgx
          go_wp2_with fail
          go_roundw
          case rel => exact ⟨j + 1, by omega, by go_num, by unfold IntO; rw [HS.out.2.2.1]; exact HS.out.1, HS.out.2.1⟩
          case measure => simp [intOf]; omega
        · obtain rfl : j = i' := by omega
          have hg := H.out.2.1
          have hgx : (sW s)[j]'(by rw [sW_length]; exact hlt) = x := by
            have e := HS.out.2.2.2
            rw [List.getElem?_eq_getElem (by rw [sW_length]; exact hlt)] at e
            exact Option.some.inj e
          rw [hgx] at hg
          unfold badAt at hg
          simp at hg
          clear hgx
          rcases Int.lt_or_le x 0 with hx1 | hx1
          · clear hg
            go_wp2_with fail
            refine (new_at wordOp j 6 _ A (H.out.1.below HS.out.2.1) (by omega)).mono ?_
            rintro e w1 ⟨b, rfl, hl1, hb1⟩
            have HF := Lib.hid (And.intro hl1 (HS.out.2.1.trans (hb1.mono HS.out.2.1.size)))
            clear hl1 hb1
            go_wp2_with fail
            go_ret2
            exact ⟨_, rfl, HF.out.1, HF.out.2⟩
          · have hx2 : k ≤ x := by omega
            have hx3 : ¬ x < 0 := by omega
            clear hg
            go_wp2_with fail
            refine (new_at wordOp j 6 _ A (H.out.1.below HS.out.2.1) (by omega)).mono ?_
            rintro e w1 ⟨b, rfl, hl1, hb1⟩
            have HF := Lib.hid (And.intro hl1 (HS.out.2.1.trans (hb1.mono HS.out.2.1.size)))
            clear hl1 hb1
            go_wp2_with fail
            go_ret2
            exact ⟨_, rfl, HF.out.1, HF.out.2⟩
end Go.Proofs.YthhighljfjeooaaDoor
