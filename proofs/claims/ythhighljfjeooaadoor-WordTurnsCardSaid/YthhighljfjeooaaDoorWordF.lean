/- Package word by its contracts, sixth part: Text. -/
import Derived.Test.YthhighljfjeooaaDoorWordE
namespace Go.Proofs.YthhighljfjeooaaDoor
open Go.RowKit Go.Extern.Stop Go.Stop Go.Extern WordM NatM

theorem makeB (n : Nat) (hn : n ≤ 17592186044000) (w : World) :
    (Instr.makeSlice 95 (.int .i64 (n : Int)) (.int .i64 (n : Int))).run Tryd.prog w = .ok (.slice (some ⟨w.heap.size, 0, none⟩) n n) (w.alloc (.cells (madeCells #[.int .u8 0] n) 5)) := by
  obtain ⟨i0, hi, hz0, hz1, hz2⟩ := info_parts info8
  have h := run_make (P := Tryd.prog) w 95 5 i0 (.int .u8 0) Tryd.underlying95 hi hz0 .i64 .i64 n n (by omega) (by omega) (by rw [hz2]; omega) (by omega)
  rw [hz1] at h
  simpa [Value.cells] using h
/-- bytes in a block of the call's own -/
def ByteO (base : Nat) (w : World) (g n : Nat) (l : List Nat) : Prop := w.ownsRow base 5 1 (.slice (some ⟨g, 0, none⟩) n n) n (cells8 l)
theorem ByteO.made (w : World) (n : Nat) (hn : n ≤ 17592186044000) : ByteO w.heap.size (w.alloc (.cells (madeCells #[.int .u8 0] n) 5)) w.heap.size n (List.replicate n 0) := by
  refine ⟨by simp [cells8], Or.inr ⟨w.heap.size, n, madeCells #[.int .u8 0] n, rfl, Nat.le_refl _, heap_newN _ _, Nat.le_refl _, by unfold maxLen; omega, by rw [size_madeCells, Nat.mul_one], ?_⟩⟩
  rw [madeI_list, Nat.mul_one, List.take_of_length_le (by simp)]
  simp [cells8]

/-- the digits of a word's text -/
def txL (l : List Int) : List Nat := l.map fun x => 48 + x.toNat
def txW (l : List Int) : ByteArray := strOfNums ((txL l).map fun (d : Nat) => (d : Int))
theorem txL_length (l : List Int) : (txL l).length = l.length := by simp [txL]
theorem txL_get {l : List Int} {j : Nat} {x : Int} (h : l[j]? = some x) : (txL l)[j]? = some (48 + x.toNat) := by simp [txL, h]
theorem txW_size (l : List Int) : (txW l).size = l.length := by unfold txW; rw [strOfNums_size, List.length_map, txL_length]
/-- read back -/
theorem sW_txW {k : Nat} (hk : k ≤ 4) {l : List Int} (h : okW k l) : sW (txW l) = l := by
  unfold sW txW
  rw [bsOf_strOfNums]
  · unfold txL
    rw [List.map_map]
    conv => rhs; rw [← List.map_id l]
    apply List.map_congr_left
    intro x hx
    have := h x hx
    simp
    omega
  · intro x hx
    unfold txL at hx
    obtain ⟨y, hy, rfl⟩ := List.mem_map.1 hx
    have := h y hy
    omega
/-- written again -/
theorem txW_sW {k : Nat} {s : ByteArray} (h : okW k (sW s)) : txW (sW s) = s := by
  unfold txW
  have e : txL (sW s) = bsOf s := by
    unfold txL
    unfold sW at h ⊢
    rw [List.map_map]
    conv => rhs; rw [← List.map_id (bsOf s)]
    apply List.map_congr_left
    intro x hx
    have := h ((x : Int) - 48) (List.mem_map.2 ⟨x, hx, rfl⟩)
    simp
    omega
  rw [e, strOfNums_bsOf]
theorem put_nextB {l : List Nat} {j n x : Nat} (h : l[j]? = some x) (hj : j < n) : (l.take j ++ List.replicate (n - j) 0).set j x = l.take (j + 1) ++ List.replicate (n - (j + 1)) 0 := by
  have hl := (List.getElem?_eq_some_iff.1 h).1
  rw [List.set_append_right _ _ (by rw [List.length_take]; omega), List.length_take, Nat.min_eq_left (by omega), Nat.sub_self, List.take_add_one, h]
  obtain ⟨m, hm⟩ : ∃ m, n - j = m + 1 := ⟨n - j - 1, by omega⟩
  rw [hm, show n - (j + 1) = m by omega, List.replicate_succ]
  simp

/-- a text, and no error -/
def StrOk (w : World) (s : ByteArray) (e : Ending) (w' : World) : Prop := e = .returned (.tuple #[.string s, .nilIface]) ∧ Below w.heap.size w w'
def TextWRel (w : World) (n g : Nat) (l : List Int) (v : Value) (wr : World) : Prop :=
  ∃ j : Nat, j ≤ n ∧ v = .int .i64 (j : Int) ∧ ByteO w.heap.size wr g n ((txL l).take j ++ List.replicate (n - j) 0) ∧ Below w.heap.size w wr
set_option maxRecDepth 100000 in
set_option maxHeartbeats 4000000 in
theorem textW_ok (k : Int) (p : Option Addr) (n c : Nat) (l : List Int) (w : World) (hn : n = l.length) (h : IntV w.heap.size w p c l) (hc : chkW k l = none) :
    Calls Tryd.prog 39 #[.int .i64 k, .slice p n c] w (StrOk w (txW l)) := by
  have hck := check_ok k p n c l w hn h hc
  obtain ⟨k, rfl, h1, h4, hl, ho⟩ := chkW_none hc
  have hle := h.le
  have hcap := h.cap
  unfold maxLen at hcap
  have hn4 : n ≤ 4096 := by omega
  have hnc : n ≤ c := by omega
  have H := Lib.hid (And.intro h (And.intro ho hn))
  have HCK := Lib.hid hck
  clear h hc hl ho hck hn hle
  go_enter Tryd.func39, Tryd.ntmps39
  go_wp2_with fail
  refine HCK.out.mono ?_
  rintro e w1 ⟨rfl, hb1⟩
  have hmk := makeB n (by omega) w1
  have ho0 := ByteO.made w1 n (by omega)
  have hb0 : Below w.heap.size w (w1.alloc (.cells (madeCells #[.int .u8 0] n) 5)) := hb1.alloc hb1.size _
  have HO := Lib.hid (And.intro ho0 (And.intro hb0 (And.intro (ownsRow_base hb1.size ho0 : ByteO w.heap.size _ _ _ _) hb1)))
  clear ho0 hb0 hb1
  go_wp2_with fail
  clear hmk
  go_loopw [21] (fun v wr => TextWRel w n w1.heap.size l v wr) (fun v _ => n - (intOf v).toNat)
  case atStart => exact ⟨0, Nat.zero_le _, rfl, by rw [List.take_zero, List.nil_append, Nat.sub_zero]; exact HO.out.2.2.1, HO.out.2.1⟩
  case round =>
    obtain ⟨j, hj, rfl, ho, hb⟩ := hrel
    obtain ⟨g, hg⟩ : ∃ g, g = w1.heap.size := ⟨_, rfl⟩
    have hgB : w.heap.size ≤ g := by rw [hg]; exact HO.out.2.2.2.size
    rw [← hg] at ho ⊢
    have HG := Lib.hid hg
    clear hg
    by_cases hlt : j < n
    · have hnl := H.out.2.2
      obtain ⟨b, off, rfl, hbb, hcc⟩ := (H.out.1.next hb).cell (by rintro rfl; simp at hnl; omega)
      obtain ⟨x, hx⟩ := getI (l := l) (k := j) (by omega)
      have hxo := H.out.2.1 x (List.mem_of_getElem? hx)
      obtain ⟨y, rfl⟩ : ∃ y : Nat, x = (y : Int) := ⟨x.toNat, by omega⟩
      have hy4 : y ≤ 4 := by omega
      have hcx := hcc j _ hx
      have hput := put_nextB (n := n) (txL_get hx) hlt
      rw [Int.toNat_natCast] at hput
      obtain ⟨xs, hxs⟩ : ∃ xs, (txL l).take j ++ List.replicate (n - j) 0 = xs := ⟨_, rfl⟩
      have hlx : xs.length = n := by rw [← hxs, List.length_append, List.length_take, txL_length, List.length_replicate]; omega
      rw [hxs] at ho hput
      have hown : wr.ownsRow w.heap.size 5 1 (.slice (some ⟨g, 0, none⟩) n n) n (cells8 xs) := ho
      obtain ⟨z, hz⟩ : ∃ z, xs[j]? = some z := ⟨_, List.getElem?_eq_getElem (by omega)⟩
      have hcz : wr.cell? ⟨g, j, none⟩ = some (.int .u8 (z : Int)) := (hown.cellAt j (by omega)).trans (cells8_get hz)
      have hfz : wr.frozen? ⟨g, j, none⟩ = false := hown.frozenAt j
      obtain ⟨s1, t1⟩ := hown.stored j (.int .u8 (48 + (y : Int)))
      have e48 : (48 + (y : Int)) = ((48 + y : Nat) : Int) := by omega
      have hcs : (cells8 xs).set j (.int .u8 (48 + (y : Int))) = cells8 (xs.set j (48 + y)) := by rw [cells8_set, e48]
      rw [hcs, hput] at s1
      have hb1 : Below w.heap.size w (wr.setCell ⟨g, j, none⟩ (.int .u8 (48 + (y : Int)))) := hb.setCell (p := ⟨g, j, none⟩) hgB _
      have HS := Lib.hid (And.intro s1 hb1)
      clear ho hown hput hxs s1 t1 hb1 hb hz hx hlx hxo e48 hcs hcc hnl
      go_wp2_with fail
      go_roundw
      case rel => exact ⟨j + 1, by omega, by go_num, by first | exact HS.out.1 | (rw [← HG.out]; exact HS.out.1), HS.out.2⟩
      case measure => simp [intOf]; omega
    · obtain rfl : j = n := by omega
      have he : (txL l).take j ++ List.replicate (j - j) 0 = txL l := by
        rw [Nat.sub_self, List.replicate_zero, List.append_nil, H.out.2.2, ← txL_length, List.take_length]
      rw [he] at ho
      have hown : wr.ownsRow w.heap.size 5 1 (.slice (some ⟨g, 0, none⟩) j j) j (cells8 (txL l)) := ho
      have htl : (txL l).length = j := by rw [txL_length, H.out.2.2]
      have hcv := run_convert_bytes_arg (P := Tryd.prog) wr 95 5 Tryd.underlying95 Tryd.underlying5 g 0 j j ((txL l).map fun (b : Nat) => (b : Int)) (by simp [htl]) (fun i hi => by
        rw [Nat.zero_add]
        have hir : i < (txL l).length := by omega
        rw [hown.cellAt i (by omega), cells8_get (List.getElem?_eq_getElem hir)]
        simp [List.getD_eq_getElem?_getD, hir]) 9 Tryd.underlying9
      have HB := Lib.hid hb
      clear ho hown he htl hb
      go_wp2_with fail
      go_ret2
      exact ⟨rfl, HB.out⟩
theorem textW_bad (k : Int) (p : Option Addr) (n c : Nat) (l : List Int) (w : World) (A : Nat → Addr) (hr : Roots w A) (hn : n = l.length) (h : IntV w.heap.size w p c l) (i m : Nat) (hc : chkW k l = some (i, m)) :
    Calls Tryd.prog 39 #[.int .i64 k, .slice p n c] w (Err2 w A wordOp i m (.string .empty)) := by
  have hck := check_bad k p n c l w A hr hn h i m hc
  have HCK := Lib.hid hck
  clear h hc hck hr hn
  go_enter Tryd.func39, Tryd.ntmps39
  go_wp2_with fail
  refine HCK.out.mono ?_
  rintro e w1 ⟨b, rfl, hl1, hb1⟩
  have H := Lib.hid (And.intro hl1 hb1)
  clear hl1 hb1
  go_wp2_with fail
  go_ret2
  exact ⟨_, rfl, H.out.1, H.out.2⟩
end Go.Proofs.YthhighljfjeooaaDoor
