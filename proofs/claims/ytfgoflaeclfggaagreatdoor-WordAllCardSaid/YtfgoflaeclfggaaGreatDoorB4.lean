/- The document's own package of words by its contracts: Text.
The document's own package of words by its contracts: Parse.
The document's own package of words by its contracts: Times.
The document's own package of words by its contracts: Index of a long word, At where the arguments are refused.
The document's own package of numbers by its contracts, seventh part: Sub where it is told.
The document's own package of numbers by its contracts, eighth part: Mul.
The document's own package of numbers by its contracts, ninth part: Over.
The document's own package of numbers by its contracts, tenth part: Pow.
The document's own package of words by its contracts: At of a number that no word has.
The document's own package of words by its contracts: At.
Contracts of library functions, laid at this program's numbers by the kit's lay-plain.mjs: what each says stands in its type. -/
import Derived.Test.YtfgoflaeclfggaaGreatDoorB3
import Derived.Test.YtfgoflaeclfggaaGreatDoorB2
import Derived.Shelf.Strconv.Itoa0
import Derived.Shelf.Strconv.Itoa1
import Derived.Shelf.LaysM
import Derived.Shelf.Strconv.Itoa2
import Derived.Shelf.Strconv.Itoa3
import Derived.Shelf.Bits.Mul64
import Derived.Shelf.Slices.Turned
import Derived.Shelf.Slices.Reverse
import Derived.Shelf.Slices.Equal
import Derived.Ground.Names2Prog
import Derived.Shelf.Slices.Clone
import Derived.Shelf.Slices.Cells
import Derived.Shelf.Slices.Empties2
import Derived.Test.YtfgoflaeclfggaaGreatDoorProg
section
namespace Go.Proofs.YtfgoflaeclfggaaGreatDoor
open Go.RowKit Go.Extern.Stop Go.Stop Go.Extern WordM NatM

/-- a text, and no Err -/
def RefStr (w : World) (s : ByteArray) (e : Ending) (w' : World) : Prop := e = .returned (.tuple #[.string s, noErr]) ∧ Below w.heap.size w w'
set_option maxRecDepth 100000 in
set_option maxHeartbeats 4000000 in
theorem text_ref_okW (k : Int) (p : Option Addr) (n c : Nat) (l : List Int) (w : World) (hn : n = l.length) (h : IntV w.heap.size w p c l) (hc : chkW k l = none) :
    Calls Tryz.prog 30 #[.int .i64 k, .slice p n c] w (RefStr w (txW l)) := by
  have hc' := hc
  obtain ⟨k, rfl, h1, h4, hl, ho⟩ := chkW_none hc
  have hle := h.le
  have hcap := h.cap
  unfold maxLen at hcap
  have hn4 : n ≤ 4096 := by omega
  have hnc : n ≤ c := by omega
  have H := Lib.hid (And.intro h (And.intro ho (And.intro hn hc')))
  clear h hc hc' hl ho hn hle
  go_enter Tryz.func30, Tryz.ntmps30
  go_wp2_with fail
  obtain ⟨w0, hw0⟩ : ∃ w0, w0 = w.alloc (.cells #[.int .i64 0, .slice none 0 0, .slice none 0 0] 56) := ⟨_, rfl⟩
  have hb0 : Below w.heap.size w w0 := by rw [hw0]; exact (Below.refl _ _).alloc (Nat.le_refl _) _
  have hs0 : w.heap.size < w0.heap.size := by rw [hw0]; simp
  have hE0 : Err3 w0 w.heap.size (.int .i64 0) (.slice none 0 0) (.slice none 0 0) := by rw [hw0]; exact Err3.new w
  rw [← hw0]
  have HE := Lib.hid (And.intro hE0 hb0)
  clear hw0 hE0 hb0
  have hck : Calls Tryz.prog 22 #[.int .i64 (k : Int), .slice p n c] w0 (Tells (.agg #[.int .i64 0, .slice none 0 0, .slice none 0 0]) w0) := check_ref_ok (k : Int) p n c l w0 H.out.2.2.1 (H.out.1.next HE.out.2) H.out.2.2.2
  refine hck.mono ?_
  clear hck
  rintro e w1 ⟨rfl, hb1⟩
  obtain ⟨wB, hwB⟩ : ∃ x, x = w1.alloc (.cells #[.int .i64 0, .slice none 0 0, .slice none 0 0] 56) := ⟨_, rfl⟩
  have hbB : Below w1.heap.size w1 wB := by rw [hwB]; exact (Below.refl _ _).alloc (Nat.le_refl _) _
  have hs1 := hb1.size
  have hsB : w1.heap.size < wB.heap.size := by rw [hwB]; simp
  have hEB : Err3 wB w1.heap.size (.int .i64 0) (.slice none 0 0) (.slice none 0 0) := by rw [hwB]; exact ⟨heap_newN w1 _⟩
  have hE1 := (HE.out.1.next hb1).next hbB
  have hbw : Below w.heap.size w wB := (HE.out.2.trans (hb1.mono (by omega))).trans (hbB.mono (by omega))
  obtain ⟨_, hk0, hk1, hk2⟩ := hEB.facts
  have H1 := Lib.hid (And.intro hE1 hbw)
  clear hb1 hbB hEB hE1 hbw
  go_upto_region 2 with fail
  rw [← hwB]
  clear hwB
  go_wp2_with fail
  refine (bad_no (.slice none 0 0) (.slice none 0 0) wB).mono ?_
  rintro e w2 ⟨rfl, hb2⟩
  have hE2 := H1.out.1.next hb2
  have hbw2 : Below w.heap.size w w2 := H1.out.2.trans (hb2.mono (by omega))
  have hs2 : w.heap.size < w2.heap.size := by have := hb2.size; omega
  have H2 := Lib.hid (And.intro hE2 hbw2)
  clear hb2 hE2 hbw2 hk0 hk1 hk2
  have hmk := makeB n (by omega) w2
  have ho0 := ByteO.made w2 n (by omega)
  have hb0 : Below w2.heap.size w2 (w2.alloc (.cells (madeCells #[.int .u8 0] n) 5)) := (Below.refl _ _).alloc (Nat.le_refl _) _
  have HO := Lib.hid (And.intro ho0 hb0)
  clear ho0 hb0
  go_wp2_with fail
  clear hmk
  go_loopw [8] (fun v wr => TextWRel w2 n w2.heap.size l v wr) (fun v _ => n - (intOf v).toNat)
  case atStart => exact ⟨0, Nat.zero_le _, rfl, by rw [List.take_zero, List.nil_append, Nat.sub_zero]; exact HO.out.1, HO.out.2⟩
  case round =>
    obtain ⟨j, hj, rfl, ho, hb⟩ := hrel
    obtain ⟨g, hg⟩ : ∃ g, g = w2.heap.size := ⟨_, rfl⟩
    rw [← hg] at ho ⊢
    have HG := Lib.hid hg
    clear hg
    by_cases hlt : j < n
    · have hnl := H.out.2.2.1
      obtain ⟨b, off, rfl, hbb, hcc⟩ := ((H.out.1.next H2.out.2).next hb).cell (by rintro rfl; simp at hnl; omega)
      obtain ⟨x, hx⟩ := getI (l := l) (k := j) (by omega)
      have hxo := H.out.2.1 x (List.mem_of_getElem? hx)
      obtain ⟨y, rfl⟩ : ∃ y : Nat, x = (y : Int) := ⟨x.toNat, by omega⟩
      have hy4 : y ≤ 4 := by omega
      have hcx := hcc j _ hx
      have hput := put_nextB (n := n) (txL_get hx) hlt
      rw [Int.toNat_natCast] at hput
      obtain ⟨xs, hxs⟩ : ∃ xs, (txL l).take j ++ List.replicate (n - j) 0 = xs := ⟨_, rfl⟩
      have hlx : xs.length = n := by rw [← hxs, List.length_append, List.length_take, txL_length, List.length_replicate]; omega
      rw [hxs] at ho hput
      have hown : wr.ownsRow g 5 1 (.slice (some ⟨g, 0, none⟩) n n) n (cells8 xs) := ho
      obtain ⟨z, hz⟩ : ∃ z, xs[j]? = some z := ⟨_, List.getElem?_eq_getElem (by omega)⟩
      have hcz : wr.cell? ⟨g, j, none⟩ = some (.int .u8 (z : Int)) := (hown.cellAt j (by omega)).trans (cells8_get hz)
      have hfz : wr.frozen? ⟨g, j, none⟩ = false := hown.frozenAt j
      obtain ⟨s1, t1⟩ := hown.stored j (.int .u8 (48 + (y : Int)))
      have e48 : (48 + (y : Int)) = ((48 + y : Nat) : Int) := by omega
      have hcs : (cells8 xs).set j (.int .u8 (48 + (y : Int))) = cells8 (xs.set j (48 + y)) := by rw [cells8_set, e48]
      rw [hcs, hput] at s1
      have hb1 : Below w2.heap.size w2 (wr.setCell ⟨g, j, none⟩ (.int .u8 (48 + (y : Int)))) := hb.setCell (p := ⟨g, j, none⟩) (by rw [← HG.out]; exact Nat.le_refl _) _
      have HS := Lib.hid (And.intro s1 hb1)
      clear ho hown hput hxs s1 t1 hb1 hb hz hx hlx hxo e48 hcs hcc hnl
      go_wp2_with fail
      go_roundw
      case rel => exact ⟨j + 1, by omega, by go_num, by first | exact HS.out.1 | (rw [← HG.out]; exact HS.out.1), by first | exact HS.out.2 | (rw [← HG.out]; exact HS.out.2)⟩
      case measure => simp [intOf]; omega
    · obtain rfl : j = n := by omega
      have he : (txL l).take j ++ List.replicate (j - j) 0 = txL l := by
        rw [Nat.sub_self, List.replicate_zero, List.append_nil, H.out.2.2.1, ← txL_length, List.take_length]
      rw [he] at ho
      have hown : wr.ownsRow g 5 1 (.slice (some ⟨g, 0, none⟩) j j) j (cells8 (txL l)) := ho
      have htl : (txL l).length = j := by rw [txL_length, H.out.2.2.1]
      have hcv := run_convert_bytes_arg (P := Tryz.prog) wr 114 5 Tryz.underlying114 Tryz.underlying5 g 0 j j ((txL l).map fun (b : Nat) => (b : Int)) (by simp [htl]) (fun i hi => by
        rw [Nat.zero_add]
        have hir : i < (txL l).length := by omega
        rw [hown.cellAt i (by omega), cells8_get (List.getElem?_eq_getElem hir)]
        simp [List.getD_eq_getElem?_getD, hir]) 9 Tryz.underlying9
      obtain ⟨⟨hf0, hf1, hf2⟩, hc0, hc1, hc2⟩ := (H2.out.1.next hb).facts
      have HB := Lib.hid (H2.out.2.trans (hb.mono (by omega)))
      clear ho hown he htl hb
      go_wp2_with fail
      refine bodyPost_ret (v := .tuple #[.string (txW l), noErr]) (by simp [results, Tryz.results30, go_sem, hc0, hc1, hc2, noErr, txW]) rfl ⟨rfl, ?_⟩
      exact put3_below HB.out (Nat.le_refl _) _ _ _
end Go.Proofs.YtfgoflaeclfggaaGreatDoor
end
section
namespace Go.Proofs.YtfgoflaeclfggaaGreatDoor
open Go.RowKit Go.Extern.Stop Go.Stop Go.Extern WordM NatM

/-- a word, and no Err -/
def RefIOk (w : World) (l : List Int) (e : Ending) (w' : World) : Prop :=
  ∃ p c, e = .returned (.tuple #[.slice p l.length c, noErr]) ∧ IntO w.heap.size w' p c l ∧ Below w.heap.size w w'
theorem IntO.put3 {base h : Nat} {w : World} {p : Option Addr} {c : Nat} {l : List Int} (ho : IntO base w p c l) (hh : h < base) (a b d : Value) : IntO base (put3 w h a b d) p c l :=
  ownsRow_setCell_below (ownsRow_setCell_below (ownsRow_setCell_below ho (a := ⟨h, 0, none⟩) hh a) (a := ⟨h, 1, none⟩) hh b) (a := ⟨h, 2, none⟩) hh d
set_option maxRecDepth 100000 in
set_option maxHeartbeats 4000000 in
theorem parse_ref_okW (k : Int) (s : ByteArray) (w : World) (hc : chkW k (sW s) = none) :
    Calls Tryz.prog 31 #[.int .i64 k, .string s] w (RefIOk w (sW s)) := by
  obtain ⟨k, rfl, h1, h4, hl, ho⟩ := chkW_none hc
  rw [sW_length] at hl
  have hk1 : ¬ (k : Int) < 1 := by omega
  have hk4 : ¬ (4 : Int) < k := by omega
  have H := Lib.hid ho
  clear hc ho
  go_enter Tryz.func31, Tryz.ntmps31
  go_upto_region 5 with fail
  obtain ⟨w0, hw0⟩ : ∃ w0, w0 = w.alloc (.cells #[.int .i64 0, .slice none 0 0, .slice none 0 0] 56) := ⟨_, rfl⟩
  have hb0 : Below w.heap.size w w0 := by rw [hw0]; exact (Below.refl _ _).alloc (Nat.le_refl _) _
  have hs0 : w.heap.size < w0.heap.size := by rw [hw0]; simp
  have hE0 : Err3 w0 w.heap.size (.int .i64 0) (.slice none 0 0) (.slice none 0 0) := by rw [hw0]; exact Err3.new w
  rw [← hw0]
  have HE := Lib.hid (And.intro hE0 hb0)
  clear hw0 hE0 hb0
  have hmk := makeI s.size (by omega) w0
  go_wp2_with fail
  have ho0 := IntO.made w0 s.size (by omega)
  have hb0 : Below w0.heap.size w0 (w0.alloc (.cells (madeCells #[.int .i64 0] s.size) 3)) := (Below.refl _ _).alloc (Nat.le_refl _) _
  have HO := Lib.hid (And.intro ho0 hb0)
  clear hmk ho0 hb0
  go_loopw [7] (fun v wr => ParseWRel w0 s.size (sW s) (some ⟨w0.heap.size, 0, none⟩) s.size s.size v wr) (fun v _ => s.size - (intOf v).toNat)
  case atStart => exact ⟨0, Nat.zero_le _, rfl, by simpa using HO.out.1, HO.out.2⟩
  case round =>
    obtain ⟨j, hj, rfl, ho, hb⟩ := hrel
    have hlen := mid_len (l := sW s) (j := j) (n := s.size) (by rw [sW_length]; exact hj) hj
    by_cases hlt : j < s.size
    · have hx := sW_get hlt
      have hxo := H.out _ (List.mem_of_getElem? hx)
      obtain ⟨x, hxx⟩ : ∃ x, (s[j].toNat : Int) - 48 = x := ⟨_, rfl⟩
      rw [hxx] at hx hxo
      have hput := put_next hx hlt
      obtain ⟨xs, hxs⟩ : ∃ xs, (sW s).take j ++ List.replicate (s.size - j) (0 : Int) = xs := ⟨_, rfl⟩
      rw [hxs] at ho hlen hput
      have hown : wr.ownsRow w0.heap.size 3 1 (.slice (some ⟨w0.heap.size, 0, none⟩) s.size s.size) s.size (cI xs) := by
        unfold IntO at ho
        rwa [hlen] at ho
      obtain ⟨y, hy⟩ := getI (l := xs) (k := j) (by omega)
      have hcy : wr.cell? ⟨w0.heap.size, j, none⟩ = some (.int .i64 y) := (hown.cellAt j (by omega)).trans (cI_get hy)
      have hfy : wr.frozen? ⟨w0.heap.size, j, none⟩ = false := hown.frozenAt j
      obtain ⟨s1, t1⟩ := hown.stored j (.int .i64 x)
      rw [← cI_set, hput] at s1
      have hb1 : Below w0.heap.size w0 (wr.setCell ⟨w0.heap.size, j, none⟩ (.int .i64 x)) := hb.setCell (p := ⟨w0.heap.size, j, none⟩) (Nat.le_refl _) _
      have hlen1 := mid_len (l := sW s) (j := j + 1) (n := s.size) (by rw [sW_length]; omega) (by omega)
      have HS := Lib.hid (And.intro s1 (And.intro hb1 hlen1))
      have hx0 : ¬ x < 0 := by omega
      have hxk : ¬ (k : Int) ≤ x := by omega
      clear ho hown hput hxs s1 t1 hb1 hb hy hx hlen hlen1 hxo
      go_wp2_with fail
      go_roundw
      case rel => exact ⟨j + 1, by omega, by go_num, by unfold IntO; rw [HS.out.2.2]; exact HS.out.1, HS.out.2.1⟩
      case measure => simp [intOf]; omega
    · obtain rfl : j = s.size := by omega
      have he : (sW s).take s.size ++ List.replicate (s.size - s.size) (0 : Int) = sW s := by
        rw [Nat.sub_self, List.replicate_zero, List.append_nil, ← sW_length, List.take_length]
      rw [he] at ho
      obtain ⟨⟨hf0, hf1, hf2⟩, hc0, hc1, hc2⟩ := (HE.out.1.next hb).facts
      have HF := Lib.hid (And.intro ho (HE.out.2.trans (hb.mono (by omega))))
      clear ho hb he hlen
      go_wp2_with fail
      refine bodyPost_ret (v := .tuple #[.slice (some ⟨w0.heap.size, 0, none⟩) (sW s).length s.size, noErr]) (by simp [results, Tryz.results31, go_sem, hc0, hc1, hc2, noErr, sW_length]) rfl ⟨_, _, rfl, ?_, ?_⟩
      · exact (HF.out.1.put3 (by omega) _ _ _).base (by omega)
      · exact put3_below HF.out.2 (Nat.le_refl _) _ _ _

set_option maxRecDepth 100000 in
set_option maxHeartbeats 8000000 in
theorem parse_ref_badW (k : Int) (s : ByteArray) (w : World) (hsz : s.size ≤ maxLen) (i m : Nat) (hc : chkW k (sW s) = some (i, m)) :
    Calls Tryz.prog 31 #[.int .i64 k, .string s] w (RefErrW2 w (.slice none 0 0) i (code6 m)) := by
  unfold chkW at hc
  rw [sW_length] at hc
  unfold maxLen at hsz
  split at hc
  · obtain ⟨rfl, rfl⟩ := Prod.mk.inj (Option.some.inj hc)
    rename_i hk
    clear hc
    rcases Int.lt_or_le k 1 with hk1 | hk1
    · clear hk
      go_enter Tryz.func31, Tryz.ntmps31
      go_wp2_with fail
      obtain ⟨w0, hw0⟩ : ∃ w0, w0 = w.alloc (.cells #[.int .i64 0, .slice none 0 0, .slice none 0 0] 56) := ⟨_, rfl⟩
      have hb0 : Below w.heap.size w w0 := by rw [hw0]; exact (Below.refl _ _).alloc (Nat.le_refl _) _
      have hs0 : w.heap.size < w0.heap.size := by rw [hw0]; simp
      have hE0 : Err3 w0 w.heap.size (.int .i64 0) (.slice none 0 0) (.slice none 0 0) := by rw [hw0]; exact Err3.new w
      rw [← hw0]
      have HE := Lib.hid (And.intro hE0 hb0)
      clear hw0 hE0 hb0
      refine (raw_fresh wordOp 0 3 _).mono ?_
      rintro e w2 ⟨g, g', rfl, ⟨hg1, hg2, hg3, hg4⟩, hcg, hcg', hb2⟩
      obtain ⟨⟨hf0, hf1, hf2⟩, hc0, hc1, hc2⟩ := (HE.out.1.next hb2).facts
      have hgs := HE.out.2.size
      have hgt : w.heap.size < w0.heap.size := heap_ltN HE.out.1.heap
      have HB2 := Lib.hid (And.intro hcg (And.intro hcg' (And.intro (HE.out.2.trans (hb2.mono (by omega))) (And.intro hgt (And.intro hg1 hg3)))))
      clear hb2 hcg hcg' hgs hgt
      go_wp2_with fail
      refine bodyPost_ret (v := .tuple #[.slice none 0 0, .agg #[.int .i64 3, .slice (some ⟨g, 0, none⟩) 1 1, .slice (some ⟨g', 0, none⟩) 1 1]]) (by simp [results, Tryz.results31, go_sem, hc0, hc1, hc2]) rfl ⟨_, rfl, g, g', rfl, ⟨by have := HB2.out.2.2.2; omega, by have := HB2.out.2.2.2; omega⟩, ?_, ?_⟩
      · exact WantV.one (by simp; omega) (by simp; omega) ((put3_cell w2 w.heap.size _ _ _ _ (by have := HB2.out.2.2.2; simp only []; omega)).trans HB2.out.1) ((put3_cell w2 w.heap.size _ _ _ _ (by have := HB2.out.2.2.2; simp only []; omega)).trans HB2.out.2.1)
      · exact put3_below HB2.out.2.2.1 (Nat.le_refl _) _ _ _
    · have hk4 : 4 < k := by omega
      have hk1' : ¬ k < 1 := by omega
      clear hk
      go_enter Tryz.func31, Tryz.ntmps31
      go_wp2_with fail
      obtain ⟨w0, hw0⟩ : ∃ w0, w0 = w.alloc (.cells #[.int .i64 0, .slice none 0 0, .slice none 0 0] 56) := ⟨_, rfl⟩
      have hb0 : Below w.heap.size w w0 := by rw [hw0]; exact (Below.refl _ _).alloc (Nat.le_refl _) _
      have hs0 : w.heap.size < w0.heap.size := by rw [hw0]; simp
      have hE0 : Err3 w0 w.heap.size (.int .i64 0) (.slice none 0 0) (.slice none 0 0) := by rw [hw0]; exact Err3.new w
      rw [← hw0]
      have HE := Lib.hid (And.intro hE0 hb0)
      clear hw0 hE0 hb0
      refine (raw_fresh wordOp 0 3 _).mono ?_
      rintro e w2 ⟨g, g', rfl, ⟨hg1, hg2, hg3, hg4⟩, hcg, hcg', hb2⟩
      obtain ⟨⟨hf0, hf1, hf2⟩, hc0, hc1, hc2⟩ := (HE.out.1.next hb2).facts
      have hgs := HE.out.2.size
      have hgt : w.heap.size < w0.heap.size := heap_ltN HE.out.1.heap
      have HB2 := Lib.hid (And.intro hcg (And.intro hcg' (And.intro (HE.out.2.trans (hb2.mono (by omega))) (And.intro hgt (And.intro hg1 hg3)))))
      clear hb2 hcg hcg' hgs hgt
      go_wp2_with fail
      refine bodyPost_ret (v := .tuple #[.slice none 0 0, .agg #[.int .i64 3, .slice (some ⟨g, 0, none⟩) 1 1, .slice (some ⟨g', 0, none⟩) 1 1]]) (by simp [results, Tryz.results31, go_sem, hc0, hc1, hc2]) rfl ⟨_, rfl, g, g', rfl, ⟨by have := HB2.out.2.2.2; omega, by have := HB2.out.2.2.2; omega⟩, ?_, ?_⟩
      · exact WantV.one (by simp; omega) (by simp; omega) ((put3_cell w2 w.heap.size _ _ _ _ (by have := HB2.out.2.2.2; simp only []; omega)).trans HB2.out.1) ((put3_cell w2 w.heap.size _ _ _ _ (by have := HB2.out.2.2.2; simp only []; omega)).trans HB2.out.2.1)
      · exact put3_below HB2.out.2.2.1 (Nat.le_refl _) _ _ _
  · split at hc
    · obtain ⟨rfl, rfl⟩ := Prod.mk.inj (Option.some.inj hc)
      have hk1 : ¬ k < 1 := by omega
      have hk4 : ¬ 4 < k := by omega
      clear hc
      go_enter Tryz.func31, Tryz.ntmps31
      go_wp2_with fail
      obtain ⟨w0, hw0⟩ : ∃ w0, w0 = w.alloc (.cells #[.int .i64 0, .slice none 0 0, .slice none 0 0] 56) := ⟨_, rfl⟩
      have hb0 : Below w.heap.size w w0 := by rw [hw0]; exact (Below.refl _ _).alloc (Nat.le_refl _) _
      have hs0 : w.heap.size < w0.heap.size := by rw [hw0]; simp
      have hE0 : Err3 w0 w.heap.size (.int .i64 0) (.slice none 0 0) (.slice none 0 0) := by rw [hw0]; exact Err3.new w
      rw [← hw0]
      have HE := Lib.hid (And.intro hE0 hb0)
      clear hw0 hE0 hb0
      refine (raw_fresh wordOp 0 4 _).mono ?_
      rintro e w2 ⟨g, g', rfl, ⟨hg1, hg2, hg3, hg4⟩, hcg, hcg', hb2⟩
      obtain ⟨⟨hf0, hf1, hf2⟩, hc0, hc1, hc2⟩ := (HE.out.1.next hb2).facts
      have hgs := HE.out.2.size
      have hgt : w.heap.size < w0.heap.size := heap_ltN HE.out.1.heap
      have HB2 := Lib.hid (And.intro hcg (And.intro hcg' (And.intro (HE.out.2.trans (hb2.mono (by omega))) (And.intro hgt (And.intro hg1 hg3)))))
      clear hb2 hcg hcg' hgs hgt
      go_wp2_with fail
      refine bodyPost_ret (v := .tuple #[.slice none 0 0, .agg #[.int .i64 4, .slice (some ⟨g, 0, none⟩) 1 1, .slice (some ⟨g', 0, none⟩) 1 1]]) (by simp [results, Tryz.results31, go_sem, hc0, hc1, hc2]) rfl ⟨_, rfl, g, g', rfl, ⟨by have := HB2.out.2.2.2; omega, by have := HB2.out.2.2.2; omega⟩, ?_, ?_⟩
      · exact WantV.one (by simp; omega) (by simp; omega) ((put3_cell w2 w.heap.size _ _ _ _ (by have := HB2.out.2.2.2; simp only []; omega)).trans HB2.out.1) ((put3_cell w2 w.heap.size _ _ _ _ (by have := HB2.out.2.2.2; simp only []; omega)).trans HB2.out.2.1)
      · exact put3_below HB2.out.2.2.1 (Nat.le_refl _) _ _ _
    · obtain ⟨i', hi, he⟩ := Option.map_eq_some_iff.1 hc
      obtain ⟨rfl, rfl⟩ := Prod.mk.inj he
      obtain ⟨hil, hbad, hall⟩ := List.findIdx?_eq_some_iff_getElem.1 hi
      rw [sW_length] at hil
      have hs4 : s.size ≤ 4096 := by omega
      have hk1 : ¬ k < 1 := by omega
      have hk4 : ¬ 4 < k := by omega
      have H := Lib.hid (And.intro hbad hall)
      clear hc hi he hbad hall
      go_enter Tryz.func31, Tryz.ntmps31
      go_upto_region 5 with fail
      obtain ⟨w0, hw0⟩ : ∃ w0, w0 = w.alloc (.cells #[.int .i64 0, .slice none 0 0, .slice none 0 0] 56) := ⟨_, rfl⟩
      have hb0 : Below w.heap.size w w0 := by rw [hw0]; exact (Below.refl _ _).alloc (Nat.le_refl _) _
      have hs0 : w.heap.size < w0.heap.size := by rw [hw0]; simp
      have hE0 : Err3 w0 w.heap.size (.int .i64 0) (.slice none 0 0) (.slice none 0 0) := by rw [hw0]; exact Err3.new w
      rw [← hw0]
      have HE := Lib.hid (And.intro hE0 hb0)
      clear hw0 hE0 hb0
      have hmk := makeI s.size (by omega) w0
      go_wp2_with fail
      have ho0 := IntO.made w0 s.size (by omega)
      have hb0 : Below w0.heap.size w0 (w0.alloc (.cells (madeCells #[.int .i64 0] s.size) 3)) := (Below.refl _ _).alloc (Nat.le_refl _) _
      have HO := Lib.hid (And.intro ho0 hb0)
      clear hmk ho0 hb0
      go_loopw [7] (fun v wr => ParseWRel w0 s.size (sW s) (some ⟨w0.heap.size, 0, none⟩) s.size i' v wr) (fun v _ => s.size - (intOf v).toNat)
      case atStart => exact ⟨0, Nat.zero_le _, rfl, by simpa using HO.out.1, HO.out.2⟩
      case round =>
        obtain ⟨j, hj, rfl, ho, hb⟩ := hrel
        have hlen := mid_len (l := sW s) (j := j) (n := s.size) (by rw [sW_length]; omega) (by omega)
        have hlt : j < s.size := by omega
        have hx := sW_get hlt
        have hbd : s[j].toNat < 256 := UInt8.toNat_lt _
        obtain ⟨x, hxx⟩ : ∃ x, (s[j].toNat : Int) - 48 = x := ⟨_, rfl⟩
        rw [hxx] at hx
        have hput := put_next hx hlt
        obtain ⟨xs, hxs⟩ : ∃ xs, (sW s).take j ++ List.replicate (s.size - j) (0 : Int) = xs := ⟨_, rfl⟩
        rw [hxs] at ho hlen hput
        have hown : wr.ownsRow w0.heap.size 3 1 (.slice (some ⟨w0.heap.size, 0, none⟩) s.size s.size) s.size (cI xs) := by
          unfold IntO at ho
          rwa [hlen] at ho
        obtain ⟨y, hy⟩ := getI (l := xs) (k := j) (by omega)
        have hcy : wr.cell? ⟨w0.heap.size, j, none⟩ = some (.int .i64 y) := (hown.cellAt j (by omega)).trans (cI_get hy)
        have hfy : wr.frozen? ⟨w0.heap.size, j, none⟩ = false := hown.frozenAt j
        obtain ⟨s1, t1⟩ := hown.stored j (.int .i64 x)
        rw [← cI_set, hput] at s1
        have hb1 : Below w0.heap.size w0 (wr.setCell ⟨w0.heap.size, j, none⟩ (.int .i64 x)) := hb.setCell (p := ⟨w0.heap.size, j, none⟩) (Nat.le_refl _) _
        have hlen1 := mid_len (l := sW s) (j := j + 1) (n := s.size) (by rw [sW_length]; omega) (by omega)
        have HX := Lib.hid (And.intro (HE.out.1.next hb1) (HE.out.2.trans (hb1.mono (by omega))))
        have HS := Lib.hid (And.intro s1 (And.intro hb1 (And.intro hlen1 hx)))
        clear ho hown hput hxs s1 t1 hb1 hb hy hx hlen hlen1
        by_cases hji : j < i'
        · have hg := H.out.2 j hji
          have hgx : (sW s)[j]'(by rw [sW_length]; exact hlt) = x := by
            have e := HS.out.2.2.2
            rw [List.getElem?_eq_getElem (by rw [sW_length]; exact hlt)] at e
            exact Option.some.inj e
          rw [hgx] at hg
          unfold badAt at hg
          simp at hg
          have hx0 : ¬ x < 0 := by omega
          have hxk : ¬ k ≤ x := by omega
          clear hg hgx
          go_wp2_with fail
          go_roundw
          case rel => exact ⟨j + 1, by omega, by go_num, by unfold IntO; rw [HS.out.2.2.1]; exact HS.out.1, HS.out.2.1⟩
          case measure => simp [intOf]; omega
        · obtain rfl : j = i' := by omega
          have hg := H.out.1
          have hgx : (sW s)[j]'(by rw [sW_length]; exact hlt) = x := by
            have e := HS.out.2.2.2
            rw [List.getElem?_eq_getElem (by rw [sW_length]; exact hlt)] at e
            exact Option.some.inj e
          rw [hgx] at hg
          unfold badAt at hg
          simp at hg
          clear hgx
          rcases Int.lt_or_le x 0 with hx1 | hx1
          · clear hg
            go_wp2_with fail
            refine (raw_fresh wordOp j 6 _).mono ?_
            rintro e w2 ⟨g, g', rfl, ⟨hg1, hg2, hg3, hg4⟩, hcg, hcg', hb2⟩
            obtain ⟨⟨hf0, hf1, hf2⟩, hc0, hc1, hc2⟩ := (HX.out.1.next hb2).facts
            have hgs := HX.out.2.size
            have hgt : w.heap.size < (wr.setCell ⟨w0.heap.size, j, none⟩ (.int .i64 x)).heap.size := heap_ltN HX.out.1.heap
            have HB2 := Lib.hid (And.intro hcg (And.intro hcg' (And.intro (HX.out.2.trans (hb2.mono (by omega))) (And.intro hgt (And.intro hg1 hg3)))))
            clear hb2 hcg hcg' hgs hgt
            go_wp2_with fail
            refine bodyPost_ret (v := .tuple #[.slice none 0 0, .agg #[.int .i64 6, .slice (some ⟨g, 0, none⟩) 1 1, .slice (some ⟨g', 0, none⟩) 1 1]]) (by simp [results, Tryz.results31, go_sem, hc0, hc1, hc2]) rfl ⟨_, rfl, g, g', rfl, ⟨by have := HB2.out.2.2.2; omega, by have := HB2.out.2.2.2; omega⟩, ?_, ?_⟩
            · exact WantV.one (by simp; omega) (by simp; omega) ((put3_cell w2 w.heap.size _ _ _ _ (by have := HB2.out.2.2.2; simp only []; omega)).trans HB2.out.1) ((put3_cell w2 w.heap.size _ _ _ _ (by have := HB2.out.2.2.2; simp only []; omega)).trans HB2.out.2.1)
            · exact put3_below HB2.out.2.2.1 (Nat.le_refl _) _ _ _
          · have hx1' : ¬ x < 0 := by omega
            have hx2 : k ≤ x := by omega
            clear hg
            go_wp2_with fail
            refine (raw_fresh wordOp j 6 _).mono ?_
            rintro e w2 ⟨g, g', rfl, ⟨hg1, hg2, hg3, hg4⟩, hcg, hcg', hb2⟩
            obtain ⟨⟨hf0, hf1, hf2⟩, hc0, hc1, hc2⟩ := (HX.out.1.next hb2).facts
            have hgs := HX.out.2.size
            have hgt : w.heap.size < (wr.setCell ⟨w0.heap.size, j, none⟩ (.int .i64 x)).heap.size := heap_ltN HX.out.1.heap
            have HB2 := Lib.hid (And.intro hcg (And.intro hcg' (And.intro (HX.out.2.trans (hb2.mono (by omega))) (And.intro hgt (And.intro hg1 hg3)))))
            clear hb2 hcg hcg' hgs hgt
            go_wp2_with fail
            refine bodyPost_ret (v := .tuple #[.slice none 0 0, .agg #[.int .i64 6, .slice (some ⟨g, 0, none⟩) 1 1, .slice (some ⟨g', 0, none⟩) 1 1]]) (by simp [results, Tryz.results31, go_sem, hc0, hc1, hc2]) rfl ⟨_, rfl, g, g', rfl, ⟨by have := HB2.out.2.2.2; omega, by have := HB2.out.2.2.2; omega⟩, ?_, ?_⟩
            · exact WantV.one (by simp; omega) (by simp; omega) ((put3_cell w2 w.heap.size _ _ _ _ (by have := HB2.out.2.2.2; simp only []; omega)).trans HB2.out.1) ((put3_cell w2 w.heap.size _ _ _ _ (by have := HB2.out.2.2.2; simp only []; omega)).trans HB2.out.2.1)
            · exact put3_below HB2.out.2.2.1 (Nat.le_refl _) _ _ _
end Go.Proofs.YtfgoflaeclfggaaGreatDoor
end
section
namespace Go.Proofs.YtfgoflaeclfggaaGreatDoor
open Go.RowKit Go.Extern.Stop Go.Stop Go.Extern WordM NatM

set_option maxRecDepth 100000 in
set_option maxHeartbeats 4000000 in
theorem times_ref_neg (p : Option Addr) (n c : Nat) (z : Int) (w : World) (hz : z < 0) :
    Calls Tryz.prog 33 #[.slice p n c, .int .i64 z] w (RefErrW2 w (.slice none 0 0) 0 3) := by
  go_enter Tryz.func33, Tryz.ntmps33
  go_wp2_with fail
  obtain ⟨w0, hw0⟩ : ∃ w0, w0 = w.alloc (.cells #[.int .i64 0, .slice none 0 0, .slice none 0 0] 56) := ⟨_, rfl⟩
  have hb0 : Below w.heap.size w w0 := by rw [hw0]; exact (Below.refl _ _).alloc (Nat.le_refl _) _
  have hs0 : w.heap.size < w0.heap.size := by rw [hw0]; simp
  have hE0 : Err3 w0 w.heap.size (.int .i64 0) (.slice none 0 0) (.slice none 0 0) := by rw [hw0]; exact Err3.new w
  rw [← hw0]
  have HE := Lib.hid (And.intro hE0 hb0)
  clear hw0 hE0 hb0
  refine (raw_fresh wordOp 0 3 _).mono ?_
  rintro e w2 ⟨g, g', rfl, ⟨hg1, hg2, hg3, hg4⟩, hcg, hcg', hb2⟩
  obtain ⟨⟨hf0, hf1, hf2⟩, hc0, hc1, hc2⟩ := (HE.out.1.next hb2).facts
  have hgs := HE.out.2.size
  have hgt : w.heap.size < w0.heap.size := heap_ltN HE.out.1.heap
  have HB2 := Lib.hid (And.intro hcg (And.intro hcg' (And.intro (HE.out.2.trans (hb2.mono (by omega))) (And.intro hgt (And.intro hg1 hg3)))))
  clear hb2 hcg hcg' hgs hgt
  go_wp2_with fail
  refine bodyPost_ret (v := .tuple #[.slice none 0 0, .agg #[.int .i64 3, .slice (some ⟨g, 0, none⟩) 1 1, .slice (some ⟨g', 0, none⟩) 1 1]]) (by simp [results, Tryz.results33, go_sem, hc0, hc1, hc2]) rfl ⟨_, rfl, g, g', rfl, ⟨by have := HB2.out.2.2.2; omega, by have := HB2.out.2.2.2; omega⟩, ?_, ?_⟩
  · exact WantV.one (by simp; omega) (by simp; omega) ((put3_cell w2 w.heap.size _ _ _ _ (by have := HB2.out.2.2.2; simp only []; omega)).trans HB2.out.1) ((put3_cell w2 w.heap.size _ _ _ _ (by have := HB2.out.2.2.2; simp only []; omega)).trans HB2.out.2.1)
  · exact put3_below HB2.out.2.2.1 (Nat.le_refl _) _ _ _

set_option maxRecDepth 100000 in
set_option maxHeartbeats 4000000 in
theorem times_ref_big (p : Option Addr) (n c m : Nat) (w : World) (hn : n ≤ 17592186044416) (h0 : 0 < n) (hm : 4096 / n < m) (hmi : m ≤ 9223372036854775807) :
    Calls Tryz.prog 33 #[.slice p n c, .int .i64 (m : Int)] w (RefErrW2 w (.slice none 0 0) 0 4) := by
  have hz : ((n : Int) == 0) = false := by rw [beq_eq_false_iff_ne]; omega
  have hm0 : ¬ (m : Int) < 0 := by omega
  have hmn : 4096 < m * n := by rw [Nat.div_lt_iff_lt_mul h0] at hm; exact hm
  rcases Nat.lt_or_ge 4096 m with h4 | h4
  · have h4' : (4096 : Int) < (m : Int) := by omega
    clear hm hmn
    go_enter Tryz.func33, Tryz.ntmps33
    go_wp2_with fail
    obtain ⟨w0, hw0⟩ : ∃ w0, w0 = w.alloc (.cells #[.int .i64 0, .slice none 0 0, .slice none 0 0] 56) := ⟨_, rfl⟩
    have hb0 : Below w.heap.size w w0 := by rw [hw0]; exact (Below.refl _ _).alloc (Nat.le_refl _) _
    have hs0 : w.heap.size < w0.heap.size := by rw [hw0]; simp
    have hE0 : Err3 w0 w.heap.size (.int .i64 0) (.slice none 0 0) (.slice none 0 0) := by rw [hw0]; exact Err3.new w
    rw [← hw0]
    have HE := Lib.hid (And.intro hE0 hb0)
    clear hw0 hE0 hb0
    refine (raw_fresh wordOp 0 4 _).mono ?_
    rintro e w2 ⟨g, g', rfl, ⟨hg1, hg2, hg3, hg4⟩, hcg, hcg', hb2⟩
    obtain ⟨⟨hf0, hf1, hf2⟩, hc0, hc1, hc2⟩ := (HE.out.1.next hb2).facts
    have hgs := HE.out.2.size
    have hgt : w.heap.size < w0.heap.size := heap_ltN HE.out.1.heap
    have HB2 := Lib.hid (And.intro hcg (And.intro hcg' (And.intro (HE.out.2.trans (hb2.mono (by omega))) (And.intro hgt (And.intro hg1 hg3)))))
    clear hb2 hcg hcg' hgs hgt
    go_wp2_with fail
    refine bodyPost_ret (v := .tuple #[.slice none 0 0, .agg #[.int .i64 4, .slice (some ⟨g, 0, none⟩) 1 1, .slice (some ⟨g', 0, none⟩) 1 1]]) (by simp [results, Tryz.results33, go_sem, hc0, hc1, hc2]) rfl ⟨_, rfl, g, g', rfl, ⟨by have := HB2.out.2.2.2; omega, by have := HB2.out.2.2.2; omega⟩, ?_, ?_⟩
    · exact WantV.one (by simp; omega) (by simp; omega) ((put3_cell w2 w.heap.size _ _ _ _ (by have := HB2.out.2.2.2; simp only []; omega)).trans HB2.out.1) ((put3_cell w2 w.heap.size _ _ _ _ (by have := HB2.out.2.2.2; simp only []; omega)).trans HB2.out.2.1)
    · exact put3_below HB2.out.2.2.1 (Nat.le_refl _) _ _ _
  · have h4' : ¬ (4096 : Int) < (m : Int) := by omega
    obtain ⟨P, hP⟩ : ∃ P, m * n = P := ⟨_, rfl⟩
    have hP1 : P ≤ 72057594037927936 + 1000000000 := by
      rw [← hP]
      exact Nat.le_trans (Nat.mul_le_mul h4 hn) (by decide)
    have hmul : (m : Int) * (n : Int) = (P : Int) := by rw [← hP]; exact (Int.natCast_mul m n).symm
    have hP2 : 4096 < P := by omega
    have hP3 : (4096 : Int) < (P : Int) := by omega
    clear hm hmn hP
    go_enter Tryz.func33, Tryz.ntmps33
    go_wp2_with fail
    obtain ⟨w0, hw0⟩ : ∃ w0, w0 = w.alloc (.cells #[.int .i64 0, .slice none 0 0, .slice none 0 0] 56) := ⟨_, rfl⟩
    have hb0 : Below w.heap.size w w0 := by rw [hw0]; exact (Below.refl _ _).alloc (Nat.le_refl _) _
    have hs0 : w.heap.size < w0.heap.size := by rw [hw0]; simp
    have hE0 : Err3 w0 w.heap.size (.int .i64 0) (.slice none 0 0) (.slice none 0 0) := by rw [hw0]; exact Err3.new w
    rw [← hw0]
    have HE := Lib.hid (And.intro hE0 hb0)
    clear hw0 hE0 hb0
    refine (raw_fresh wordOp 0 4 _).mono ?_
    rintro e w2 ⟨g, g', rfl, ⟨hg1, hg2, hg3, hg4⟩, hcg, hcg', hb2⟩
    obtain ⟨⟨hf0, hf1, hf2⟩, hc0, hc1, hc2⟩ := (HE.out.1.next hb2).facts
    have hgs := HE.out.2.size
    have hgt : w.heap.size < w0.heap.size := heap_ltN HE.out.1.heap
    have HB2 := Lib.hid (And.intro hcg (And.intro hcg' (And.intro (HE.out.2.trans (hb2.mono (by omega))) (And.intro hgt (And.intro hg1 hg3)))))
    clear hb2 hcg hcg' hgs hgt
    go_wp2_with fail
    refine bodyPost_ret (v := .tuple #[.slice none 0 0, .agg #[.int .i64 4, .slice (some ⟨g, 0, none⟩) 1 1, .slice (some ⟨g', 0, none⟩) 1 1]]) (by simp [results, Tryz.results33, go_sem, hc0, hc1, hc2]) rfl ⟨_, rfl, g, g', rfl, ⟨by have := HB2.out.2.2.2; omega, by have := HB2.out.2.2.2; omega⟩, ?_, ?_⟩
    · exact WantV.one (by simp; omega) (by simp; omega) ((put3_cell w2 w.heap.size _ _ _ _ (by have := HB2.out.2.2.2; simp only []; omega)).trans HB2.out.1) ((put3_cell w2 w.heap.size _ _ _ _ (by have := HB2.out.2.2.2; simp only []; omega)).trans HB2.out.2.1)
    · exact put3_below HB2.out.2.2.1 (Nat.le_refl _) _ _ _

theorem timesW_nil (m : Nat) : timesW [] m = [] := by
  have h := timesW_length [] m
  rw [List.length_nil, Nat.mul_zero] at h
  exact List.eq_nil_of_length_eq_zero h
def TimesRel (w : World) (l : List Int) (m : Nat) (v6 v7 : Value) (wr : World) : Prop :=
  ∃ (i : Nat) (p : Option Addr) (c : Nat), i ≤ m ∧ v7 = .int .i64 (i : Int) ∧ v6 = .slice p (timesW l i).length c ∧ IntO w.heap.size wr p c (timesW l i) ∧ Below w.heap.size w wr
set_option maxRecDepth 100000 in
set_option maxHeartbeats 4000000 in
theorem times_ref_ok (p : Option Addr) (n c m : Nat) (l : List Int) (w : World) (hn : n = l.length) (h : IntV w.heap.size w p c l) (hm : m ≤ 9223372036854775807) (hT : n = 0 ∨ m ≤ 4096 / n) :
    Calls Tryz.prog 33 #[.slice p n c, .int .i64 (m : Int)] w (RefIOk w (timesW l m)) := by
  have hle := h.le
  have hcap := h.cap
  unfold maxLen at hcap
  have hnc : n ≤ c := by omega
  have hm0 : ¬ (m : Int) < 0 := by omega
  rcases Nat.eq_zero_or_pos n with h0 | h0
  · obtain rfl : l = [] := List.eq_nil_of_length_eq_zero (by omega)
    rw [timesW_nil]
    subst h0
    clear h hn hT hle hnc
    go_enter Tryz.func33, Tryz.ntmps33
    go_upto_region 4 with fail
    obtain ⟨w0, hw0⟩ : ∃ w0, w0 = w.alloc (.cells #[.int .i64 0, .slice none 0 0, .slice none 0 0] 56) := ⟨_, rfl⟩
    have hb0 : Below w.heap.size w w0 := by rw [hw0]; exact (Below.refl _ _).alloc (Nat.le_refl _) _
    have hs0 : w.heap.size < w0.heap.size := by rw [hw0]; simp
    have hE0 : Err3 w0 w.heap.size (.int .i64 0) (.slice none 0 0) (.slice none 0 0) := by rw [hw0]; exact Err3.new w
    rw [← hw0]
    have HE := Lib.hid (And.intro hE0 hb0)
    clear hw0 hE0 hb0
    obtain ⟨⟨hf0, hf1, hf2⟩, hc0, hc1, hc2⟩ := HE.out.1.facts
    go_wp2_with fail
    refine bodyPost_ret (v := .tuple #[.slice none 0 0, noErr]) (by simp [results, Tryz.results33, go_sem, hc0, hc1, hc2, noErr]) rfl ⟨none, 0, rfl, IntO.nothing _ _, ?_⟩
    exact put3_below HE.out.2 (Nat.le_refl _) _ _ _
  · have hT' : m * n ≤ 4096 := by
      have h1 : m ≤ 4096 / n := by omega
      exact Nat.le_trans (Nat.mul_le_mul_right n h1) (Nat.div_mul_le_self 4096 n)
    have h4 : m ≤ 4096 := Nat.le_trans (Nat.le_mul_of_pos_right m h0) hT'
    have hz : ((n : Int) == 0) = false := by rw [beq_eq_false_iff_ne]; omega
    have h4' : ¬ (4096 : Int) < (m : Int) := by omega
    obtain ⟨P, hP⟩ : ∃ P, m * n = P := ⟨_, rfl⟩
    have hmul : (m : Int) * (n : Int) = (P : Int) := by rw [← hP]; exact (Int.natCast_mul m n).symm
    have hP2 : P ≤ 4096 := by omega
    have hP3 : ¬ (4096 : Int) < (P : Int) := by omega
    have H := Lib.hid (And.intro h (And.intro hn hP))
    obtain ⟨i0, hi, hz0, hz1, hz2⟩ := info_parts infoI
    clear h hn hT hT' hP hle
    go_enter Tryz.func33, Tryz.ntmps33
    go_upto_region 7 with fail
    obtain ⟨w0, hw0⟩ : ∃ w0, w0 = w.alloc (.cells #[.int .i64 0, .slice none 0 0, .slice none 0 0] 56) := ⟨_, rfl⟩
    have hb0 : Below w.heap.size w w0 := by rw [hw0]; exact (Below.refl _ _).alloc (Nat.le_refl _) _
    have hs0 : w.heap.size < w0.heap.size := by rw [hw0]; simp
    have hE0 : Err3 w0 w.heap.size (.int .i64 0) (.slice none 0 0) (.slice none 0 0) := by rw [hw0]; exact Err3.new w
    rw [← hw0]
    have HE := Lib.hid (And.intro hE0 hb0)
    clear hw0 hE0 hb0
    go_wp2_with fail
    go_loopw [6, 7] (fun v6 v7 wr => TimesRel w0 l m v6 v7 wr) (fun _ v _ => m - (intOf v).toNat)
    case atStart => exact ⟨0, none, 0, Nat.zero_le _, rfl, rfl, IntO.nothing _ _, Below.refl _ _⟩
    case round =>
      obtain ⟨i, p2, c2, him, rfl, rfl, ho, hb⟩ := hrel
      by_cases hlt : i < m
      · have hlen := timesW_length l i
        have hstep : timesW l (i + 1) = timesW l i ++ l := rfl
        obtain ⟨xs, hxs⟩ : ∃ xs, timesW l i = xs := ⟨_, rfl⟩
        rw [hxs] at ho hlen hstep ⊢
        obtain ⟨L, hL⟩ : ∃ L, xs.length = L := ⟨_, rfl⟩
        have hown : wr.ownsRow w0.heap.size 3 1 (.slice p2 L c2) L (cI xs) := by
          unfold IntO at ho
          rwa [hL] at ho
        have hL4 : L + n ≤ 8192 := by
          have h1 : i * n ≤ m * n := Nat.mul_le_mul_right n him
          have h2 := H.out.2.1
          have h3 := H.out.2.2
          have h5 : n ≤ m * n := Nat.le_mul_of_pos_left n (by omega)
          rw [hL, ← h2] at hlen
          omega
        rw [hL]
        have hnl := H.out.2.1
        obtain ⟨b, off, rfl, hbb, hcc⟩ := ((H.out.1.next HE.out.2).next hb).cell (by rintro rfl; simp at hnl; omega)
        have HW := Lib.hid (And.intro hb (And.intro hstep (And.intro hL (And.intro hcc hnl))))
        clear ho hlen hstep hxs hL hcc hnl
        have hwB : w0.heap.size ≤ wr.heap.size := hb.size
        clear hb
        go_wp2_with (at_builtin; refine wpList_append_own _ rfl _ _ 24 rfl w0.heap.size 3 i0 (.int .i64 0) 1 8 Tryz.underlying24 hi hz0 hz1 hz2 rfl (by decide) _ L (cI xs) rfl hown ⟨b, off, none⟩ n c (cI l) rfl ?d0 ?d1 ?d2 ?d3 ?d4 ?d5 ?_)
        case d0 => simp [cI]; have := HW.out.2.2.2.2; omega
        case d1 =>
          intro j u hj
          unfold cI at hj
          rw [List.getElem?_map] at hj
          obtain ⟨x, hx, rfl⟩ := Option.map_eq_some_iff.1 hj
          rw [add_off]
          exact HW.out.2.2.2.1 j x hx
        case d2 =>
          intro u hu
          unfold cI at hu
          obtain ⟨x, _, rfl⟩ := List.mem_map.1 hu
          rfl
        case d3 => unfold maxLen; omega
        case d4 => omega
        case d5 => first | omega | (simp; done) | (simp; omega)
        intro v' w3 hown' hgrow _
        have hcat : w3.ownsRow w0.heap.size 3 1 v' (xs ++ l).length (cI (xs ++ l)) := by
          rw [cI_app, List.length_append, HW.out.2.2.1, ← HW.out.2.2.2.2]
          exact hown'
        obtain ⟨p3, c3, rfl, ho3⟩ := IntO.slice_own hcat
        have hb3 : Below w0.heap.size w0 w3 := HW.out.1.grown hgrow (by first | omega | (simp; done) | (simp; omega)) (fun j hj => (hown.lt j hj).1)
        have HF := Lib.hid (And.intro ho3 hb3)
        clear hown hown' hgrow ho3 hb3 hcat
        go_wp2_with fail
        go_roundw
        case rel => exact ⟨i + 1, p3, c3, by omega, by go_num, by rw [HW.out.2.1], by rw [HW.out.2.1]; exact HF.out.1, HF.out.2⟩
        case measure => simp [intOf]; omega
      · obtain rfl : i = m := by omega
        obtain ⟨⟨hf0, hf1, hf2⟩, hc0, hc1, hc2⟩ := (HE.out.1.next hb).facts
        have HF := Lib.hid (And.intro ho (HE.out.2.trans (hb.mono (by omega))))
        clear ho hb
        go_wp2_with fail
        refine bodyPost_ret (v := .tuple #[.slice p2 (timesW l i).length c2, noErr]) (by simp [results, Tryz.results33, go_sem, hc0, hc1, hc2, noErr]) rfl ⟨_, _, rfl, ?_, ?_⟩
        · exact (HF.out.1.put3 (by omega) _ _ _).base (by omega)
        · exact put3_below HF.out.2 (Nat.le_refl _) _ _ _
end Go.Proofs.YtfgoflaeclfggaaGreatDoor
end
section
namespace Go.Proofs.YtfgoflaeclfggaaGreatDoor
open Go.RowKit Go.Extern.Stop Go.Stop Go.Extern WordM NatM

set_option maxRecDepth 100000 in
set_option maxHeartbeats 4000000 in
theorem index_ref_big (k : Int) (p : Option Addr) (n c : Nat) (l : List Int) (w : World) (hn : n = l.length) (h : IntV w.heap.size w p c l) (hc : chkW k l = none) (h256 : 256 < n) :
    Calls Tryz.prog 25 #[.int .i64 k, .slice p n c] w (RefErrW2 w (.slice none 0 0) 0 4) := by
  have hl4 : n ≤ 4096 := by obtain ⟨_, _, _, _, hl, _⟩ := chkW_none hc; omega
  have H := Lib.hid (And.intro h (And.intro hn hc))
  clear h hn hc
  go_enter Tryz.func25, Tryz.ntmps25
  go_wp2_with fail
  obtain ⟨w0, hw0⟩ : ∃ w0, w0 = w.alloc (.cells #[.int .i64 0, .slice none 0 0, .slice none 0 0] 56) := ⟨_, rfl⟩
  have hb0 : Below w.heap.size w w0 := by rw [hw0]; exact (Below.refl _ _).alloc (Nat.le_refl _) _
  have hs0 : w.heap.size < w0.heap.size := by rw [hw0]; simp
  have hE0 : Err3 w0 w.heap.size (.int .i64 0) (.slice none 0 0) (.slice none 0 0) := by rw [hw0]; exact Err3.new w
  rw [← hw0]
  have HE := Lib.hid (And.intro hE0 hb0)
  clear hw0 hE0 hb0
  have hck : Calls Tryz.prog 22 #[.int .i64 (k : Int), .slice p n c] w0 (Tells (.agg #[.int .i64 0, .slice none 0 0, .slice none 0 0]) w0) := check_ref_ok (k : Int) p n c l w0 H.out.2.1 (H.out.1.next HE.out.2) H.out.2.2
  refine hck.mono ?_
  clear hck
  rintro e w1 ⟨rfl, hb1⟩
  obtain ⟨wB, hwB⟩ : ∃ x, x = w1.alloc (.cells #[.int .i64 0, .slice none 0 0, .slice none 0 0] 56) := ⟨_, rfl⟩
  have hbB : Below w1.heap.size w1 wB := by rw [hwB]; exact (Below.refl _ _).alloc (Nat.le_refl _) _
  have hs1 := hb1.size
  have hsB : w1.heap.size < wB.heap.size := by rw [hwB]; simp
  have hEB : Err3 wB w1.heap.size (.int .i64 0) (.slice none 0 0) (.slice none 0 0) := by rw [hwB]; exact ⟨heap_newN w1 _⟩
  have hE1 := (HE.out.1.next hb1).next hbB
  have hbw : Below w.heap.size w wB := (HE.out.2.trans (hb1.mono (by omega))).trans (hbB.mono (by omega))
  obtain ⟨_, hk0, hk1, hk2⟩ := hEB.facts
  have H1 := Lib.hid (And.intro hE1 hbw)
  clear hb1 hbB hEB hE1 hbw
  go_upto_region 2 with fail
  rw [← hwB]
  clear hwB
  go_wp2_with fail
  refine (bad_no (.slice none 0 0) (.slice none 0 0) wB).mono ?_
  rintro e wq ⟨rfl, hb2⟩
  have hE2 := H1.out.1.next hb2
  have hbw2 : Below w.heap.size w wq := H1.out.2.trans (hb2.mono (by omega))
  have H2 := Lib.hid (And.intro hE2 hbw2)
  clear hb2 hE2 hbw2 hk0 hk1 hk2
  go_wp2_with fail
  refine (raw_fresh wordOp 0 4 _).mono ?_
  rintro e w2 ⟨g, g', rfl, ⟨hg1, hg2, hg3, hg4⟩, hcg, hcg', hb2⟩
  obtain ⟨⟨hf0, hf1, hf2⟩, hc0, hc1, hc2⟩ := (H2.out.1.next hb2).facts
  have hgs := H2.out.2.size
  have hgt : w.heap.size < wq.heap.size := heap_ltN H2.out.1.heap
  have HB2 := Lib.hid (And.intro hcg (And.intro hcg' (And.intro (H2.out.2.trans (hb2.mono (by omega))) (And.intro hgt (And.intro hg1 hg3)))))
  clear hb2 hcg hcg' hgs hgt
  go_wp2_with fail
  refine bodyPost_ret (v := .tuple #[.slice none 0 0, .agg #[.int .i64 4, .slice (some ⟨g, 0, none⟩) 1 1, .slice (some ⟨g', 0, none⟩) 1 1]]) (by simp [results, Tryz.results25, go_sem, hc0, hc1, hc2]) rfl ⟨_, rfl, g, g', rfl, ⟨by have := HB2.out.2.2.2; omega, by have := HB2.out.2.2.2; omega⟩, ?_, ?_⟩
  · exact WantV.one (by simp; omega) (by simp; omega) ((put3_cell w2 w.heap.size _ _ _ _ (by have := HB2.out.2.2.2; simp only []; omega)).trans HB2.out.1) ((put3_cell w2 w.heap.size _ _ _ _ (by have := HB2.out.2.2.2; simp only []; omega)).trans HB2.out.2.1)
  · exact put3_below HB2.out.2.2.1 (Nat.le_refl _) _ _ _

set_option maxRecDepth 100000 in
set_option maxHeartbeats 4000000 in
theorem at_ref_arg (k n : Int) (p : Option Addr) (m c : Nat) (w : World) (h : (k < 1 ∨ 4 < k) ∨ n < 0) :
    Calls Tryz.prog 28 #[.int .i64 k, .int .i64 n, .slice p m c] w (RefErrW2 w (.slice none 0 0) 0 3) := by
  rcases Int.lt_or_le k 1 with hk1 | hk1
  · clear h
    go_enter Tryz.func28, Tryz.ntmps28
    go_wp2_with fail
    obtain ⟨w0, hw0⟩ : ∃ w0, w0 = w.alloc (.cells #[.int .i64 0, .slice none 0 0, .slice none 0 0] 56) := ⟨_, rfl⟩
    have hb0 : Below w.heap.size w w0 := by rw [hw0]; exact (Below.refl _ _).alloc (Nat.le_refl _) _
    have hs0 : w.heap.size < w0.heap.size := by rw [hw0]; simp
    have hE0 : Err3 w0 w.heap.size (.int .i64 0) (.slice none 0 0) (.slice none 0 0) := by rw [hw0]; exact Err3.new w
    rw [← hw0]
    have HE := Lib.hid (And.intro hE0 hb0)
    clear hw0 hE0 hb0
    refine (raw_fresh wordOp 0 3 _).mono ?_
    rintro e w2 ⟨g, g', rfl, ⟨hg1, hg2, hg3, hg4⟩, hcg, hcg', hb2⟩
    obtain ⟨⟨hf0, hf1, hf2⟩, hc0, hc1, hc2⟩ := (HE.out.1.next hb2).facts
    have hgs := HE.out.2.size
    have hgt : w.heap.size < w0.heap.size := heap_ltN HE.out.1.heap
    have HB2 := Lib.hid (And.intro hcg (And.intro hcg' (And.intro (HE.out.2.trans (hb2.mono (by omega))) (And.intro hgt (And.intro hg1 hg3)))))
    clear hb2 hcg hcg' hgs hgt
    go_wp2_with fail
    refine bodyPost_ret (v := .tuple #[.slice none 0 0, .agg #[.int .i64 3, .slice (some ⟨g, 0, none⟩) 1 1, .slice (some ⟨g', 0, none⟩) 1 1]]) (by simp [results, Tryz.results28, go_sem, hc0, hc1, hc2]) rfl ⟨_, rfl, g, g', rfl, ⟨by have := HB2.out.2.2.2; omega, by have := HB2.out.2.2.2; omega⟩, ?_, ?_⟩
    · exact WantV.one (by simp; omega) (by simp; omega) ((put3_cell w2 w.heap.size _ _ _ _ (by have := HB2.out.2.2.2; simp only []; omega)).trans HB2.out.1) ((put3_cell w2 w.heap.size _ _ _ _ (by have := HB2.out.2.2.2; simp only []; omega)).trans HB2.out.2.1)
    · exact put3_below HB2.out.2.2.1 (Nat.le_refl _) _ _ _
  · have hk1' : ¬ k < 1 := by omega
    by_cases hk4 : 4 < k
    · clear h
      go_enter Tryz.func28, Tryz.ntmps28
      go_wp2_with fail
      obtain ⟨w0, hw0⟩ : ∃ w0, w0 = w.alloc (.cells #[.int .i64 0, .slice none 0 0, .slice none 0 0] 56) := ⟨_, rfl⟩
      have hb0 : Below w.heap.size w w0 := by rw [hw0]; exact (Below.refl _ _).alloc (Nat.le_refl _) _
      have hs0 : w.heap.size < w0.heap.size := by rw [hw0]; simp
      have hE0 : Err3 w0 w.heap.size (.int .i64 0) (.slice none 0 0) (.slice none 0 0) := by rw [hw0]; exact Err3.new w
      rw [← hw0]
      have HE := Lib.hid (And.intro hE0 hb0)
      clear hw0 hE0 hb0
      refine (raw_fresh wordOp 0 3 _).mono ?_
      rintro e w2 ⟨g, g', rfl, ⟨hg1, hg2, hg3, hg4⟩, hcg, hcg', hb2⟩
      obtain ⟨⟨hf0, hf1, hf2⟩, hc0, hc1, hc2⟩ := (HE.out.1.next hb2).facts
      have hgs := HE.out.2.size
      have hgt : w.heap.size < w0.heap.size := heap_ltN HE.out.1.heap
      have HB2 := Lib.hid (And.intro hcg (And.intro hcg' (And.intro (HE.out.2.trans (hb2.mono (by omega))) (And.intro hgt (And.intro hg1 hg3)))))
      clear hb2 hcg hcg' hgs hgt
      go_wp2_with fail
      refine bodyPost_ret (v := .tuple #[.slice none 0 0, .agg #[.int .i64 3, .slice (some ⟨g, 0, none⟩) 1 1, .slice (some ⟨g', 0, none⟩) 1 1]]) (by simp [results, Tryz.results28, go_sem, hc0, hc1, hc2]) rfl ⟨_, rfl, g, g', rfl, ⟨by have := HB2.out.2.2.2; omega, by have := HB2.out.2.2.2; omega⟩, ?_, ?_⟩
      · exact WantV.one (by simp; omega) (by simp; omega) ((put3_cell w2 w.heap.size _ _ _ _ (by have := HB2.out.2.2.2; simp only []; omega)).trans HB2.out.1) ((put3_cell w2 w.heap.size _ _ _ _ (by have := HB2.out.2.2.2; simp only []; omega)).trans HB2.out.2.1)
      · exact put3_below HB2.out.2.2.1 (Nat.le_refl _) _ _ _
    · have hn0 : n < 0 := by omega
      clear h
      go_enter Tryz.func28, Tryz.ntmps28
      go_wp2_with fail
      obtain ⟨w0, hw0⟩ : ∃ w0, w0 = w.alloc (.cells #[.int .i64 0, .slice none 0 0, .slice none 0 0] 56) := ⟨_, rfl⟩
      have hb0 : Below w.heap.size w w0 := by rw [hw0]; exact (Below.refl _ _).alloc (Nat.le_refl _) _
      have hs0 : w.heap.size < w0.heap.size := by rw [hw0]; simp
      have hE0 : Err3 w0 w.heap.size (.int .i64 0) (.slice none 0 0) (.slice none 0 0) := by rw [hw0]; exact Err3.new w
      rw [← hw0]
      have HE := Lib.hid (And.intro hE0 hb0)
      clear hw0 hE0 hb0
      refine (raw_fresh wordOp 0 3 _).mono ?_
      rintro e w2 ⟨g, g', rfl, ⟨hg1, hg2, hg3, hg4⟩, hcg, hcg', hb2⟩
      obtain ⟨⟨hf0, hf1, hf2⟩, hc0, hc1, hc2⟩ := (HE.out.1.next hb2).facts
      have hgs := HE.out.2.size
      have hgt : w.heap.size < w0.heap.size := heap_ltN HE.out.1.heap
      have HB2 := Lib.hid (And.intro hcg (And.intro hcg' (And.intro (HE.out.2.trans (hb2.mono (by omega))) (And.intro hgt (And.intro hg1 hg3)))))
      clear hb2 hcg hcg' hgs hgt
      go_wp2_with fail
      refine bodyPost_ret (v := .tuple #[.slice none 0 0, .agg #[.int .i64 3, .slice (some ⟨g, 0, none⟩) 1 1, .slice (some ⟨g', 0, none⟩) 1 1]]) (by simp [results, Tryz.results28, go_sem, hc0, hc1, hc2]) rfl ⟨_, rfl, g, g', rfl, ⟨by have := HB2.out.2.2.2; omega, by have := HB2.out.2.2.2; omega⟩, ?_, ?_⟩
      · exact WantV.one (by simp; omega) (by simp; omega) ((put3_cell w2 w.heap.size _ _ _ _ (by have := HB2.out.2.2.2; simp only []; omega)).trans HB2.out.1) ((put3_cell w2 w.heap.size _ _ _ _ (by have := HB2.out.2.2.2; simp only []; omega)).trans HB2.out.2.1)
      · exact put3_below HB2.out.2.2.1 (Nat.le_refl _) _ _ _

set_option maxRecDepth 100000 in
set_option maxHeartbeats 4000000 in
theorem at_ref_long (k n : Int) (p : Option Addr) (m c : Nat) (w : World) (hk1 : 1 ≤ k) (hk4 : k ≤ 4) (hn : 256 < n) :
    Calls Tryz.prog 28 #[.int .i64 k, .int .i64 n, .slice p m c] w (RefErrW2 w (.slice none 0 0) 0 4) := by
  have hk1' : ¬ k < 1 := by omega
  have hk4' : ¬ 4 < k := by omega
  have hn0 : ¬ n < 0 := by omega
  go_enter Tryz.func28, Tryz.ntmps28
  go_wp2_with fail
  obtain ⟨w0, hw0⟩ : ∃ w0, w0 = w.alloc (.cells #[.int .i64 0, .slice none 0 0, .slice none 0 0] 56) := ⟨_, rfl⟩
  have hb0 : Below w.heap.size w w0 := by rw [hw0]; exact (Below.refl _ _).alloc (Nat.le_refl _) _
  have hs0 : w.heap.size < w0.heap.size := by rw [hw0]; simp
  have hE0 : Err3 w0 w.heap.size (.int .i64 0) (.slice none 0 0) (.slice none 0 0) := by rw [hw0]; exact Err3.new w
  rw [← hw0]
  have HE := Lib.hid (And.intro hE0 hb0)
  clear hw0 hE0 hb0
  refine (raw_fresh wordOp 0 4 _).mono ?_
  rintro e w2 ⟨g, g', rfl, ⟨hg1, hg2, hg3, hg4⟩, hcg, hcg', hb2⟩
  obtain ⟨⟨hf0, hf1, hf2⟩, hc0, hc1, hc2⟩ := (HE.out.1.next hb2).facts
  have hgs := HE.out.2.size
  have hgt : w.heap.size < w0.heap.size := heap_ltN HE.out.1.heap
  have HB2 := Lib.hid (And.intro hcg (And.intro hcg' (And.intro (HE.out.2.trans (hb2.mono (by omega))) (And.intro hgt (And.intro hg1 hg3)))))
  clear hb2 hcg hcg' hgs hgt
  go_wp2_with fail
  refine bodyPost_ret (v := .tuple #[.slice none 0 0, .agg #[.int .i64 4, .slice (some ⟨g, 0, none⟩) 1 1, .slice (some ⟨g', 0, none⟩) 1 1]]) (by simp [results, Tryz.results28, go_sem, hc0, hc1, hc2]) rfl ⟨_, rfl, g, g', rfl, ⟨by have := HB2.out.2.2.2; omega, by have := HB2.out.2.2.2; omega⟩, ?_, ?_⟩
  · exact WantV.one (by simp; omega) (by simp; omega) ((put3_cell w2 w.heap.size _ _ _ _ (by have := HB2.out.2.2.2; simp only []; omega)).trans HB2.out.1) ((put3_cell w2 w.heap.size _ _ _ _ (by have := HB2.out.2.2.2; simp only []; omega)).trans HB2.out.2.1)
  · exact put3_below HB2.out.2.2.1 (Nat.le_refl _) _ _ _
end Go.Proofs.YtfgoflaeclfggaaGreatDoor
end
section
namespace Go.Proofs.YtfgoflaeclfggaaGreatDoor
open Go.RowKit NatM

/-- the difference of two lists of digits, up to place k, in a list of its own -/
structure BInv (a b : List Nat) (k c : Nat) (t : List Nat) : Prop where
  ok : okB 65536 t
  len : t.length = a.length
  car : c ≤ 1
  val : V16 (t.take k) + V16 (b.take k) = V16 (a.take k) + 65536 ^ k * c
theorem BInv.start (a b : List Nat) : BInv a b 0 0 (List.replicate a.length 0) := ⟨okB_replicate (by omega) _, by simp, by omega, by simp [V16, valB]⟩
theorem BInv.step {a b : List Nat} {k c x D : Nat} {t : List Nat} (hb : okB 65536 b) (h : BInv a b k c t) (hx : a[k]? = some x) (hxl : x < 65536) (hD : D + c + limbAt b k = x + 65536) : BInv a b (k + 1) (1 - D / 65536) (t.set k (D % 65536)) := by
  have hk := get_lt hx
  obtain ⟨z, hz⟩ := some_get (l := t) (k := k) (by rw [h.len]; exact hk)
  have hy := limb_lt (B := 65536) (by omega) hb k
  have hc := h.car
  refine ⟨okB_set h.ok (by omega) _, by rw [List.length_set]; exact h.len, by omega, ?_⟩
  show valB 65536 _ + valB 65536 _ = valB 65536 _ + _
  rw [set_takeq hz, valB_snoc, List.length_take, Nat.min_eq_left (by have := h.len; omega), valB_take_limb, valB_takeq 65536 hx, Nat.pow_succ]
  exact sub_step h.val (by omega)
theorem BInv.done {a b : List Nat} {c : Nat} {t : List Nat} (hbl : b.length ≤ a.length) (hle : V16 b ≤ V16 a) (h : BInv a b a.length c t) : V16 t = V16 a - V16 b := by
  have hv := h.val
  have hl := h.len
  have hc := h.car
  rw [List.take_of_length_le (by omega), List.take_of_length_le hbl, List.take_of_length_le (Nat.le_refl _)] at hv
  have h1 := valB_lt (B := 65536) (by omega) h.ok
  rw [hl] at h1
  change V16 t < _ at h1
  rcases (show c = 0 ∨ c = 1 by omega) with rfl | rfl
  · omega
  · omega

theorem make32u (n : Nat) (hn : n ≤ 1099511627776) (w : World) :
    (Instr.makeSlice 25 (.int .i64 (n : Int)) (.int .i64 (n : Int))).run Tryz.prog w = .ok (.slice (some ⟨w.heap.size, 0, none⟩) n n) (w.alloc (.cells (madeCells #[.int .u32 0] n) 51)) := by
  obtain ⟨i0, hi, hz0, hz1, hz2⟩ := info_parts info32
  have h := run_make (P := Tryz.prog) w 25 51 i0 (.int .u32 0) Tryz.underlying25 hi hz0 .i64 .i64 n n (by omega) (by omega) (by rw [hz2]; omega) (by omega)
  rw [hz1] at h
  simpa [Value.cells] using h
def SubRefRel (B : Nat) (w3 : World) (a b : List Nat) (p : Option Addr) (cap : Nat) (v9 v10 : Value) (wr : World) : Prop :=
  ∃ (i c : Nat) (t : List Nat), i ≤ a.length ∧ v9 = .int .u32 (c : Int) ∧ v10 = .int .i64 (i : Int) ∧ BInv a b i c t ∧ NatO B wr p cap t ∧ Below B w3 wr

end Go.Proofs.YtfgoflaeclfggaaGreatDoor
end
section
namespace Go.Proofs.YtfgoflaeclfggaaGreatDoor
open Go.RowKit NatM

/-- a list of n digits with a carry at place k; together T -/
structure PInv (n k c T : Nat) (t : List Nat) : Prop where
  ok : okB 65536 t
  len : t.length = n
  car : c < 65536
  val : V16 t + 65536 ^ k * c = T
theorem PInv.start (n k : Nat) : PInv n k 0 0 (List.replicate n 0) := ⟨okB_replicate (by omega) _, by simp, by omega, by simp [V16, valB_replicate]⟩
theorem PInv.at {n k k' T : Nat} {t : List Nat} (h : PInv n k 0 T t) : PInv n k' 0 T t := ⟨h.ok, h.len, h.car, by have := h.val; simpa using this⟩
theorem mul_arith {x y c z : Nat} (hx : x < 65536) (hy : y < 65536) (hc : c < 65536) (hz : z < 65536) :
    x * y + c ≤ 4294901760 ∧ (x * y + c) / 65536 + (z + (x * y + c) % 65536) / 65536 < 65536 ∧ (z + (x * y + c) % 65536) % 65536 + 65536 * ((x * y + c) / 65536 + (z + (x * y + c) % 65536) / 65536) = z + x * y + c := by
  have h1 : x * y ≤ 65535 * 65535 := Nat.mul_le_mul (by omega) (by omega)
  obtain ⟨m, hm⟩ : ∃ m, x * y = m := ⟨_, rfl⟩
  rw [hm] at h1 ⊢
  omega
theorem put_step {T0 T1 P z r c c' d : Nat} (h1 : T1 + P * z = T0 + P * r) (h2 : r + 65536 * c' = z + d + c) : T1 + P * 65536 * c' = T0 + P * c + P * d := by
  have e : P * (r + 65536 * c') = P * (z + d + c) := by rw [h2]
  rw [Nat.mul_add, Nat.mul_add, Nat.mul_add, ← Nat.mul_assoc] at e
  omega
theorem PInv.put {n k c T z r c' d : Nat} {t : List Nat} (h : PInv n k c T t) (hz : t[k]? = some z) (hr : r < 65536) (hc : c' < 65536) (he : r + 65536 * c' = z + d + c) : PInv n (k + 1) c' (T + 65536 ^ k * d) (t.set k r) := by
  refine ⟨okB_set h.ok hr _, by rw [List.length_set]; exact h.len, hc, ?_⟩
  have hs := valB_setq 65536 r hz
  rw [Nat.pow_succ, ← h.val]
  exact put_step hs he
theorem PInv.mul {n i j c S x y z : Nat} {b t : List Nat} (h : PInv n (i + j) c (S + 65536 ^ i * (x * V16 (b.take j))) t) (hx : x < 65536) (hb : okB 65536 b) (hy : b[j]? = some y) (hz : t[i + j]? = some z) :
    PInv n (i + (j + 1)) ((x * y + c) / 65536 + (z + (x * y + c) % 65536) / 65536) (S + 65536 ^ i * (x * V16 (b.take (j + 1)))) (t.set (i + j) ((z + (x * y + c) % 65536) % 65536)) := by
  obtain ⟨_, h2, h3⟩ := mul_arith hx (ok_get hb hy) h.car (ok_get h.ok hz)
  have := h.put hz (r := (z + (x * y + c) % 65536) % 65536) (by omega) h2 h3
  have e : S + 65536 ^ i * (x * V16 (b.take j)) + 65536 ^ (i + j) * (x * y) = S + 65536 ^ i * (x * V16 (b.take (j + 1))) := by
    show _ = S + 65536 ^ i * (x * valB 65536 (b.take (j + 1)))
    rw [valB_takeq 65536 hy, Nat.pow_add, Nat.mul_add, Nat.mul_add, Nat.add_assoc]
    congr 2
    rw [Nat.mul_assoc, Nat.mul_left_comm x]
  rw [e] at this
  exact this
theorem PInv.carry {n k c T z : Nat} {t : List Nat} (h : PInv n k c T t) (hz : t[k]? = some z) : PInv n (k + 1) ((z + c) / 65536) T (t.set k ((z + c) % 65536)) := by
  have hc := h.car
  have hzl := ok_get h.ok hz
  have := h.put hz (r := (z + c) % 65536) (c' := (z + c) / 65536) (d := 0) (by omega) (by omega) (by omega)
  simpa using this
theorem PInv.room {n k c T L : Nat} {t : List Nat} (h : PInv n k c T t) (hT : T < 65536 ^ L) (hc : 0 < c) : k < L := by
  rcases Nat.lt_or_ge k L with h1 | h1
  · exact h1
  · exfalso
    have h2 : 65536 ^ L ≤ 65536 ^ k := Nat.pow_le_pow_right (by omega) h1
    have h3 : 65536 ^ k * 1 ≤ 65536 ^ k * c := Nat.mul_le_mul_left _ hc
    have := h.val
    omega
theorem mul_take {a b : List Nat} {i x : Nat} (hx : a[i]? = some x) : V16 (a.take i) * V16 b + 65536 ^ i * (x * V16 b) = V16 (a.take (i + 1)) * V16 b := by
  show _ = valB 65536 (a.take (i + 1)) * V16 b
  rw [valB_takeq 65536 hx, Nat.add_mul, Nat.mul_assoc]; rfl
theorem mul_bound {a b : List Nat} (ha : okB 65536 a) (hb : okB 65536 b) (i : Nat) (hi : i < a.length) : V16 (a.take (i + 1)) * V16 b < 65536 ^ (i + 1 + b.length) := by
  have h1 := valB_lt (B := 65536) (by omega) (okB_take ha (i + 1))
  have h2 := valB_lt (B := 65536) (by omega) hb
  rw [List.length_take, Nat.min_eq_left (by omega)] at h1
  rw [Nat.pow_add]
  exact Nat.mul_lt_mul'' h1 h2

def MulRefRel (B : Nat) (w3 : World) (a b : List Nat) (n : Nat) (p : Option Addr) (v8 : Value) (wr : World) : Prop :=
  ∃ (i : Nat) (t : List Nat), i ≤ a.length ∧ v8 = .int .i64 (i : Int) ∧ PInv n 0 0 (V16 (a.take i) * V16 b) t ∧ NatO B wr p n t ∧ Below B w3 wr
def MulRefRel2 (B : Nat) (w3 : World) (b : List Nat) (n i x S : Nat) (p : Option Addr) (v9 v10 : Value) (wr : World) : Prop :=
  ∃ (j c : Nat) (t : List Nat), j ≤ b.length ∧ v9 = .int .u32 (c : Int) ∧ v10 = .int .i64 (j : Int) ∧ PInv n (i + j) c (S + 65536 ^ i * (x * V16 (b.take j))) t ∧ NatO B wr p n t ∧ Below B w3 wr
def MulRefRel3 (B : Nat) (w3 : World) (n T L : Nat) (p : Option Addr) (v9 v13 : Value) (wr : World) : Prop :=
  ∃ (k c : Nat) (t : List Nat), k ≤ L ∧ v9 = .int .u32 (c : Int) ∧ v13 = .int .i64 (k : Int) ∧ PInv n k c T t ∧ NatO B wr p n t ∧ Below B w3 wr

set_option maxRecDepth 100000 in
set_option maxHeartbeats 4000000 in
theorem mul_ref (p q : Option Addr) (c d : Nat) (l m : List Nat) (w : World) (h : NatV w.heap.size w p c l) (k : NatV w.heap.size w q d m) (hl : l.length ≤ 1000000) (hm : m.length ≤ 1000000) :
    Calls Tryz.prog 74 #[.slice p l.length c, .slice q m.length d] w (NatPost w (V32 l * V32 m)) := by
  have H := Lib.hid (And.intro h k)
  have HT := Lib.hid (half_any p c l w h (by omega))
  have HM := Lib.hid hm
  have hal := half_len h.ok
  have hbl := half_len k.ok
  obtain ⟨A, hA⟩ : ∃ A, V32 l = A := ⟨_, rfl⟩
  obtain ⟨B, hB⟩ : ∃ B, V32 m = B := ⟨_, rfl⟩
  have HBB := Lib.hid hB
  rw [hA] at HT hal ⊢
  rw [hB] at hbl ⊢
  have hal2 : (D16 A).length ≤ 2000000 := by omega
  have hbl2 : (D16 B).length ≤ 2000000 := by omega
  clear h k hm hal hbl hl
  go_enter Tryz.func74, Tryz.ntmps74
  go_wp2_with fail
  refine HT.out.mono ?_
  rintro e w1 ⟨p1, c1, rfl, ho1, hb1⟩
  have HT2 := half_any q d m w1 (H.out.2.next hb1) (by have := HM.out; omega)
  rw [HBB.out] at HT2
  have HO := Lib.hid (And.intro ho1 hb1)
  clear ho1 hb1 hA hB
  go_wp2_with fail
  refine HT2.mono ?_
  rintro e w3 ⟨p2, c2, rfl, ho2, hb2⟩
  have hva : V16 (D16 A) = A := V16_D16 _
  have hvb : V16 (D16 B) = B := V16_D16 _
  have HV := Lib.hid (And.intro (HO.out.1.next hb2).toV (And.intro ho2.toV (And.intro (D16_ok A) (And.intro (D16_ok B) (And.intro hva (And.intro hvb (HO.out.2.trans (hb2.mono HO.out.2.size))))))))
  clear HT2 ho2 hb2 hva hvb
  obtain ⟨a, ha⟩ : ∃ a, D16 A = a := ⟨_, rfl⟩
  obtain ⟨b, hb⟩ : ∃ b, D16 B = b := ⟨_, rfl⟩
  rw [ha] at HV hal2 ⊢
  rw [hb] at HV hbl2 ⊢
  clear ha hb
  obtain ⟨n, hn⟩ : ∃ n, n = a.length + b.length + 1 := ⟨_, rfl⟩
  have hmk := make32u n (by omega) w3
  have hn2 : (a.length : Int) + (b.length : Int) + 1 = (n : Int) := by omega
  have HN := Lib.hid hn
  have hnb : n ≤ 4194305 := by omega
  clear hn
  go_wp2_with fail
  have hm0 := NatO.made w3 n (by omega)
  have hB3m : Below w3.heap.size w3 (w3.alloc (.cells (madeCells #[.int .u32 0] n) 51)) := (Below.refl w3.heap.size w3).alloc (Nat.le_refl _) _
  obtain ⟨w4, hw4⟩ : ∃ w4, w4 = w3.alloc (.cells (madeCells #[.int .u32 0] n) 51) := ⟨_, rfl⟩
  rw [← hw4] at hm0 hB3m ⊢
  have HM4 := Lib.hid (And.intro hm0 hB3m)
  have HN2 := Lib.hid hn2
  clear hm0 hB3m hw4 hmk hn2
  go_loopw [8] (fun v8 wr => MulRefRel w3.heap.size w3 a b n (some ⟨w3.heap.size, 0, none⟩) v8 wr) (fun v _ => a.length - (intOf v).toNat)
  case atStart => exact ⟨0, List.replicate n 0, Nat.zero_le _, rfl, by have := PInv.start n 0; simpa [V16, valB] using this, HM4.out.1, HM4.out.2⟩
  case round =>
    obtain ⟨i, t0, hi, rfl, hP0, ho0, hbx0⟩ := hrel
    have hwB : w3.heap.size ≤ wr.heap.size := hbx0.size
    have HP := Lib.hid (And.intro hP0 (And.intro ho0 hbx0))
    obtain ⟨wo, rfl⟩ : ∃ wo : World, wo = wr := ⟨_, rfl⟩
    by_cases hlt : i < a.length
    · obtain ⟨x, hx⟩ := some_get hlt
      have hxl : x < 65536 := ok_get HV.out.2.2.1 hx
      have hmt := mul_take (b := b) hx
      have hbd := mul_bound HV.out.2.2.1 HV.out.2.2.2.1 i hlt
      obtain ⟨S, hS⟩ : ∃ S, V16 (a.take i) * V16 b = S := ⟨_, rfl⟩
      rw [hS] at HP hmt
      have HX := Lib.hid (And.intro hx (And.intro hmt hbd))
      clear hx hmt hbd hP0 ho0 hbx0 hS
      go_wp2_with fail
      go_loopw [9, 10] (fun v9 v10 wr => MulRefRel2 w3.heap.size w3 b n i x S (some ⟨w3.heap.size, 0, none⟩) v9 v10 wr) (fun _ v _ => b.length - (intOf v).toNat)
      case atStart => exact ⟨0, 0, t0, Nat.zero_le _, rfl, rfl, by have := HP.out.1.at (k' := i + 0); simpa [V16, valB] using this, HP.out.2.1, HP.out.2.2⟩
      case round =>
        obtain ⟨j, c, t, hj, rfl, rfl, hP, ho, hbx⟩ := hrel
        have hcl : c < 65536 := hP.car
        have hn0 : n = a.length + b.length + 1 := HN.out
        have htl : t.length = n := hP.len
        by_cases hjl : j < b.length
        · obtain ⟨y, hy⟩ := some_get hjl
          obtain ⟨ba, off, rfl, hba, hca⟩ := (HV.out.1.below hbx).cell (List.length_pos_iff.1 (by omega))
          have hcx := hca i x HX.out.1
          obtain ⟨bb, off', rfl, hbb, hcb⟩ := (HV.out.2.1.below hbx).cell (List.length_pos_iff.1 (by omega))
          have hcy := hcb j y hy
          have hyl : y < 65536 := ok_get HV.out.2.2.2.1 hy
          obtain ⟨g, hg, hgb, hgl, hcells, hfrz⟩ := ho.shape (by omega)
          obtain rfl : w3.heap.size = g := by simpa using hg
          obtain ⟨z, hz⟩ := some_get (l := t) (k := i + j) (by omega)
          have hcz := hcells (i + j) z hz
          have hfz := hfrz (i + j)
          have hzl : z < 65536 := ok_get hP.ok hz
          have hst := PInv.mul hP hxl HV.out.2.2.2.1 hy hz
          obtain ⟨hm1, hm2, hm3⟩ := mul_arith hxl hyl hcl hzl
          obtain ⟨m, hm⟩ : ∃ m, x * y = m := ⟨_, rfl⟩
          have hmi : (x : Int) * (y : Int) = (m : Int) := by rw [← hm, Int.natCast_mul]
          rw [hm] at hst hm1 hm2
          have hijn : i + j < n := by omega
          have hos := fun nq => NatO.store (ho.next (below_drewN (Below.refl _ _) nq)) (i + j) ((z + (m + c) % 65536) % 65536) (by omega)
          have HS := Lib.hid (And.intro hst (And.intro hos (And.intro hbx htl)))
          clear hst hos hbx hn0 hcb hca hcells hfrz hy hz hP ho hg htl hm hm3
          go_wp2_with fail
          go_quiet (fail)
          go_wp2_with fail
          go_roundw
          case rel =>
            refine ⟨j + 1, (m + c) / 65536 + (z + (m + c) % 65536) / 65536, t.set (i + j) ((z + (m + c) % 65536) % 65536), by omega, ?_, by go_num, HS.out.1, ?_, ?_⟩
            · go_num
            · rw [show ((z : Int) + ((m : Int) + (c : Int))) % 65536 = (((z + (m + c) % 65536) % 65536 : Nat) : Int) by omega]
              exact HS.out.2.1 _
            · exact (below_drewN HS.out.2.2.1 _).setCell (Nat.le_refl _) _
          case measure => simp [intOf]; omega
        · obtain rfl : j = b.length := by omega
          obtain ⟨T, hT⟩ : ∃ T, S + 65536 ^ i * (x * V16 b) = T := ⟨_, rfl⟩
          rw [List.take_of_length_le (Nat.le_refl _), hT] at hP
          have hTT : T = V16 (a.take (i + 1)) * V16 b := by rw [← hT]; exact HX.out.2.1
          have hTb : T < 65536 ^ (i + 1 + b.length) := by rw [hTT]; exact HX.out.2.2
          have HQ := Lib.hid (And.intro hP (And.intro ho (And.intro hbx (And.intro hTT hTb))))
          have HN0 := Lib.hid hn0
          clear hP ho hbx htl hT hTT hTb hn0
          go_wp2_with fail
          go_loopw [9, 13] (fun v9 v13 wr => MulRefRel3 w3.heap.size w3 n T (i + 1 + b.length) (some ⟨w3.heap.size, 0, none⟩) v9 v13 wr) (fun _ v _ => i + 1 + b.length - (intOf v).toNat)
          case atStart => exact ⟨i + b.length, c, t, by omega, rfl, by go_num, HQ.out.1, HQ.out.2.1, HQ.out.2.2.1⟩
          case round =>
            obtain ⟨k, c', t', hk, rfl, rfl, hP, ho, hbx⟩ := hrel
            have hcl' : c' < 65536 := hP.car
            have hn0 : n = a.length + b.length + 1 := HN0.out
            have htl : t'.length = n := hP.len
            by_cases hc0 : 0 < c'
            · have hkL := hP.room HQ.out.2.2.2.2 hc0
              obtain ⟨g, hg, hgb, hgl, hcells, hfrz⟩ := ho.shape (by omega)
              obtain rfl : w3.heap.size = g := by simpa using hg
              obtain ⟨z, hz⟩ := some_get (l := t') (k := k) (by omega)
              have hcz := hcells k z hz
              have hfz := hfrz k
              have hzl : z < 65536 := ok_get hP.ok hz
              have hst := hP.carry hz
              have hkn : k < n := by omega
              have hos := NatO.store ho k ((z + c') % 65536) (by omega)
              have HS := Lib.hid (And.intro hst (And.intro hos hbx))
              clear hst hos hbx hn0 hcells hfrz hz hP ho hg htl
              go_wp2_with fail
              go_roundw
              case rel =>
                refine ⟨k + 1, (z + c') / 65536, t'.set k ((z + c') % 65536), by omega, ?_, by go_num, HS.out.1, ?_, HS.out.2.2.setCell (Nat.le_refl _) _⟩
                · go_num
                · exact HS.out.2.1
              case measure => simp [intOf]; omega
            · obtain rfl : c' = 0 := by omega
              have HR := Lib.hid (And.intro (hP.at (k' := 0)) (And.intro ho hbx))
              clear hP ho hbx htl hn0
              go_wp2_with fail
              go_roundw
              case rel =>
                refine ⟨i + 1, t', by omega, by go_num, ?_, HR.out.2.1, HR.out.2.2⟩
                rw [← HQ.out.2.2.2.1]; exact HR.out.1
              case measure => simp [intOf]; omega
    · obtain rfl : i = a.length := by omega
      have htl := hP0.len
      have hd : V16 t0 = A * B := by
        have h1 := HP.out.1.val
        rw [List.take_of_length_le (Nat.le_refl _), HV.out.2.2.2.2.1, HV.out.2.2.2.2.2.1] at h1
        simpa using h1
      have hn0 : n = a.length + b.length + 1 := HN.out
      have hw := whole_any (some ⟨w3.heap.size, 0, none⟩) n t0 wo ho0.toV hP0.ok (by omega)
      clear hn0
      rw [hd, htl] at hw
      have hw3 := HV.out.2.2.2.2.2.2.size
      have HE := Lib.hid (HV.out.2.2.2.2.2.2.trans (hbx0.mono hw3))
      clear hP0 ho0 hbx0 htl hd hlt
      go_wp2_with fail
      refine hw.mono ?_
      rintro e w5 ⟨p5, c5, rfl, ho5, hb5⟩
      have hs5 := hb5.size
      have HW := Lib.hid (And.intro ho5 (HE.out.trans (hb5.mono (by omega))))
      clear hw ho5 hb5
      go_wp2_with fail
      go_ret
      exact ⟨p5, c5, rfl, HW.out.1.base (by omega), HW.out.2⟩
end Go.Proofs.YtfgoflaeclfggaaGreatDoor
end
section
namespace Go.Proofs.YtfgoflaeclfggaaGreatDoor
open Go.RowKit NatM

/-- the quotient's digits from place j on, and the rest -/
structure QInv (a : List Nat) (d j r : Nat) (t : List Nat) : Prop where
  ok : okB 65536 t
  len : t.length = a.length
  car : r < d
  val : V16 (t.drop j) * d + r = V16 (a.drop j)
theorem QInv.start {a : List Nat} {d : Nat} (hd : 0 < d) : QInv a d a.length 0 (List.replicate a.length 0) := ⟨okB_replicate (by omega) _, by simp, hd, by rw [List.drop_length, List.drop_of_length_le (by simp)]; simp [V16, valB]⟩
theorem quo_lt {d r y : Nat} (hr : r < d) (hy : y < 65536) : (r * 65536 + y) / d < 65536 := by
  rw [Nat.div_lt_iff_lt_mul (by omega)]
  have : (r + 1) * 65536 ≤ d * 65536 := Nat.mul_le_mul_right _ hr
  omega
theorem quo_arith {q d r' r y Vd Vx : Nat} (h1 : d * q + r' = r * 65536 + y) (h2 : Vd * d + r = Vx) : (q + 65536 * Vd) * d + r' = y + 65536 * Vx := by
  rw [← h2, Nat.add_mul, Nat.mul_add, Nat.mul_assoc, Nat.mul_comm q d]
  omega
theorem QInv.step {a : List Nat} {d j r y : Nat} {t : List Nat} (h : QInv a d (j + 1) r t) (hy : a[j]? = some y) (hyl : y < 65536) : QInv a d j ((r * 65536 + y) % d) (t.set j ((r * 65536 + y) / d)) := by
  have hj := get_lt hy
  have hc := h.car
  obtain ⟨z, hz⟩ := some_get (l := t) (k := j) (by rw [h.len]; exact hj)
  refine ⟨okB_set h.ok (quo_lt hc hyl) _, by rw [List.length_set]; exact h.len, Nat.mod_lt _ (by omega), ?_⟩
  have hs : (t.set j ((r * 65536 + y) / d))[j]? = some ((r * 65536 + y) / d) := by rw [List.getElem?_set_self (get_lt hz)]
  show valB 65536 _ * d + _ = valB 65536 _
  rw [valB_dropq 65536 hs, valB_dropq 65536 hy, drop_set_succ]
  exact quo_arith (Nat.div_add_mod _ _) h.val
theorem QInv.done {a : List Nat} {d r : Nat} {t : List Nat} (h : QInv a d 0 r t) : V16 t = V16 a / d ∧ r = V16 a % d := by
  have hv := h.val
  have hc := h.car
  rw [List.drop_zero, List.drop_zero] at hv
  rw [← hv, Nat.mul_comm]
  constructor
  · rw [Nat.mul_add_div (by omega), Nat.div_eq_of_lt hc, Nat.add_zero]
  · rw [Nat.mul_add_mod, Nat.mod_eq_of_lt hc]

def OverRefErr (w : World) (e : Ending) (w' : World) : Prop := ∃ v, e = .returned (.tuple #[.slice none 0 0, .int .u32 0, v]) ∧ RefErr w 0 3 v w'
def OverRefOk (w : World) (n d : Nat) (e : Ending) (w' : World) : Prop :=
  ∃ p c, e = .returned (.tuple #[.slice p (D32 (n / d)).length c, .int .u32 ((n % d : Nat) : Int), noErr]) ∧ NatO w.heap.size w' p c (D32 (n / d)) ∧ Below w.heap.size w w'

set_option maxRecDepth 100000 in
set_option maxHeartbeats 2000000 in
theorem over_ref_zero (p : Option Addr) (n c : Nat) (w : World) :
    Calls Tryz.prog 82 #[.slice p n c, .int .u32 0] w (OverRefErr w) := by
  go_enter Tryz.func82, Tryz.ntmps82
  go_wp2_with fail
  obtain ⟨w0, hw0⟩ : ∃ w0, w0 = w.alloc (.cells #[.int .i64 0, .slice none 0 0, .slice none 0 0] 56) := ⟨_, rfl⟩
  rw [← hw0]
  have hb0 : Below w.heap.size w w0 := by rw [hw0]; exact (Below.refl _ _).alloc (Nat.le_refl _) _
  have hs0 : w.heap.size < w0.heap.size := by rw [hw0]; simp
  have hE0 : Err3 w0 w.heap.size (.int .i64 0) (.slice none 0 0) (.slice none 0 0) := by rw [hw0]; exact Err3.new w
  clear hw0
  refine (raw_fresh natOp 0 3 w0).mono ?_
  rintro e w2 ⟨g, g', rfl, ⟨hg1, hg2, hg3, hg4⟩, hcg, hcg', hb2⟩
  obtain ⟨⟨hf0, hf1, hf2⟩, hc0, hc1, hc2⟩ := (hE0.next hb2).facts
  have HB2 := Lib.hid (And.intro hcg (And.intro hcg' (hb0.trans (hb2.mono (by omega)))))
  clear hb2 hcg hcg' hb0 hE0
  go_wp2_with fail
  refine bodyPost_ret (v := .tuple #[.slice none 0 0, .int .u32 0, .agg #[.int .i64 3, .slice (some ⟨g, 0, none⟩) 1 1, .slice (some ⟨g', 0, none⟩) 1 1]]) (by simp [results, Tryz.results82, go_sem, hc0, hc1, hc2]) rfl ⟨_, rfl, _, _, rfl, ?_, ?_⟩
  · exact WantV.one (by simp; omega) (by simp; omega) ((put3_cell w2 w.heap.size _ _ _ _ (by simp; omega)).trans HB2.out.1) ((put3_cell w2 w.heap.size _ _ _ _ (by simp; omega)).trans HB2.out.2.1)
  · exact put3_below HB2.out.2.2 (Nat.le_refl _) _ _ _

def OverRefRel (B : Nat) (w3 : World) (a : List Nat) (d : Nat) (p : Option Addr) (cap : Nat) (v9 v10 : Value) (wr : World) : Prop :=
  ∃ (j r : Nat) (t : List Nat), j ≤ a.length ∧ v9 = .int .u64 (r : Int) ∧ v10 = .int .i64 ((j : Int) - 1) ∧ QInv a d j r t ∧ NatO B wr p cap t ∧ Below B w3 wr
set_option maxRecDepth 100000 in
set_option maxHeartbeats 4000000 in
theorem over_ref (p : Option Addr) (c : Nat) (l : List Nat) (d : Nat) (w : World) (h : NatV w.heap.size w p c l) (hl : l.length ≤ 1048576) (hd : 0 < d) (hdl : d < 4294967296) :
    Calls Tryz.prog 82 #[.slice p l.length c, .int .u32 (d : Int)] w (OverRefOk w (V32 l) d) := by
  have hal := half_len h.ok
  have H := Lib.hid h
  obtain ⟨A, hA⟩ : ∃ A, V32 l = A := ⟨_, rfl⟩
  have HA := Lib.hid hA
  rw [hA] at hal ⊢
  have hal2 : (D16 A).length ≤ 2097152 := by omega
  have hd0 : ((d : Int) == 0) = false := by rw [beq_eq_false_iff_ne]; omega
  clear h hA hal
  go_enter Tryz.func82, Tryz.ntmps82
  go_wp2_with fail
  obtain ⟨w0, hw0⟩ : ∃ w0, w0 = w.alloc (.cells #[.int .i64 0, .slice none 0 0, .slice none 0 0] 56) := ⟨_, rfl⟩
  rw [← hw0]
  have hb0 : Below w.heap.size w w0 := by rw [hw0]; exact (Below.refl _ _).alloc (Nat.le_refl _) _
  have hs0 : w.heap.size < w0.heap.size := by rw [hw0]; simp
  have hE0 : Err3 w0 w.heap.size (.int .i64 0) (.slice none 0 0) (.slice none 0 0) := by rw [hw0]; exact Err3.new w
  have hT1 := half_any p c l w0 (H.out.next hb0) hl
  rw [HA.out] at hT1
  clear hw0
  refine hT1.mono ?_
  clear hT1
  rintro e w3 ⟨p1, c1, rfl, ho1, hb2⟩
  have hs3 := hb2.size
  have hva : V16 (D16 A) = A := V16_D16 _
  have HV := Lib.hid (And.intro ho1.toV (And.intro (D16_ok A) hva))
  have HB3 := Lib.hid (And.intro (hE0.next hb2) (hb0.trans (hb2.mono (by omega))))
  clear ho1 hb2 hb0 hE0 hva
  obtain ⟨a, ha⟩ : ∃ a, D16 A = a := ⟨_, rfl⟩
  rw [ha] at HV hal2 ⊢
  clear ha
  have hmk := make32u a.length (by omega) w3
  go_wp2_with fail
  have hm0 := NatO.made w3 a.length (by omega)
  have hB3m : Below w3.heap.size w3 (w3.alloc (.cells (madeCells #[.int .u32 0] a.length) 51)) := (Below.refl w3.heap.size w3).alloc (Nat.le_refl _) _
  have hs4 : (w3.alloc (.cells (madeCells #[.int .u32 0] a.length) 51)).heap.size = w3.heap.size + 1 := by simp
  obtain ⟨w4, hw4⟩ : ∃ w4, w4 = w3.alloc (.cells (madeCells #[.int .u32 0] a.length) 51) := ⟨_, rfl⟩
  rw [← hw4] at hm0 hB3m hs4 ⊢
  have HM := Lib.hid (And.intro hm0 hB3m)
  clear hm0 hB3m hw4 hmk
  go_loopw [9, 10] (fun v9 v10 wr => OverRefRel w3.heap.size w3 a d (some ⟨w3.heap.size, 0, none⟩) a.length v9 v10 wr) (fun _ v _ => (intOf v + 1).toNat)
  case atStart => exact ⟨a.length, 0, List.replicate a.length 0, Nat.le_refl _, rfl, by go_num, QInv.start hd, HM.out.1, HM.out.2⟩
  case round =>
    obtain ⟨j, r, t, hj, rfl, rfl, hS, ho, hbx⟩ := hrel
    have hwB : w3.heap.size ≤ wr.heap.size := hbx.size
    have hrd := hS.car
    rcases Nat.eq_zero_or_pos j with rfl | hj0
    · have htl := hS.len
      obtain ⟨hd1, hd2⟩ := hS.done
      rw [HV.out.2.2] at hd1 hd2
      have hw := whole_any (some ⟨w3.heap.size, 0, none⟩) a.length t wr ho.toV hS.ok (by omega)
      rw [hd1, htl] at hw
      have HE := Lib.hid (And.intro (HB3.out.1.next hbx) (And.intro (HB3.out.2.trans (hbx.mono (by omega))) hd2))
      clear hS ho hbx htl hd1 hd2
      go_wp2_with fail
      refine hw.mono ?_
      rintro e w5 ⟨p5, c5, rfl, ho5, hb5⟩
      have hs5 := hb5.size
      obtain ⟨⟨hf0, hf1, hf2⟩, hk0, hk1, hk2⟩ := (HE.out.1.next hb5).facts
      have HW := Lib.hid (And.intro ho5 (HE.out.2.1.trans (hb5.mono (by omega))))
      clear hw ho5 hb5
      have hr32 : (r : Int) < 4294967296 := by omega
      go_wp2_with fail
      refine bodyPost_ret (v := .tuple #[.slice p5 (D32 (A / d)).length c5, .int .u32 (r : Int), noErr]) (by simp [results, Tryz.results82, go_sem, hk0, hk1, hk2, noErr]) rfl ⟨_, _, by rw [HE.out.2.2], ?_, ?_⟩
      · exact (HW.out.1.put3 (by omega) _ _ _).base (by omega)
      · exact put3_below HW.out.2 (Nat.le_refl _) _ _ _
    · obtain ⟨i, rfl⟩ : ∃ i, j = i + 1 := ⟨j - 1, by omega⟩
      rw [show (((i + 1 : Nat) : Int) - 1) = (i : Int) by omega]
      obtain ⟨y, hy⟩ := some_get (l := a) (k := i) (by omega)
      obtain ⟨ba, off, rfl, hba, hca⟩ := (HV.out.1.below hbx).cell (List.length_pos_iff.1 (by omega))
      have hcx := hca i y hy
      have hyl : y < 65536 := ok_get HV.out.2.1 hy
      have hst := hS.step hy hyl
      have hql := quo_lt hrd hyl
      have htl := hS.len
      obtain ⟨g, hg, hgb, hgl, hcells, hfrz⟩ := ho.shape (by omega)
      obtain rfl : w3.heap.size = g := by simpa using hg
      obtain ⟨z, hz⟩ := some_get (l := t) (k := i) (by omega)
      have hcz := hcells i z hz
      have hfz := hfrz i
      obtain ⟨N, hN⟩ : ∃ N, r * 65536 + y = N := ⟨_, rfl⟩
      have hNi : (r : Int) * 65536 + (y : Int) = (N : Int) := by omega
      have hNl : N < 281474976710656 := by omega
      rw [hN] at hst hql
      obtain ⟨Q, hQ⟩ : ∃ Q, N / d = Q := ⟨_, rfl⟩
      obtain ⟨R, hR⟩ : ∃ R, N % d = R := ⟨_, rfl⟩
      have hQi : (N : Int) / (d : Int) = (Q : Int) := by rw [← hQ]; omega
      have hRi : (N : Int) % (d : Int) = (R : Int) := by rw [← hR]; omega
      have hRl : R < d := by rw [← hR]; exact Nat.mod_lt _ hd
      rw [hQ] at hst hql
      rw [hR] at hst
      have HX := Lib.hid (And.intro hst (And.intro (NatO.store ho i Q (by omega)) hbx))
      have hil : i < a.length := by omega
      clear hca hy hst hS htl ho hg hcells hfrz hz hbx hN hQ hR
      go_wp2_with fail
      go_roundw
      case rel =>
        refine ⟨i, R, t.set i Q, by omega, by rw [hRi], rfl, HX.out.1, HX.out.2.1, HX.out.2.2.setCell (Nat.le_refl _) _⟩
      case measure => simp [intOf]
end Go.Proofs.YtfgoflaeclfggaaGreatDoor
end
section
namespace Go.Proofs.YtfgoflaeclfggaaGreatDoor
open Go.RowKit NatM

set_option maxRecDepth 100000 in
set_option maxHeartbeats 2000000 in
theorem pow_ref_neg (k n : Int) (w : World) (hn : n < 0) :
    Calls Tryz.prog 79 #[.int .u32 k, .int .i64 n] w (RefErr2 w 0 3) := by
  go_enter Tryz.func79, Tryz.ntmps79
  go_wp2_with fail
  obtain ⟨w0, hw0⟩ : ∃ w0, w0 = w.alloc (.cells #[.int .i64 0, .slice none 0 0, .slice none 0 0] 56) := ⟨_, rfl⟩
  rw [← hw0]
  have hb0 : Below w.heap.size w w0 := by rw [hw0]; exact (Below.refl _ _).alloc (Nat.le_refl _) _
  have hs0 : w.heap.size < w0.heap.size := by rw [hw0]; simp
  have hE0 : Err3 w0 w.heap.size (.int .i64 0) (.slice none 0 0) (.slice none 0 0) := by rw [hw0]; exact Err3.new w
  clear hw0
  refine (raw_fresh natOp 0 3 w0).mono ?_
  rintro e w2 ⟨g, g', rfl, ⟨hg1, hg2, hg3, hg4⟩, hcg, hcg', hb2⟩
  obtain ⟨⟨hf0, hf1, hf2⟩, hc0, hc1, hc2⟩ := (hE0.next hb2).facts
  have HB2 := Lib.hid (And.intro hcg (And.intro hcg' (hb0.trans (hb2.mono (by omega)))))
  clear hb2 hcg hcg' hb0 hE0
  go_wp2_with fail
  refine bodyPost_ret (v := .tuple #[.slice none 0 0, .agg #[.int .i64 3, .slice (some ⟨g, 0, none⟩) 1 1, .slice (some ⟨g', 0, none⟩) 1 1]]) (by simp [results, Tryz.results79, go_sem, hc0, hc1, hc2]) rfl ⟨_, rfl, _, _, rfl, ?_, ?_⟩
  · exact WantV.one (by simp; omega) (by simp; omega) ((put3_cell w2 w.heap.size _ _ _ _ (by simp; omega)).trans HB2.out.1) ((put3_cell w2 w.heap.size _ _ _ _ (by simp; omega)).trans HB2.out.2.1)
  · exact put3_below HB2.out.2.2 (Nat.le_refl _) _ _ _
set_option maxRecDepth 100000 in
set_option maxHeartbeats 2000000 in
theorem pow_ref_big (k n : Int) (w : World) (hn : 1024 < n) (h0 : ¬ n < 0) :
    Calls Tryz.prog 79 #[.int .u32 k, .int .i64 n] w (RefErr2 w 0 4) := by
  go_enter Tryz.func79, Tryz.ntmps79
  go_wp2_with fail
  obtain ⟨w0, hw0⟩ : ∃ w0, w0 = w.alloc (.cells #[.int .i64 0, .slice none 0 0, .slice none 0 0] 56) := ⟨_, rfl⟩
  rw [← hw0]
  have hb0 : Below w.heap.size w w0 := by rw [hw0]; exact (Below.refl _ _).alloc (Nat.le_refl _) _
  have hs0 : w.heap.size < w0.heap.size := by rw [hw0]; simp
  have hE0 : Err3 w0 w.heap.size (.int .i64 0) (.slice none 0 0) (.slice none 0 0) := by rw [hw0]; exact Err3.new w
  clear hw0
  refine (raw_fresh natOp 0 4 w0).mono ?_
  rintro e w2 ⟨g, g', rfl, ⟨hg1, hg2, hg3, hg4⟩, hcg, hcg', hb2⟩
  obtain ⟨⟨hf0, hf1, hf2⟩, hc0, hc1, hc2⟩ := (hE0.next hb2).facts
  have HB2 := Lib.hid (And.intro hcg (And.intro hcg' (hb0.trans (hb2.mono (by omega)))))
  clear hb2 hcg hcg' hb0 hE0
  go_wp2_with fail
  refine bodyPost_ret (v := .tuple #[.slice none 0 0, .agg #[.int .i64 4, .slice (some ⟨g, 0, none⟩) 1 1, .slice (some ⟨g', 0, none⟩) 1 1]]) (by simp [results, Tryz.results79, go_sem, hc0, hc1, hc2]) rfl ⟨_, rfl, _, _, rfl, ?_, ?_⟩
  · exact WantV.one (by simp; omega) (by simp; omega) ((put3_cell w2 w.heap.size _ _ _ _ (by simp; omega)).trans HB2.out.1) ((put3_cell w2 w.heap.size _ _ _ _ (by simp; omega)).trans HB2.out.2.1)
  · exact put3_below HB2.out.2.2 (Nat.le_refl _) _ _ _

theorem D32_pow {k i : Nat} (hk : k < 4294967296) : (D32 (k ^ i)).length ≤ i + 1 := by
  refine D32_len ?_
  have h1 : k ^ i ≤ 4294967296 ^ i := Nat.pow_le_pow_left (by omega) i
  have h2 : 4294967296 ^ i < 4294967296 ^ (i + 1) := Nat.pow_lt_pow_right (by omega) (by omega)
  omega
def PowRefRel (B : Nat) (w0 : World) (k n : Nat) (v6 v7 : Value) (wr : World) : Prop :=
  ∃ (i : Nat) (p : Option Addr) (c : Nat), i ≤ n ∧ v7 = .int .i64 (i : Int) ∧ v6 = .slice p (D32 (k ^ i)).length c ∧ NatO B wr p c (D32 (k ^ i)) ∧ Below B w0 wr
theorem NatO.one (w : World) (x : Nat) (hx : x < 4294967296) : NatO w.heap.size (w.alloc (.cells #[.int .u32 (x : Int)] 51)) (some ⟨w.heap.size, 0, none⟩) 1 [x] :=
  NatO.laid w [x] #[.int .u32 (x : Int)] 1 rfl rfl (by simp) (okB_one hx)
theorem V32_one (x : Nat) : V32 [x] = x := by simp [V32, valB]
set_option maxRecDepth 100000 in
set_option maxHeartbeats 2000000 in
theorem pow_ref (k n : Nat) (hk : k < 4294967296) (hn : n ≤ 1024) (w : World) :
    Calls Tryz.prog 79 #[.int .u32 (k : Int), .int .i64 (n : Int)] w (RefOk2 w (k ^ n)) := by
  go_enter Tryz.func79, Tryz.ntmps79
  go_wp2_with fail
  obtain ⟨w0, hw0⟩ : ∃ w0, w0 = w.alloc (.cells #[.int .i64 0, .slice none 0 0, .slice none 0 0] 56) := ⟨_, rfl⟩
  have hs1 : w.heap.size + 1 = w0.heap.size := by rw [hw0]; simp
  rw [← hw0]
  try rw [hs1]
  have hb0 : Below w.heap.size w w0 := by rw [hw0]; exact (Below.refl _ _).alloc (Nat.le_refl _) _
  have hE0 : Err3 w0 w.heap.size (.int .i64 0) (.slice none 0 0) (.slice none 0 0) := by rw [hw0]; exact Err3.new w
  have ho1 : NatO w0.heap.size (w0.alloc (.cells #[.int .u32 1] 51)) (some ⟨w0.heap.size, 0, none⟩) 1 (D32 1) := by rw [D32_1]; exact NatO.one w0 1 (by omega)
  have hb1 : Below w0.heap.size w0 (w0.alloc (.cells #[.int .u32 1] 51)) := (Below.refl _ _).alloc (Nat.le_refl _) _
  have H0 := Lib.hid (And.intro hE0 (And.intro hb0 (And.intro ho1 hb1)))
  clear hw0 hb0 hE0 ho1 hb1
  go_loopw [6, 7] (fun v6 v7 wr => PowRefRel w0.heap.size w0 k n v6 v7 wr) (fun _ v _ => n - (intOf v).toNat)
  case atStart => exact ⟨0, some ⟨w0.heap.size, 0, none⟩, 1, Nat.zero_le _, rfl, by rw [Nat.pow_zero, D32_1]; rfl, by rw [Nat.pow_zero]; exact H0.out.2.2.1, H0.out.2.2.2⟩
  case round =>
    obtain ⟨i, p, c, hi, rfl, rfl, ho, hb⟩ := hrel
    have hwB : w0.heap.size ≤ wr.heap.size := hb.size
    have hlen := D32_pow (i := i) hk
    by_cases hlt : i < n
    · have hw1 : Below wr.heap.size wr (wr.alloc (.cells #[.int .u32 (k : Int)] 51)) := (Below.refl _ _).alloc (Nat.le_refl _) _
      have hk1 := NatO.one wr k hk
      have hws : (wr.alloc (.cells #[.int .u32 (k : Int)] 51)).heap.size = wr.heap.size + 1 := by simp
      have hm := mul_ref p (some ⟨wr.heap.size, 0, none⟩) c 1 (D32 (k ^ i)) [k] (wr.alloc (.cells #[.int .u32 (k : Int)] 51)) (ho.next hw1).toV hk1.toV (by omega) (by simp)
      rw [V32_D32, V32_one, ← Nat.pow_succ] at hm
      have HB := Lib.hid (hb.trans (hw1.mono hwB))
      clear ho hb hlen hw1 hk1
      go_wp2_with fail
      refine hm.mono ?_
      rintro e w2 ⟨p2, c2, rfl, ho2, hb2⟩
      have H2 := Lib.hid (And.intro ho2 hb2)
      clear hm ho2 hb2
      go_wp2_with fail
      go_roundw
      case rel => exact ⟨i + 1, p2, c2, by omega, by go_num, rfl, H2.out.1.base (by omega), HB.out.trans (H2.out.2.mono (by omega))⟩
      case measure => simp [intOf]; omega
    · obtain rfl : i = n := by omega
      obtain ⟨⟨hf0, hf1, hf2⟩, hk0, hk1, hk2⟩ := (H0.out.1.next hb).facts
      have HW := Lib.hid (And.intro ho (H0.out.2.1.trans (hb.mono (by omega))))
      clear ho hb hlen
      go_wp2_with fail
      refine bodyPost_ret (v := .tuple #[.slice p (D32 (k ^ i)).length c, noErr]) (by simp [results, Tryz.results79, go_sem, hk0, hk1, hk2, noErr]) rfl ⟨_, _, rfl, ?_, ?_⟩
      · exact (HW.out.1.put3 (by omega) _ _ _).base (by omega)
      · exact put3_below HW.out.2 (Nat.le_refl _) _ _ _
end Go.Proofs.YtfgoflaeclfggaaGreatDoor
end
section
namespace Go.Proofs.YtfgoflaeclfggaaGreatDoor
open Go.RowKit Go.Extern.Stop Go.Stop Go.Extern WordM NatM

/-- what Pow tells, the error written out -/
def PowOut (w : World) (N : Nat) (e : Ending) (w' : World) : Prop :=
  ∃ p c, e = .returned (.tuple #[.slice p (D32 N).length c, .agg #[.int .i64 0, .slice none 0 0, .slice none 0 0]]) ∧ NatO w.heap.size w' p c (D32 N) ∧ Below w.heap.size w w'
theorem pow_out (k n : Nat) (hk : k < 4294967296) (hn : n ≤ 1024) (w : World) : Calls Tryz.prog 79 #[.int .u32 (k : Int), .int .i64 (n : Int)] w (PowOut w (k ^ n)) :=
  (pow_ref k n hk hn w).mono fun _ _ h => h
theorem pow_len {k n : Nat} (hk : k ≤ 4) : (D32 (k ^ n)).length ≤ n + 1 :=
  D32_len (Nat.lt_of_le_of_lt (Nat.pow_le_pow_left (Nat.le_trans hk (by omega)) n) (Nat.pow_lt_pow_right (by omega) (by omega)))
set_option maxRecDepth 100000 in
set_option maxHeartbeats 4000000 in
theorem at_ref_over (k n : Nat) (p : Option Addr) (c : Nat) (a : List Nat) (w : World) (h : NatV w.heap.size w p c a) (hal : a.length ≤ 1000) (h1 : 1 ≤ k) (h4 : k ≤ 4) (h256 : n ≤ 256) (hge : k ^ n ≤ V32 a) :
    Calls Tryz.prog 28 #[.int .i64 (k : Int), .int .i64 (n : Int), .slice p a.length c] w (RefErrW2 w (.slice none 0 0) 0 3) := by
  have hcv : ∃ r : Int, 0 ≤ r ∧ cmpN (V32 a) (k ^ n) = r := by
    rcases Nat.lt_or_ge (k ^ n) (V32 a) with h1 | h1
    · exact ⟨1, by omega, by rw [cmp_gt h1]⟩
    · exact ⟨0, by omega, by rw [show V32 a = k ^ n by omega, cmp_eq]⟩
  obtain ⟨r, hr0, hcr⟩ := hcv
  have hpl : (D32 (k ^ n)).length ≤ 300 := Nat.le_trans (pow_len (n := n) h4) (by omega)
  have H := Lib.hid (And.intro h (And.intro hcr (And.intro hpl hal)))
  have hk1 : ¬ (k : Int) < 1 := by omega
  have hk4 : ¬ (4 : Int) < (k : Int) := by omega
  have hpw0 : ∀ wx : World, Calls Tryz.prog 79 #[.int .u32 (k : Int), .int .i64 (n : Int)] wx (PowOut wx (k ^ n)) := fun wx => pow_out k n (by omega) (by omega) wx
  obtain ⟨z, hz⟩ : ∃ z : Int, (n : Int) = z := ⟨_, rfl⟩
  obtain ⟨N, hN⟩ : ∃ N, k ^ n = N := ⟨_, rfl⟩
  obtain ⟨L, hL⟩ : ∃ L, a.length = L := ⟨_, rfl⟩
  rw [hN] at hpw0
  rw [hz] at hpw0 ⊢
  rw [hL]
  have HP := Lib.hid (And.intro hpw0 (And.intro hN hL))
  have hn0 : ¬ z < 0 := by omega
  have hn256 : ¬ (256 : Int) < z := by omega
  have hwk : IntKind.u32.wrap (k : Int) = (k : Int) := by rw [IntKind.wrap_u32]; omega
  clear h hcr hge hpl hal hz hpw0 hN hL h256
  go_enter Tryz.func28, Tryz.ntmps28
  go_wp2_with fail
  obtain ⟨w0, hw0⟩ : ∃ w0, w0 = w.alloc (.cells #[.int .i64 0, .slice none 0 0, .slice none 0 0] 56) := ⟨_, rfl⟩
  have hb0 : Below w.heap.size w w0 := by rw [hw0]; exact (Below.refl _ _).alloc (Nat.le_refl _) _
  have hs0 : w.heap.size < w0.heap.size := by rw [hw0]; simp
  have hE0 : Err3 w0 w.heap.size (.int .i64 0) (.slice none 0 0) (.slice none 0 0) := by rw [hw0]; exact Err3.new w
  rw [← hw0]
  have HE := Lib.hid (And.intro hE0 hb0)
  clear hw0 hE0 hb0
  refine (HP.out.1 w0).mono ?_
  rintro e w1 ⟨p1, c1, rfl, ho1, hb1⟩
  obtain ⟨wq, hwq⟩ : ∃ x, x = w1.alloc (.cells #[.int .i64 0, .slice none 0 0, .slice none 0 0] 56) := ⟨_, rfl⟩
  have hbq : Below w1.heap.size w1 wq := by rw [hwq]; exact (Below.refl _ _).alloc (Nat.le_refl _) _
  have hs1 := hb1.size
  have hbw : Below w.heap.size w wq := (HE.out.2.trans (hb1.mono (by omega))).trans (hbq.mono (by omega))
  have hcmp := cmp_ref p p1 c c1 a (D32 N) wq (H.out.1.next hbw) (ho1.next hbq).toV (by have := H.out.2.2.2; omega) (by have := H.out.2.2.1; rw [HP.out.2.1] at this; omega)
  rw [V32_D32, ← HP.out.2.1, H.out.2.1, HP.out.2.1, HP.out.2.2] at hcmp
  have HQ := Lib.hid (And.intro ((HE.out.1.next hb1).next hbq) (And.intro hbw hcmp))
  clear hb1 hbq hbw hcmp ho1
  go_upto_region 6 with fail
  rw [← hwq]
  clear hwq
  go_wp2_with fail
  refine HQ.out.2.2.mono ?_
  rintro e w5 ⟨rfl, hb5⟩
  have HX := Lib.hid (And.intro (HQ.out.1.next hb5) (HQ.out.2.1.trans (hb5.mono HQ.out.2.1.size)))
  clear hb5
  go_wp2_with fail
  refine (raw_fresh wordOp 0 3 _).mono ?_
  rintro e w2 ⟨g, g', rfl, ⟨hg1, hg2, hg3, hg4⟩, hcg, hcg', hb2⟩
  obtain ⟨⟨hf0, hf1, hf2⟩, hc0, hc1, hc2⟩ := (HX.out.1.next hb2).facts
  have hgs := HX.out.2.size
  have hgt : w.heap.size < w5.heap.size := heap_ltN HX.out.1.heap
  have HB2 := Lib.hid (And.intro hcg (And.intro hcg' (And.intro (HX.out.2.trans (hb2.mono (by omega))) (And.intro hgt (And.intro hg1 hg3)))))
  clear hb2 hcg hcg' hgs hgt
  go_wp2_with fail
  refine bodyPost_ret (v := .tuple #[.slice none 0 0, .agg #[.int .i64 3, .slice (some ⟨g, 0, none⟩) 1 1, .slice (some ⟨g', 0, none⟩) 1 1]]) (by simp [results, Tryz.results28, go_sem, hc0, hc1, hc2]) rfl ⟨_, rfl, g, g', rfl, ⟨by have := HB2.out.2.2.2; omega, by have := HB2.out.2.2.2; omega⟩, ?_, ?_⟩
  · exact WantV.one (by simp; omega) (by simp; omega) ((put3_cell w2 w.heap.size _ _ _ _ (by have := HB2.out.2.2.2; simp only []; omega)).trans HB2.out.1) ((put3_cell w2 w.heap.size _ _ _ _ (by have := HB2.out.2.2.2; simp only []; omega)).trans HB2.out.2.1)
  · exact put3_below HB2.out.2.2.1 (Nat.le_refl _) _ _ _
end Go.Proofs.YtfgoflaeclfggaaGreatDoor
end
section
namespace Go.Proofs.YtfgoflaeclfggaaGreatDoor
open Go.RowKit Go.Extern.Stop Go.Stop Go.Extern WordM NatM

def RefAtOk (w : World) (k n i : Nat) (e : Ending) (w' : World) : Prop := ∃ x : List Int, x.length = n ∧ okW k x ∧ valW k x = i ∧ RefIOk w x e w'
def OverOutW (w : World) (q d : Nat) (e : Ending) (w' : World) : Prop :=
  ∃ p c, e = .returned (.tuple #[.slice p (D32 q).length c, .int .u32 ((d : Nat) : Int), .agg #[.int .i64 0, .slice none 0 0, .slice none 0 0]]) ∧ NatO w.heap.size w' p c (D32 q) ∧ Below w.heap.size w w'
def AtRefRel (w : World) (k n i : Nat) (v11 v12 : Value) (wr : World) : Prop :=
  ∃ (j R : Nat) (x : List Int) (q : Option Addr) (cq : Nat), j ≤ n ∧ v12 = .int .i64 ((j : Int) - 1) ∧ v11 = .slice q (D32 R).length cq ∧ NatV wr.heap.size wr q cq (D32 R) ∧ (D32 R).length ≤ 100000 ∧
    x.length = n - j ∧ okW k x ∧ valW k x + k ^ (n - j) * R = i ∧ IntO w.heap.size wr (some ⟨w.heap.size, 0, none⟩) n (List.replicate j 0 ++ x) ∧ Below w.heap.size w wr
theorem set_frontR {x : List Int} {j : Nat} {v : Int} : (List.replicate (j + 1) (0 : Int) ++ x).set j v = List.replicate j 0 ++ v :: x := by
  rw [List.replicate_succ', List.append_assoc, List.set_append_right _ _ (by simp), List.length_replicate, Nat.sub_self]
  rfl
set_option maxRecDepth 100000 in
set_option maxHeartbeats 4000000 in
theorem at_ref_ok (k n : Nat) (p : Option Addr) (c : Nat) (a : List Nat) (w : World) (h : NatV w.heap.size w p c a) (hal : a.length ≤ 1000) (h1 : 1 ≤ k) (h4 : k ≤ 4) (h256 : n ≤ 256) (hlt : V32 a < k ^ n) :
    Calls Tryz.prog 28 #[.int .i64 (k : Int), .int .i64 (n : Int), .slice p a.length c] w (RefAtOk w k n (V32 a)) := by
  have hcr : cmpN (V32 a) (k ^ n) = -1 := cmp_lt hlt
  have hpl : (D32 (k ^ n)).length ≤ 300 := Nat.le_trans (pow_len (n := n) h4) (by omega)
  have H := Lib.hid (And.intro h (And.intro hcr (And.intro hpl hal)))
  have HLT := Lib.hid hlt
  have hk1 : ¬ (k : Int) < 1 := by omega
  have hk4 : ¬ (4 : Int) < (k : Int) := by omega
  have hpw0 : ∀ wx : World, Calls Tryz.prog 79 #[.int .u32 (k : Int), .int .i64 (n : Int)] wx (PowOut wx (k ^ n)) := fun wx => pow_out k n (by omega) (by omega) wx
  obtain ⟨N, hN⟩ : ∃ N, k ^ n = N := ⟨_, rfl⟩
  obtain ⟨L, hL⟩ : ∃ L, a.length = L := ⟨_, rfl⟩
  obtain ⟨V, hV⟩ : ∃ V, V32 a = V := ⟨_, rfl⟩
  rw [hN] at hpw0
  rw [hL, hV]
  have HP := Lib.hid (And.intro hpw0 (And.intro hN (And.intro hL hV)))
  have hn0 : ¬ (n : Int) < 0 := by omega
  have hn256 : ¬ (256 : Int) < (n : Int) := by omega
  have hwk : IntKind.u32.wrap (k : Int) = (k : Int) := by rw [IntKind.wrap_u32]; omega
  clear h hcr hlt hpl hal hpw0 hN hL hV
  go_enter Tryz.func28, Tryz.ntmps28
  go_wp2_with fail
  obtain ⟨w0, hw0⟩ : ∃ w0, w0 = w.alloc (.cells #[.int .i64 0, .slice none 0 0, .slice none 0 0] 56) := ⟨_, rfl⟩
  have hb0 : Below w.heap.size w w0 := by rw [hw0]; exact (Below.refl _ _).alloc (Nat.le_refl _) _
  have hs0 : w.heap.size < w0.heap.size := by rw [hw0]; simp
  have hE0 : Err3 w0 w.heap.size (.int .i64 0) (.slice none 0 0) (.slice none 0 0) := by rw [hw0]; exact Err3.new w
  rw [← hw0]
  have HE := Lib.hid (And.intro hE0 hb0)
  clear hw0 hE0 hb0
  refine (HP.out.1 w0).mono ?_
  rintro e w1 ⟨p1, c1, rfl, ho1, hb1⟩
  obtain ⟨wq, hwq⟩ : ∃ x, x = w1.alloc (.cells #[.int .i64 0, .slice none 0 0, .slice none 0 0] 56) := ⟨_, rfl⟩
  have hbq : Below w1.heap.size w1 wq := by rw [hwq]; exact (Below.refl _ _).alloc (Nat.le_refl _) _
  have hs1 := hb1.size
  have hbw : Below w.heap.size w wq := (HE.out.2.trans (hb1.mono (by omega))).trans (hbq.mono (by omega))
  have hcmp := cmp_ref p p1 c c1 a (D32 N) wq (H.out.1.next hbw) (ho1.next hbq).toV (by have := H.out.2.2.2; omega) (by have := H.out.2.2.1; rw [HP.out.2.1] at this; omega)
  rw [V32_D32, ← HP.out.2.1, H.out.2.1, HP.out.2.1, HP.out.2.2.1] at hcmp
  have HQ := Lib.hid (And.intro ((HE.out.1.next hb1).next hbq) (And.intro hbw hcmp))
  clear hb1 hbq hbw hcmp ho1
  go_upto_region 6 with fail
  rw [← hwq]
  clear hwq
  go_wp2_with fail
  refine HQ.out.2.2.mono ?_
  rintro e w5 ⟨rfl, hb5⟩
  have HX := Lib.hid (And.intro (HQ.out.1.next hb5) (HQ.out.2.1.trans (hb5.mono HQ.out.2.1.size)))
  clear hb5
  have hgt : w.heap.size < w5.heap.size := heap_ltN HX.out.1.heap
  have hmk := makeI n (by omega) w5
  go_wp2_with fail
  clear hmk
  have ho0 := IntO.made w5 n (by omega)
  have hbm : Below w5.heap.size w5 (w5.alloc (.cells (madeCells #[.int .i64 0] n) 3)) := (Below.refl _ _).alloc (Nat.le_refl _) _
  obtain ⟨wM, hwM⟩ : ∃ x, w5.alloc (.cells (madeCells #[.int .i64 0] n) 3) = x := ⟨_, rfl⟩
  rw [hwM] at ho0 hbm
  rw [hwM]
  have hnorm := norm_any p c a wM ((H.out.1.next HX.out.2).next (hbm.mono (by omega))) (by have := H.out.2.2.2; omega)
  rw [HP.out.2.2.1, HP.out.2.2.2] at hnorm
  have HM := Lib.hid (And.intro ho0 hbm)
  clear ho0 hbm hwM
  refine hnorm.mono ?_
  clear hnorm
  rintro e w9 ⟨p9, c9, rfl, ho9, hb9⟩
  have h9l : (D32 V).length ≤ 100000 := by
    have := H.out.2.2.2
    have h2 := D32_le H.out.1.ok
    rw [HP.out.2.2.2] at h2
    omega
  have H9 := Lib.hid (And.intro ho9.toV (And.intro (HM.out.1.next hb9) (And.intro (HM.out.2.trans (hb9.mono HM.out.2.size)) h9l)))
  clear ho9 hb9 h9l
  go_wp2_with fail
  go_loopw [11, 12] (fun v11 v12 wr => AtRefRel w5 k n V v11 v12 wr) (fun _ v _ => (intOf v + 1).toNat)
  case atStart => exact ⟨n, V, [], p9, c9, Nat.le_refl _, rfl, rfl, H9.out.1, H9.out.2.2.2, by simp, okW_nil k, by rw [Nat.sub_self, Nat.pow_zero, Nat.one_mul]; exact Nat.zero_add _, by rw [List.append_nil]; exact H9.out.2.1, H9.out.2.2.1⟩
  case round =>
    obtain ⟨j, R, x, q, cq, hj, rfl, rfl, hq, hql, hxl, hxo, hxv, ho, hb⟩ := hrel
    rcases Nat.eq_zero_or_pos j with rfl | hj0
    · have hxa : valW k x = V := at_done (n := n) hxv (by have := HLT.out; rw [HP.out.2.2.2] at this; exact this)
      rw [Nat.sub_zero] at hxl
      have ho' : IntO w5.heap.size wr (some ⟨w5.heap.size, 0, none⟩) n x := ho
      obtain ⟨⟨hf0, hf1, hf2⟩, hc0, hc1, hc2⟩ := (HX.out.1.next hb).facts
      have HF := Lib.hid (And.intro hxl (And.intro hxo (And.intro hxa (And.intro ho' (HX.out.2.trans (hb.mono (by omega)))))))
      clear hq hql hxl hxo hxv ho ho' hb hxa
      go_wp2_with fail
      refine bodyPost_ret (v := .tuple #[.slice (some ⟨w5.heap.size, 0, none⟩) n n, noErr]) (by simp [results, Tryz.results28, go_sem, hc0, hc1, hc2, noErr]) rfl ⟨x, HF.out.1, HF.out.2.1, HF.out.2.2.1, _, _, by rw [HF.out.1], ?_, ?_⟩
      · exact (HF.out.2.2.2.1.put3 hgt _ _ _).base (by omega)
      · exact put3_below HF.out.2.2.2.2 (Nat.le_refl _) _ _ _
    · obtain ⟨i, rfl⟩ : ∃ i, j = i + 1 := ⟨j - 1, by omega⟩
      have e1 : (((i + 1 : Nat) : Int) - 1) = (i : Int) := by omega
      rw [e1]
      have hov : Calls Tryz.prog 82 #[.slice q (D32 R).length cq, .int .u32 (k : Int)] wr (OverOutW wr (R / k) (R % k)) := by
        have := over_ref q cq (D32 R) k wr hq (by omega) (by omega) (by omega)
        rw [V32_D32] at this
        exact this
      have hdl : R % k < k := Nat.mod_lt _ (by omega)
      have hst := at_step (k := k) (p := n - (i + 1)) (i := R) (i0 := V) hxl hxv
      obtain ⟨D, hD⟩ : ∃ D, R % k = D := ⟨_, rfl⟩
      obtain ⟨Q, hQ⟩ : ∃ Q, R / k = Q := ⟨_, rfl⟩
      have hQl : (D32 Q).length ≤ 100000 := by
        have h1 : Q ≤ R := by rw [← hQ]; exact Nat.div_le_self _ _
        rcases Nat.lt_or_ge 100000 (D32 Q).length with h2 | h2
        · have := cmp_len (m := R) (n := Q) (by omega)
          omega
        · exact h2
      rw [hD] at hov hdl hst
      rw [hQ] at hov hst
      have HR := Lib.hid (And.intro hov (And.intro hst (And.intro hxl (And.intro hxo (And.intro ho (And.intro hb hQl))))))
      have hD4 : D < 4 := by omega
      have HDK := Lib.hid hdl
      have hin : i < n := by omega
      have hltg : w5.heap.size < wr.heap.size := by
        have hlen : (List.replicate (i + 1) (0 : Int) ++ x).length = n := by simp; omega
        unfold IntO at ho
        rw [hlen] at ho
        rcases own_shape ho with ⟨hv, h0, _⟩ | ⟨g', cap, hv, _, hlt', _⟩
        · omega
        · have e : w5.heap.size = g' := by simpa using (Value.slice.inj hv).1
          omega
      clear hov hst hxl hxo ho hb hq hxv hD hQ hql hQl hdl e1
      go_wp2_with fail
      refine HR.out.1.mono ?_
      rintro e wO ⟨pO, cO, rfl, hoO, hbO⟩
      go_upto_region 14 with fail
      obtain ⟨wS, hwS⟩ : ∃ x, x = wO.alloc (.cells #[.int .i64 0, .slice none 0 0, .slice none 0 0] 56) := ⟨_, rfl⟩
      have hbS : Below wO.heap.size wO wS := by rw [hwS]; exact (Below.refl _ _).alloc (Nat.le_refl _) _
      rw [← hwS]
      have hrS := hbO.trans (hbS.mono hbO.size)
      have hrow := HR.out.2.2.2.2.1.next hrS
      have hlen : (List.replicate (i + 1) (0 : Int) ++ x).length = n := by have := HR.out.2.2.1; simp; omega
      have hset : ∀ v : Int, (List.replicate (i + 1) (0 : Int) ++ x).set i v = List.replicate i 0 ++ v :: x := fun v => set_frontR
      obtain ⟨xs, hxs⟩ : ∃ xs, List.replicate (i + 1) (0 : Int) ++ x = xs := ⟨_, rfl⟩
      rw [hxs] at hrow hlen
      simp only [hxs] at hset
      have hown : wS.ownsRow w5.heap.size 3 1 (.slice (some ⟨w5.heap.size, 0, none⟩) n n) n (cI xs) := by
        unfold IntO at hrow
        rwa [hlen] at hrow
      obtain ⟨y0, hy0⟩ := getI (l := xs) (k := i) (by omega)
      have hcy : wS.cell? ⟨w5.heap.size, i, none⟩ = some (.int .i64 y0) := (hown.cellAt i (by omega)).trans (cI_get hy0)
      have hfy : wS.frozen? ⟨w5.heap.size, i, none⟩ = false := hown.frozenAt i
      obtain ⟨s1, _⟩ := hown.stored i (.int .i64 (D : Int))
      rw [← cI_set, hset] at s1
      have hbK2 : Below w5.heap.size w5 (wS.setCell ⟨w5.heap.size, i, none⟩ (.int .i64 (D : Int))) := (HR.out.2.2.2.2.2.1.trans (hrS.mono HR.out.2.2.2.2.2.1.size)).setCell (p := ⟨w5.heap.size, i, none⟩) (Nat.le_refl _) _
      have hq2 : NatO wr.heap.size (wS.setCell ⟨w5.heap.size, i, none⟩ (.int .i64 (D : Int))) pO cO (D32 Q) := ⟨ownsRow_setCell_below (hoO.next hbS).own (a := ⟨w5.heap.size, i, none⟩) hltg _, (hoO.next hbS).ok⟩
      have HF := Lib.hid (And.intro s1 (And.intro hbK2 hq2.toV))
      clear hwS hbS hrS hrow hlen hset hxs hown hy0 s1 hbK2 hq2 hoO hbO
      go_wp2_with fail
      go_roundw
      case rel =>
        refine ⟨i, Q, (D : Int) :: x, pO, cO, by omega, rfl, rfl, HF.out.2.2, HR.out.2.2.2.2.2.2, ?_, ?_, ?_, ?_, HF.out.2.1⟩
        · rw [List.length_cons, HR.out.2.2.1]; omega
        · intro z hz
          rcases List.mem_cons.1 hz with rfl | hz
          · have := HDK.out; omega
          · exact HR.out.2.2.2.1 z hz
        · have := HR.out.2.1
          rw [show n - (i + 1) + 1 = n - i by omega] at this
          exact this
        · unfold IntO
          have hlen : (List.replicate i (0 : Int) ++ (D : Int) :: x).length = n := by have := HR.out.2.2.1; simp; omega
          rw [hlen]; exact HF.out.1
      case measure => simp [intOf]
end Go.Proofs.YtfgoflaeclfggaaGreatDoor
end
section
namespace Go.Proofs
open Go.Shelf
def Tryz.lays129_ren : Go.Shelf.Ren := ⟨fun | 129 => 160 | n => n, fun | 53 => 105 | 3 => 3 | 4 => 4 | 46 => 152 | 5 => 5 | 9 => 9 | n => n, fun | n => n⟩
theorem Tryz.lays129 : Go.Proofs.Lays.n129 Tryz.prog Tryz.lays129_ren := {
  mixed := by kernel_rfl
  f129 := Tryz.func160.trans (congrArg some (by kernel_rfl))
  t3 := Tryz.underlying3
  a3 := Tryz.isAgg3
  z3 := Tryz.sizeOf3
  v3 := Tryz.zeroValue3
  t4 := Tryz.underlying4
  a4 := Tryz.isAgg4
  z4 := Tryz.sizeOf4
  v4 := Tryz.zeroValue4
  t5 := Tryz.underlying5
  a5 := Tryz.isAgg5
  z5 := Tryz.sizeOf5
  v5 := Tryz.zeroValue5
  t9 := Tryz.underlying9
  a9 := Tryz.isAgg9
  z9 := Tryz.sizeOf9
  v9 := Tryz.zeroValue9
  t46 := Tryz.underlying152
  a46 := Tryz.isAgg152
  z46 := Tryz.sizeOf152
  v46 := Tryz.zeroValue152
  t53 := Tryz.underlying105
  a53 := Tryz.isAgg105
  z53 := Tryz.sizeOf105
  v53 := Tryz.zeroValue105 }
theorem Tryz.bits_Len64 (x : Int) (w : World) (h0 : 0 ≤ x) (h1 : x ≤ 18446744073709551615) :
    Calls Tryz.prog 160 #[.int .u64 x] w fun e w' => e = .returned (.int .i64 (Lib.bitLen x.toNat)) ∧ w' = w := Any.bits_Len64 Tryz.lays129 x w h0 h1
def Tryz.lays317_ren : Go.Shelf.Ren := ⟨fun | 317 => 159 | n => n, fun | 3 => 3 | 46 => 152 | n => n, fun | n => n⟩
theorem Tryz.lays317 : Go.Proofs.Lays.n317 Tryz.prog Tryz.lays317_ren := {
  mixed := by kernel_rfl
  f317 := Tryz.func159.trans (congrArg some (by kernel_rfl))
  t3 := Tryz.underlying3
  a3 := Tryz.isAgg3
  z3 := Tryz.sizeOf3
  v3 := Tryz.zeroValue3
  t46 := Tryz.underlying152
  a46 := Tryz.isAgg152
  z46 := Tryz.sizeOf152
  v46 := Tryz.zeroValue152 }
open Go.Lib in
theorem Tryz.internal_strconv_log10Pow2 (x : Nat) (h : x ≤ 64) (w : World) :
    Calls Tryz.prog 159 #[.int .i64 x] w fun e w' => e = .returned (.int .i64 (Lib.l10 x)) ∧ w' = w := Any.internal_strconv_log10Pow2 Tryz.lays317 x h w
def Tryz.lays318_ren : Go.Shelf.Ren := ⟨fun | 318 => 161 | n => n, fun | 3 => 3 | 4 => 4 | n => n, fun | n => n⟩
theorem Tryz.lays318 : Go.Proofs.Lays.n318 Tryz.prog Tryz.lays318_ren := {
  mixed := by kernel_rfl
  f318 := Tryz.func161.trans (congrArg some (by kernel_rfl))
  t3 := Tryz.underlying3
  a3 := Tryz.isAgg3
  z3 := Tryz.sizeOf3
  v3 := Tryz.zeroValue3
  t4 := Tryz.underlying4
  a4 := Tryz.isAgg4
  z4 := Tryz.sizeOf4
  v4 := Tryz.zeroValue4 }
open Go.Lib in
theorem Tryz.internal_strconv_bool2_int (b : Bool) (w : World) :
    Calls Tryz.prog 161 #[.bool b] w fun e w' => e = .returned (.int .i64 (if b then 1 else 0)) ∧ w' = w := Any.internal_strconv_bool2_int Tryz.lays318 b w
def Tryz.lays283_ren : Go.Shelf.Ren := ⟨fun | 283 => 155 | n => n, fun | 3 => 3 | 9 => 9 | 4 => 4 | n => n, fun | n => n⟩
theorem Tryz.lays283 : Go.Proofs.Lays.n283 Tryz.prog Tryz.lays283_ren := {
  mixed := by kernel_rfl
  f283 := Tryz.func155.trans (congrArg some (by kernel_rfl))
  t3 := Tryz.underlying3
  a3 := Tryz.isAgg3
  z3 := Tryz.sizeOf3
  v3 := Tryz.zeroValue3
  t4 := Tryz.underlying4
  a4 := Tryz.isAgg4
  z4 := Tryz.sizeOf4
  v4 := Tryz.zeroValue4
  t9 := Tryz.underlying9
  a9 := Tryz.isAgg9
  z9 := Tryz.sizeOf9
  v9 := Tryz.zeroValue9 }
open Go.Lib in
theorem Tryz.internal_strconv_small (i : Nat) (h : i < 100) (w : World) :
    Calls Tryz.prog 155 #[.int .i64 i] w fun e w' => e = .returned (.string ⟨(Lib.decDigits i).toArray⟩) ∧ w' = w := Any.internal_strconv_small Tryz.lays283 i h w
def Tryz.laysM284_ren : Go.Shelf.Ren := ⟨fun | 284 => 156 | 129 => 160 | 317 => 159 | 318 => 161 | n => n, fun | 53 => 105 | 3 => 3 | 212 => 197 | 0 => 0 | 4 => 4 | 46 => 152 | 5 => 5 | 9 => 9 | n => n, fun | 17 => 14 | n => n⟩
theorem Tryz.laysM284 : Go.Proofs.LaysM.n284 Tryz.prog Tryz.laysM284_ren := {
  mixed := by kernel_rfl
  f129 := Tryz.func160.trans (congrArg some (by kernel_rfl))
  f284 := Tryz.func156.trans (congrArg some (by kernel_rfl))
  f317 := Tryz.func159.trans (congrArg some (by kernel_rfl))
  f318 := Tryz.func161.trans (congrArg some (by kernel_rfl))
  t0 := Tryz.underlying0
  a0 := Tryz.isAgg0
  z0 := Tryz.sizeOf0
  v0 := Tryz.zeroValue0
  t3 := Tryz.underlying3
  a3 := Tryz.isAgg3
  z3 := Tryz.sizeOf3
  v3 := Tryz.zeroValue3
  t4 := Tryz.underlying4
  a4 := Tryz.isAgg4
  z4 := Tryz.sizeOf4
  v4 := Tryz.zeroValue4
  t5 := Tryz.underlying5
  a5 := Tryz.isAgg5
  z5 := Tryz.sizeOf5
  v5 := Tryz.zeroValue5
  t9 := Tryz.underlying9
  a9 := Tryz.isAgg9
  z9 := Tryz.sizeOf9
  v9 := Tryz.zeroValue9
  t46 := Tryz.underlying152
  a46 := Tryz.isAgg152
  z46 := Tryz.sizeOf152
  v46 := Tryz.zeroValue152
  t53 := Tryz.underlying105
  a53 := Tryz.isAgg105
  z53 := Tryz.sizeOf105
  v53 := Tryz.zeroValue105
  t212 := Tryz.underlying197
  a212 := Tryz.isAgg197
  z212 := Tryz.sizeOf197
  v212 := Tryz.zeroValue197
  g17 := by kernel_rfl
  i0 := by kernel_rfl
  i3 := by kernel_rfl
  i4 := by kernel_rfl
  i5 := by kernel_rfl
  i9 := by kernel_rfl
  i46 := by kernel_rfl
  i53 := by kernel_rfl
  i212 := by kernel_rfl
  m17 := by kernel_rfl }
open Go.Lib in
theorem Tryz.internal_strconv_numDigits (u : Nat) (h1 : 1 ≤ u) (h2 : u < 18446744073709551616) (w : World) (htab : Lib.TabIs Tryz.prog w "internal/strconv.uint64pow10" .u64 Lib.pow10Tab) :
    Calls Tryz.prog 156 #[.int .u64 u] w fun e w' => e = .returned (.int .i64 (Lib.nDigits u)) ∧ w' = w := Any.internal_strconv_numDigits Tryz.laysM284 u h1 h2 w htab
def Tryz.lays285_ren : Go.Shelf.Ren := ⟨fun | 285 => 157 | n => n, fun | 37 => 114 | 53 => 105 | 3 => 3 | 4 => 4 | 51 => 51 | 9 => 9 | 5 => 5 | 0 => 0 | n => n, fun | n => n⟩
theorem Tryz.lays285 : Go.Proofs.Lays.n285 Tryz.prog Tryz.lays285_ren := {
  mixed := by kernel_rfl
  f285 := Tryz.func157.trans (congrArg some (by kernel_rfl))
  t0 := Tryz.underlying0
  a0 := Tryz.isAgg0
  z0 := Tryz.sizeOf0
  v0 := Tryz.zeroValue0
  t3 := Tryz.underlying3
  a3 := Tryz.isAgg3
  z3 := Tryz.sizeOf3
  v3 := Tryz.zeroValue3
  t4 := Tryz.underlying4
  a4 := Tryz.isAgg4
  z4 := Tryz.sizeOf4
  v4 := Tryz.zeroValue4
  t5 := Tryz.underlying5
  a5 := Tryz.isAgg5
  z5 := Tryz.sizeOf5
  v5 := Tryz.zeroValue5
  t9 := Tryz.underlying9
  a9 := Tryz.isAgg9
  z9 := Tryz.sizeOf9
  v9 := Tryz.zeroValue9
  t37 := Tryz.underlying114
  a37 := Tryz.isAgg114
  z37 := Tryz.sizeOf114
  v37 := Tryz.zeroValue114
  t51 := Tryz.underlying51
  a51 := Tryz.isAgg51
  z51 := Tryz.sizeOf51
  v51 := Tryz.zeroValue51
  t53 := Tryz.underlying105
  a53 := Tryz.isAgg105
  z53 := Tryz.sizeOf105
  v53 := Tryz.zeroValue105 }
open Go.RowKit Go.Sort Go.Lib in
theorem Tryz.internal_strconv_formatBase10 (blk off cap : Nat) (u : Nat) (d : Array UInt8) (w : World) (hH : Holds (fun (b : UInt8) => Value.int .u8 (b.toNat : Int)) w blk off d) (hu : u < 10 ^ d.size) (hu64 : u < 18446744073709551616) (hsz : d.size < 4611686018427387904) :
    Calls Tryz.prog 157 #[.slice (some ⟨blk, off, none⟩) d.size cap, .int .u64 u] w fun e w' =>
      e = .returned (.tuple #[]) ∧ ∃ (n v' : Nat) (dk : Array UInt8), w' = (putRow (fun (b : UInt8) => Value.int .u8 (b.toNat : Int)) w blk off dk).drewN n ∧ FmtInv d.size u 0 v' dk := Any.internal_strconv_formatBase10 Tryz.lays285 blk off cap u d w hH hu hu64 hsz
def Tryz.laysM246_ren : Go.Shelf.Ren := ⟨fun | 246 => 152 | 283 => 155 | 284 => 156 | 285 => 157 | 286 => 158 | 129 => 160 | 317 => 159 | 318 => 161 | 319 => 162 | 320 => 163 | 337 => 164 | 338 => 165 | n => n, fun | 2 => 2 | 3 => 3 | 9 => 9 | 4 => 4 | 171 => 192 | 0 => 0 | 53 => 105 | 37 => 114 | 5 => 5 | 173 => 195 | 212 => 197 | 51 => 51 | 20 => 20 | 213 => 198 | 46 => 152 | 232 => 201 | 233 => 202 | n => n, fun | 17 => 14 | 18 => 15 | 19 => 16 | n => n⟩
theorem Tryz.laysM246 : Go.Proofs.LaysM.n246 Tryz.prog Tryz.laysM246_ren := {
  mixed := by kernel_rfl
  f129 := Tryz.func160.trans (congrArg some (by kernel_rfl))
  f246 := Tryz.func152.trans (congrArg some (by kernel_rfl))
  f283 := Tryz.func155.trans (congrArg some (by kernel_rfl))
  f284 := Tryz.func156.trans (congrArg some (by kernel_rfl))
  f285 := Tryz.func157.trans (congrArg some (by kernel_rfl))
  f286 := Tryz.func158.trans (congrArg some (by kernel_rfl))
  f317 := Tryz.func159.trans (congrArg some (by kernel_rfl))
  f318 := Tryz.func161.trans (congrArg some (by kernel_rfl))
  f319 := Tryz.func162.trans (congrArg some (by kernel_rfl))
  f320 := Tryz.func163.trans (congrArg some (by kernel_rfl))
  f337 := Tryz.func164.trans (congrArg some (by kernel_rfl))
  f338 := Tryz.func165.trans (congrArg some (by kernel_rfl))
  t0 := Tryz.underlying0
  a0 := Tryz.isAgg0
  z0 := Tryz.sizeOf0
  v0 := Tryz.zeroValue0
  t2 := Tryz.underlying2
  a2 := Tryz.isAgg2
  z2 := Tryz.sizeOf2
  v2 := Tryz.zeroValue2
  t3 := Tryz.underlying3
  a3 := Tryz.isAgg3
  z3 := Tryz.sizeOf3
  v3 := Tryz.zeroValue3
  t4 := Tryz.underlying4
  a4 := Tryz.isAgg4
  z4 := Tryz.sizeOf4
  v4 := Tryz.zeroValue4
  t5 := Tryz.underlying5
  a5 := Tryz.isAgg5
  z5 := Tryz.sizeOf5
  v5 := Tryz.zeroValue5
  t9 := Tryz.underlying9
  a9 := Tryz.isAgg9
  z9 := Tryz.sizeOf9
  v9 := Tryz.zeroValue9
  t20 := Tryz.underlying20
  a20 := Tryz.isAgg20
  z20 := Tryz.sizeOf20
  v20 := Tryz.zeroValue20
  t37 := Tryz.underlying114
  a37 := Tryz.isAgg114
  z37 := Tryz.sizeOf114
  v37 := Tryz.zeroValue114
  t46 := Tryz.underlying152
  a46 := Tryz.isAgg152
  z46 := Tryz.sizeOf152
  v46 := Tryz.zeroValue152
  t51 := Tryz.underlying51
  a51 := Tryz.isAgg51
  z51 := Tryz.sizeOf51
  v51 := Tryz.zeroValue51
  t53 := Tryz.underlying105
  a53 := Tryz.isAgg105
  z53 := Tryz.sizeOf105
  v53 := Tryz.zeroValue105
  t171 := Tryz.underlying192
  a171 := Tryz.isAgg192
  z171 := Tryz.sizeOf192
  v171 := Tryz.zeroValue192
  t173 := Tryz.underlying195
  a173 := Tryz.isAgg195
  z173 := Tryz.sizeOf195
  v173 := Tryz.zeroValue195
  t212 := Tryz.underlying197
  a212 := Tryz.isAgg197
  z212 := Tryz.sizeOf197
  v212 := Tryz.zeroValue197
  t213 := Tryz.underlying198
  a213 := Tryz.isAgg198
  z213 := Tryz.sizeOf198
  t232 := Tryz.underlying201
  a232 := Tryz.isAgg201
  z232 := Tryz.sizeOf201
  v232 := Tryz.zeroValue201
  t233 := Tryz.underlying202
  a233 := Tryz.isAgg202
  z233 := Tryz.sizeOf202
  v233 := Tryz.zeroValue202
  g17 := by kernel_rfl
  g18 := by kernel_rfl
  g19 := by kernel_rfl
  i0 := by kernel_rfl
  i2 := by kernel_rfl
  i3 := by kernel_rfl
  i4 := by kernel_rfl
  i5 := by kernel_rfl
  i9 := by kernel_rfl
  i20 := by kernel_rfl
  i37 := by kernel_rfl
  i46 := by kernel_rfl
  i51 := by kernel_rfl
  i53 := by kernel_rfl
  i171 := by kernel_rfl
  i173 := by kernel_rfl
  i212 := by kernel_rfl
  i232 := by kernel_rfl
  i233 := by kernel_rfl
  m17 := by kernel_rfl
  m18 := by kernel_rfl
  m19 := by kernel_rfl }
open Go.RowKit Go.Sort Go.Lib in
theorem Tryz.internal_strconv_FormatInt_10 (n : Int) (h0 : -9223372036854775808 ≤ n) (h1 : n ≤ 9223372036854775807) (w : World) (htab : Lib.TabIs Tryz.prog w "internal/strconv.uint64pow10" .u64 Lib.pow10Tab) :
    Calls Tryz.prog 152 #[.int .i64 n, .int .i64 10] w fun e w' => e = .returned (.string ⟨(Lib.itoa n).toArray⟩) ∧ ∃ k os, w' = grow (w.drewN k) os := Any.internal_strconv_FormatInt_10 Tryz.laysM246 n h0 h1 w htab
def Tryz.lays246_ren : Go.Shelf.Ren := ⟨fun | 246 => 152 | 283 => 155 | 284 => 156 | 285 => 157 | 286 => 158 | 129 => 160 | 317 => 159 | 318 => 161 | 319 => 162 | 320 => 163 | 337 => 164 | 338 => 165 | n => n, fun | 2 => 2 | 3 => 3 | 9 => 9 | 4 => 4 | 171 => 192 | 0 => 0 | 53 => 105 | 37 => 114 | 5 => 5 | 173 => 195 | 212 => 197 | 51 => 51 | 20 => 20 | 213 => 198 | 46 => 152 | 232 => 201 | 233 => 202 | n => n, fun | 17 => 14 | 18 => 15 | 19 => 16 | n => n⟩
theorem Tryz.lays246 : Go.Proofs.Lays.n246 Tryz.prog Tryz.lays246_ren := {
  mixed := by kernel_rfl
  f129 := Tryz.func160.trans (congrArg some (by kernel_rfl))
  f246 := Tryz.func152.trans (congrArg some (by kernel_rfl))
  f283 := Tryz.func155.trans (congrArg some (by kernel_rfl))
  f284 := Tryz.func156.trans (congrArg some (by kernel_rfl))
  f285 := Tryz.func157.trans (congrArg some (by kernel_rfl))
  f286 := Tryz.func158.trans (congrArg some (by kernel_rfl))
  f317 := Tryz.func159.trans (congrArg some (by kernel_rfl))
  f318 := Tryz.func161.trans (congrArg some (by kernel_rfl))
  f319 := Tryz.func162.trans (congrArg some (by kernel_rfl))
  f320 := Tryz.func163.trans (congrArg some (by kernel_rfl))
  f337 := Tryz.func164.trans (congrArg some (by kernel_rfl))
  f338 := Tryz.func165.trans (congrArg some (by kernel_rfl))
  t0 := Tryz.underlying0
  a0 := Tryz.isAgg0
  z0 := Tryz.sizeOf0
  v0 := Tryz.zeroValue0
  t2 := Tryz.underlying2
  a2 := Tryz.isAgg2
  z2 := Tryz.sizeOf2
  v2 := Tryz.zeroValue2
  t3 := Tryz.underlying3
  a3 := Tryz.isAgg3
  z3 := Tryz.sizeOf3
  v3 := Tryz.zeroValue3
  t4 := Tryz.underlying4
  a4 := Tryz.isAgg4
  z4 := Tryz.sizeOf4
  v4 := Tryz.zeroValue4
  t5 := Tryz.underlying5
  a5 := Tryz.isAgg5
  z5 := Tryz.sizeOf5
  v5 := Tryz.zeroValue5
  t9 := Tryz.underlying9
  a9 := Tryz.isAgg9
  z9 := Tryz.sizeOf9
  v9 := Tryz.zeroValue9
  t20 := Tryz.underlying20
  a20 := Tryz.isAgg20
  z20 := Tryz.sizeOf20
  v20 := Tryz.zeroValue20
  t37 := Tryz.underlying114
  a37 := Tryz.isAgg114
  z37 := Tryz.sizeOf114
  v37 := Tryz.zeroValue114
  t46 := Tryz.underlying152
  a46 := Tryz.isAgg152
  z46 := Tryz.sizeOf152
  v46 := Tryz.zeroValue152
  t51 := Tryz.underlying51
  a51 := Tryz.isAgg51
  z51 := Tryz.sizeOf51
  v51 := Tryz.zeroValue51
  t53 := Tryz.underlying105
  a53 := Tryz.isAgg105
  z53 := Tryz.sizeOf105
  v53 := Tryz.zeroValue105
  t171 := Tryz.underlying192
  a171 := Tryz.isAgg192
  z171 := Tryz.sizeOf192
  v171 := Tryz.zeroValue192
  t173 := Tryz.underlying195
  a173 := Tryz.isAgg195
  z173 := Tryz.sizeOf195
  v173 := Tryz.zeroValue195
  t212 := Tryz.underlying197
  a212 := Tryz.isAgg197
  z212 := Tryz.sizeOf197
  v212 := Tryz.zeroValue197
  t213 := Tryz.underlying198
  a213 := Tryz.isAgg198
  z213 := Tryz.sizeOf198
  t232 := Tryz.underlying201
  a232 := Tryz.isAgg201
  z232 := Tryz.sizeOf201
  v232 := Tryz.zeroValue201
  t233 := Tryz.underlying202
  a233 := Tryz.isAgg202
  z233 := Tryz.sizeOf202
  v233 := Tryz.zeroValue202
  g17 := by kernel_rfl
  g18 := by kernel_rfl
  g19 := by kernel_rfl }
open Go.RowKit Go.Sort Go.Lib in
theorem Tryz.internal_strconv_FormatInt_10_small (i : Nat) (hi : i < 100) (w : World) :
    Calls Tryz.prog 152 #[.int .i64 i, .int .i64 10] w fun e w' => e = .returned (.string ⟨(Lib.decDigits i).toArray⟩) ∧ w' = w := Any.internal_strconv_FormatInt_10_small Tryz.lays246 i hi w
def Tryz.laysM243_ren : Go.Shelf.Ren := ⟨fun | 243 => 133 | 246 => 152 | 283 => 155 | 284 => 156 | 285 => 157 | 286 => 158 | 129 => 160 | 317 => 159 | 318 => 161 | 319 => 162 | 320 => 163 | 337 => 164 | 338 => 165 | n => n, fun | 3 => 3 | 9 => 9 | 2 => 2 | 4 => 4 | 171 => 192 | 0 => 0 | 53 => 105 | 37 => 114 | 5 => 5 | 173 => 195 | 212 => 197 | 51 => 51 | 20 => 20 | 213 => 198 | 46 => 152 | 232 => 201 | 233 => 202 | n => n, fun | 17 => 14 | 18 => 15 | 19 => 16 | n => n⟩
theorem Tryz.laysM243 : Go.Proofs.LaysM.n243 Tryz.prog Tryz.laysM243_ren := {
  mixed := by kernel_rfl
  f129 := Tryz.func160.trans (congrArg some (by kernel_rfl))
  f243 := Tryz.func133.trans (congrArg some (by kernel_rfl))
  f246 := Tryz.func152.trans (congrArg some (by kernel_rfl))
  f283 := Tryz.func155.trans (congrArg some (by kernel_rfl))
  f284 := Tryz.func156.trans (congrArg some (by kernel_rfl))
  f285 := Tryz.func157.trans (congrArg some (by kernel_rfl))
  f286 := Tryz.func158.trans (congrArg some (by kernel_rfl))
  f317 := Tryz.func159.trans (congrArg some (by kernel_rfl))
  f318 := Tryz.func161.trans (congrArg some (by kernel_rfl))
  f319 := Tryz.func162.trans (congrArg some (by kernel_rfl))
  f320 := Tryz.func163.trans (congrArg some (by kernel_rfl))
  f337 := Tryz.func164.trans (congrArg some (by kernel_rfl))
  f338 := Tryz.func165.trans (congrArg some (by kernel_rfl))
  t0 := Tryz.underlying0
  a0 := Tryz.isAgg0
  z0 := Tryz.sizeOf0
  v0 := Tryz.zeroValue0
  t2 := Tryz.underlying2
  a2 := Tryz.isAgg2
  z2 := Tryz.sizeOf2
  v2 := Tryz.zeroValue2
  t3 := Tryz.underlying3
  a3 := Tryz.isAgg3
  z3 := Tryz.sizeOf3
  v3 := Tryz.zeroValue3
  t4 := Tryz.underlying4
  a4 := Tryz.isAgg4
  z4 := Tryz.sizeOf4
  v4 := Tryz.zeroValue4
  t5 := Tryz.underlying5
  a5 := Tryz.isAgg5
  z5 := Tryz.sizeOf5
  v5 := Tryz.zeroValue5
  t9 := Tryz.underlying9
  a9 := Tryz.isAgg9
  z9 := Tryz.sizeOf9
  v9 := Tryz.zeroValue9
  t20 := Tryz.underlying20
  a20 := Tryz.isAgg20
  z20 := Tryz.sizeOf20
  v20 := Tryz.zeroValue20
  t37 := Tryz.underlying114
  a37 := Tryz.isAgg114
  z37 := Tryz.sizeOf114
  v37 := Tryz.zeroValue114
  t46 := Tryz.underlying152
  a46 := Tryz.isAgg152
  z46 := Tryz.sizeOf152
  v46 := Tryz.zeroValue152
  t51 := Tryz.underlying51
  a51 := Tryz.isAgg51
  z51 := Tryz.sizeOf51
  v51 := Tryz.zeroValue51
  t53 := Tryz.underlying105
  a53 := Tryz.isAgg105
  z53 := Tryz.sizeOf105
  v53 := Tryz.zeroValue105
  t171 := Tryz.underlying192
  a171 := Tryz.isAgg192
  z171 := Tryz.sizeOf192
  v171 := Tryz.zeroValue192
  t173 := Tryz.underlying195
  a173 := Tryz.isAgg195
  z173 := Tryz.sizeOf195
  v173 := Tryz.zeroValue195
  t212 := Tryz.underlying197
  a212 := Tryz.isAgg197
  z212 := Tryz.sizeOf197
  v212 := Tryz.zeroValue197
  t213 := Tryz.underlying198
  a213 := Tryz.isAgg198
  z213 := Tryz.sizeOf198
  t232 := Tryz.underlying201
  a232 := Tryz.isAgg201
  z232 := Tryz.sizeOf201
  v232 := Tryz.zeroValue201
  t233 := Tryz.underlying202
  a233 := Tryz.isAgg202
  z233 := Tryz.sizeOf202
  v233 := Tryz.zeroValue202
  g17 := by kernel_rfl
  g18 := by kernel_rfl
  g19 := by kernel_rfl
  i0 := by kernel_rfl
  i2 := by kernel_rfl
  i3 := by kernel_rfl
  i4 := by kernel_rfl
  i5 := by kernel_rfl
  i9 := by kernel_rfl
  i20 := by kernel_rfl
  i37 := by kernel_rfl
  i46 := by kernel_rfl
  i51 := by kernel_rfl
  i53 := by kernel_rfl
  i171 := by kernel_rfl
  i173 := by kernel_rfl
  i212 := by kernel_rfl
  i232 := by kernel_rfl
  i233 := by kernel_rfl
  m17 := by kernel_rfl
  m18 := by kernel_rfl
  m19 := by kernel_rfl }
open Go.RowKit Go.Sort Go.Lib in
theorem Tryz.internal_strconv_Itoa (n : Int) (h0 : -9223372036854775808 ≤ n) (h1 : n ≤ 9223372036854775807) (w : World) (htab : Lib.TabIs Tryz.prog w "internal/strconv.uint64pow10" .u64 Lib.pow10Tab) :
    Calls Tryz.prog 133 #[.int .i64 n] w fun e w' => e = .returned (.string ⟨(Lib.itoa n).toArray⟩) ∧ ∃ k os, w' = grow (w.drewN k) os := Any.internal_strconv_Itoa Tryz.laysM243 n h0 h1 w htab
def Tryz.lays243_ren : Go.Shelf.Ren := ⟨fun | 243 => 133 | 246 => 152 | 283 => 155 | 284 => 156 | 285 => 157 | 286 => 158 | 129 => 160 | 317 => 159 | 318 => 161 | 319 => 162 | 320 => 163 | 337 => 164 | 338 => 165 | n => n, fun | 3 => 3 | 9 => 9 | 2 => 2 | 4 => 4 | 171 => 192 | 0 => 0 | 53 => 105 | 37 => 114 | 5 => 5 | 173 => 195 | 212 => 197 | 51 => 51 | 20 => 20 | 213 => 198 | 46 => 152 | 232 => 201 | 233 => 202 | n => n, fun | 17 => 14 | 18 => 15 | 19 => 16 | n => n⟩
theorem Tryz.lays243 : Go.Proofs.Lays.n243 Tryz.prog Tryz.lays243_ren := {
  mixed := by kernel_rfl
  f129 := Tryz.func160.trans (congrArg some (by kernel_rfl))
  f243 := Tryz.func133.trans (congrArg some (by kernel_rfl))
  f246 := Tryz.func152.trans (congrArg some (by kernel_rfl))
  f283 := Tryz.func155.trans (congrArg some (by kernel_rfl))
  f284 := Tryz.func156.trans (congrArg some (by kernel_rfl))
  f285 := Tryz.func157.trans (congrArg some (by kernel_rfl))
  f286 := Tryz.func158.trans (congrArg some (by kernel_rfl))
  f317 := Tryz.func159.trans (congrArg some (by kernel_rfl))
  f318 := Tryz.func161.trans (congrArg some (by kernel_rfl))
  f319 := Tryz.func162.trans (congrArg some (by kernel_rfl))
  f320 := Tryz.func163.trans (congrArg some (by kernel_rfl))
  f337 := Tryz.func164.trans (congrArg some (by kernel_rfl))
  f338 := Tryz.func165.trans (congrArg some (by kernel_rfl))
  t0 := Tryz.underlying0
  a0 := Tryz.isAgg0
  z0 := Tryz.sizeOf0
  v0 := Tryz.zeroValue0
  t2 := Tryz.underlying2
  a2 := Tryz.isAgg2
  z2 := Tryz.sizeOf2
  v2 := Tryz.zeroValue2
  t3 := Tryz.underlying3
  a3 := Tryz.isAgg3
  z3 := Tryz.sizeOf3
  v3 := Tryz.zeroValue3
  t4 := Tryz.underlying4
  a4 := Tryz.isAgg4
  z4 := Tryz.sizeOf4
  v4 := Tryz.zeroValue4
  t5 := Tryz.underlying5
  a5 := Tryz.isAgg5
  z5 := Tryz.sizeOf5
  v5 := Tryz.zeroValue5
  t9 := Tryz.underlying9
  a9 := Tryz.isAgg9
  z9 := Tryz.sizeOf9
  v9 := Tryz.zeroValue9
  t20 := Tryz.underlying20
  a20 := Tryz.isAgg20
  z20 := Tryz.sizeOf20
  v20 := Tryz.zeroValue20
  t37 := Tryz.underlying114
  a37 := Tryz.isAgg114
  z37 := Tryz.sizeOf114
  v37 := Tryz.zeroValue114
  t46 := Tryz.underlying152
  a46 := Tryz.isAgg152
  z46 := Tryz.sizeOf152
  v46 := Tryz.zeroValue152
  t51 := Tryz.underlying51
  a51 := Tryz.isAgg51
  z51 := Tryz.sizeOf51
  v51 := Tryz.zeroValue51
  t53 := Tryz.underlying105
  a53 := Tryz.isAgg105
  z53 := Tryz.sizeOf105
  v53 := Tryz.zeroValue105
  t171 := Tryz.underlying192
  a171 := Tryz.isAgg192
  z171 := Tryz.sizeOf192
  v171 := Tryz.zeroValue192
  t173 := Tryz.underlying195
  a173 := Tryz.isAgg195
  z173 := Tryz.sizeOf195
  v173 := Tryz.zeroValue195
  t212 := Tryz.underlying197
  a212 := Tryz.isAgg197
  z212 := Tryz.sizeOf197
  v212 := Tryz.zeroValue197
  t213 := Tryz.underlying198
  a213 := Tryz.isAgg198
  z213 := Tryz.sizeOf198
  t232 := Tryz.underlying201
  a232 := Tryz.isAgg201
  z232 := Tryz.sizeOf201
  v232 := Tryz.zeroValue201
  t233 := Tryz.underlying202
  a233 := Tryz.isAgg202
  z233 := Tryz.sizeOf202
  v233 := Tryz.zeroValue202
  g17 := by kernel_rfl
  g18 := by kernel_rfl
  g19 := by kernel_rfl }
open Go.RowKit Go.Sort Go.Lib in
theorem Tryz.internal_strconv_Itoa_small (i : Nat) (hi : i < 100) (w : World) :
    Calls Tryz.prog 133 #[.int .i64 i] w fun e w' => e = .returned (.string ⟨(Lib.decDigits i).toArray⟩) ∧ w' = w := Any.internal_strconv_Itoa_small Tryz.lays243 i hi w
def Tryz.laysM171_ren : Go.Shelf.Ren := ⟨fun | 171 => 95 | 243 => 133 | 246 => 152 | 283 => 155 | 284 => 156 | 285 => 157 | 286 => 158 | 129 => 160 | 317 => 159 | 318 => 161 | 319 => 162 | 320 => 163 | 337 => 164 | 338 => 165 | n => n, fun | 3 => 3 | 9 => 9 | 2 => 2 | 4 => 4 | 171 => 192 | 0 => 0 | 53 => 105 | 37 => 114 | 5 => 5 | 173 => 195 | 212 => 197 | 51 => 51 | 20 => 20 | 213 => 198 | 46 => 152 | 232 => 201 | 233 => 202 | n => n, fun | 17 => 14 | 18 => 15 | 19 => 16 | n => n⟩
theorem Tryz.laysM171 : Go.Proofs.LaysM.n171 Tryz.prog Tryz.laysM171_ren := {
  mixed := by kernel_rfl
  f129 := Tryz.func160.trans (congrArg some (by kernel_rfl))
  f171 := Tryz.func95.trans (congrArg some (by kernel_rfl))
  f243 := Tryz.func133.trans (congrArg some (by kernel_rfl))
  f246 := Tryz.func152.trans (congrArg some (by kernel_rfl))
  f283 := Tryz.func155.trans (congrArg some (by kernel_rfl))
  f284 := Tryz.func156.trans (congrArg some (by kernel_rfl))
  f285 := Tryz.func157.trans (congrArg some (by kernel_rfl))
  f286 := Tryz.func158.trans (congrArg some (by kernel_rfl))
  f317 := Tryz.func159.trans (congrArg some (by kernel_rfl))
  f318 := Tryz.func161.trans (congrArg some (by kernel_rfl))
  f319 := Tryz.func162.trans (congrArg some (by kernel_rfl))
  f320 := Tryz.func163.trans (congrArg some (by kernel_rfl))
  f337 := Tryz.func164.trans (congrArg some (by kernel_rfl))
  f338 := Tryz.func165.trans (congrArg some (by kernel_rfl))
  t0 := Tryz.underlying0
  a0 := Tryz.isAgg0
  z0 := Tryz.sizeOf0
  v0 := Tryz.zeroValue0
  t2 := Tryz.underlying2
  a2 := Tryz.isAgg2
  z2 := Tryz.sizeOf2
  v2 := Tryz.zeroValue2
  t3 := Tryz.underlying3
  a3 := Tryz.isAgg3
  z3 := Tryz.sizeOf3
  v3 := Tryz.zeroValue3
  t4 := Tryz.underlying4
  a4 := Tryz.isAgg4
  z4 := Tryz.sizeOf4
  v4 := Tryz.zeroValue4
  t5 := Tryz.underlying5
  a5 := Tryz.isAgg5
  z5 := Tryz.sizeOf5
  v5 := Tryz.zeroValue5
  t9 := Tryz.underlying9
  a9 := Tryz.isAgg9
  z9 := Tryz.sizeOf9
  v9 := Tryz.zeroValue9
  t20 := Tryz.underlying20
  a20 := Tryz.isAgg20
  z20 := Tryz.sizeOf20
  v20 := Tryz.zeroValue20
  t37 := Tryz.underlying114
  a37 := Tryz.isAgg114
  z37 := Tryz.sizeOf114
  v37 := Tryz.zeroValue114
  t46 := Tryz.underlying152
  a46 := Tryz.isAgg152
  z46 := Tryz.sizeOf152
  v46 := Tryz.zeroValue152
  t51 := Tryz.underlying51
  a51 := Tryz.isAgg51
  z51 := Tryz.sizeOf51
  v51 := Tryz.zeroValue51
  t53 := Tryz.underlying105
  a53 := Tryz.isAgg105
  z53 := Tryz.sizeOf105
  v53 := Tryz.zeroValue105
  t171 := Tryz.underlying192
  a171 := Tryz.isAgg192
  z171 := Tryz.sizeOf192
  v171 := Tryz.zeroValue192
  t173 := Tryz.underlying195
  a173 := Tryz.isAgg195
  z173 := Tryz.sizeOf195
  v173 := Tryz.zeroValue195
  t212 := Tryz.underlying197
  a212 := Tryz.isAgg197
  z212 := Tryz.sizeOf197
  v212 := Tryz.zeroValue197
  t213 := Tryz.underlying198
  a213 := Tryz.isAgg198
  z213 := Tryz.sizeOf198
  t232 := Tryz.underlying201
  a232 := Tryz.isAgg201
  z232 := Tryz.sizeOf201
  v232 := Tryz.zeroValue201
  t233 := Tryz.underlying202
  a233 := Tryz.isAgg202
  z233 := Tryz.sizeOf202
  v233 := Tryz.zeroValue202
  g17 := by kernel_rfl
  g18 := by kernel_rfl
  g19 := by kernel_rfl
  i0 := by kernel_rfl
  i2 := by kernel_rfl
  i3 := by kernel_rfl
  i4 := by kernel_rfl
  i5 := by kernel_rfl
  i9 := by kernel_rfl
  i20 := by kernel_rfl
  i37 := by kernel_rfl
  i46 := by kernel_rfl
  i51 := by kernel_rfl
  i53 := by kernel_rfl
  i171 := by kernel_rfl
  i173 := by kernel_rfl
  i212 := by kernel_rfl
  i232 := by kernel_rfl
  i233 := by kernel_rfl
  m17 := by kernel_rfl
  m18 := by kernel_rfl
  m19 := by kernel_rfl }
open Go.RowKit Go.Sort Go.Lib in
theorem Tryz.strconv_Itoa (n : Int) (h0 : -9223372036854775808 ≤ n) (h1 : n ≤ 9223372036854775807) (w : World) (htab : Lib.TabIs Tryz.prog w "internal/strconv.uint64pow10" .u64 Lib.pow10Tab) :
    Calls Tryz.prog 95 #[.int .i64 n] w fun e w' => e = .returned (.string ⟨(Lib.itoa n).toArray⟩) ∧ ∃ k os, w' = grow (w.drewN k) os := Any.strconv_Itoa Tryz.laysM171 n h0 h1 w htab
def Tryz.lays171_ren : Go.Shelf.Ren := ⟨fun | 171 => 95 | 243 => 133 | 246 => 152 | 283 => 155 | 284 => 156 | 285 => 157 | 286 => 158 | 129 => 160 | 317 => 159 | 318 => 161 | 319 => 162 | 320 => 163 | 337 => 164 | 338 => 165 | n => n, fun | 3 => 3 | 9 => 9 | 2 => 2 | 4 => 4 | 171 => 192 | 0 => 0 | 53 => 105 | 37 => 114 | 5 => 5 | 173 => 195 | 212 => 197 | 51 => 51 | 20 => 20 | 213 => 198 | 46 => 152 | 232 => 201 | 233 => 202 | n => n, fun | 17 => 14 | 18 => 15 | 19 => 16 | n => n⟩
theorem Tryz.lays171 : Go.Proofs.Lays.n171 Tryz.prog Tryz.lays171_ren := {
  mixed := by kernel_rfl
  f129 := Tryz.func160.trans (congrArg some (by kernel_rfl))
  f171 := Tryz.func95.trans (congrArg some (by kernel_rfl))
  f243 := Tryz.func133.trans (congrArg some (by kernel_rfl))
  f246 := Tryz.func152.trans (congrArg some (by kernel_rfl))
  f283 := Tryz.func155.trans (congrArg some (by kernel_rfl))
  f284 := Tryz.func156.trans (congrArg some (by kernel_rfl))
  f285 := Tryz.func157.trans (congrArg some (by kernel_rfl))
  f286 := Tryz.func158.trans (congrArg some (by kernel_rfl))
  f317 := Tryz.func159.trans (congrArg some (by kernel_rfl))
  f318 := Tryz.func161.trans (congrArg some (by kernel_rfl))
  f319 := Tryz.func162.trans (congrArg some (by kernel_rfl))
  f320 := Tryz.func163.trans (congrArg some (by kernel_rfl))
  f337 := Tryz.func164.trans (congrArg some (by kernel_rfl))
  f338 := Tryz.func165.trans (congrArg some (by kernel_rfl))
  t0 := Tryz.underlying0
  a0 := Tryz.isAgg0
  z0 := Tryz.sizeOf0
  v0 := Tryz.zeroValue0
  t2 := Tryz.underlying2
  a2 := Tryz.isAgg2
  z2 := Tryz.sizeOf2
  v2 := Tryz.zeroValue2
  t3 := Tryz.underlying3
  a3 := Tryz.isAgg3
  z3 := Tryz.sizeOf3
  v3 := Tryz.zeroValue3
  t4 := Tryz.underlying4
  a4 := Tryz.isAgg4
  z4 := Tryz.sizeOf4
  v4 := Tryz.zeroValue4
  t5 := Tryz.underlying5
  a5 := Tryz.isAgg5
  z5 := Tryz.sizeOf5
  v5 := Tryz.zeroValue5
  t9 := Tryz.underlying9
  a9 := Tryz.isAgg9
  z9 := Tryz.sizeOf9
  v9 := Tryz.zeroValue9
  t20 := Tryz.underlying20
  a20 := Tryz.isAgg20
  z20 := Tryz.sizeOf20
  v20 := Tryz.zeroValue20
  t37 := Tryz.underlying114
  a37 := Tryz.isAgg114
  z37 := Tryz.sizeOf114
  v37 := Tryz.zeroValue114
  t46 := Tryz.underlying152
  a46 := Tryz.isAgg152
  z46 := Tryz.sizeOf152
  v46 := Tryz.zeroValue152
  t51 := Tryz.underlying51
  a51 := Tryz.isAgg51
  z51 := Tryz.sizeOf51
  v51 := Tryz.zeroValue51
  t53 := Tryz.underlying105
  a53 := Tryz.isAgg105
  z53 := Tryz.sizeOf105
  v53 := Tryz.zeroValue105
  t171 := Tryz.underlying192
  a171 := Tryz.isAgg192
  z171 := Tryz.sizeOf192
  v171 := Tryz.zeroValue192
  t173 := Tryz.underlying195
  a173 := Tryz.isAgg195
  z173 := Tryz.sizeOf195
  v173 := Tryz.zeroValue195
  t212 := Tryz.underlying197
  a212 := Tryz.isAgg197
  z212 := Tryz.sizeOf197
  v212 := Tryz.zeroValue197
  t213 := Tryz.underlying198
  a213 := Tryz.isAgg198
  z213 := Tryz.sizeOf198
  t232 := Tryz.underlying201
  a232 := Tryz.isAgg201
  z232 := Tryz.sizeOf201
  v232 := Tryz.zeroValue201
  t233 := Tryz.underlying202
  a233 := Tryz.isAgg202
  z233 := Tryz.sizeOf202
  v233 := Tryz.zeroValue202
  g17 := by kernel_rfl
  g18 := by kernel_rfl
  g19 := by kernel_rfl }
open Go.RowKit Go.Sort Go.Lib in
theorem Tryz.strconv_Itoa_small (i : Nat) (hi : i < 100) (w : World) :
    Calls Tryz.prog 95 #[.int .i64 i] w fun e w' => e = .returned (.string ⟨(Lib.decDigits i).toArray⟩) ∧ w' = w := Any.strconv_Itoa_small Tryz.lays171 i hi w
def Tryz.lays264_ren : Go.Shelf.Ren := ⟨fun | 264 => 150 | n => n, fun | 53 => 105 | 46 => 152 | n => n, fun | n => n⟩
theorem Tryz.lays264 : Go.Proofs.Lays.n264 Tryz.prog Tryz.lays264_ren := {
  mixed := by kernel_rfl
  f264 := Tryz.func150.trans (congrArg some (by kernel_rfl))
  t46 := Tryz.underlying152
  a46 := Tryz.isAgg152
  z46 := Tryz.sizeOf152
  v46 := Tryz.zeroValue152
  t53 := Tryz.underlying105
  a53 := Tryz.isAgg105
  z53 := Tryz.sizeOf105
  v53 := Tryz.zeroValue105 }
open Go.RowKit Go.Lib in
theorem Tryz.bits_Mul64 (x y : Nat) (hx : x < 18446744073709551616) (hy : y < 18446744073709551616) (w : World) :
    Calls Tryz.prog 150 #[.int .u64 x, .int .u64 y] w fun e w' => e = .returned (.tuple #[.int .u64 ((x * y / 18446744073709551616 : Nat) : Int), .int .u64 ((x * y % 18446744073709551616 : Nat) : Int)]) ∧ w' = w := Any.bits_Mul64 Tryz.lays264 x y hx hy w
def Tryz.lays212_ren : Go.Shelf.Ren := ⟨fun | 212 => 128 | 263 => 149 | 264 => 150 | n => n, fun | 46 => 152 | 51 => 51 | 146 => 186 | 53 => 105 | 148 => 189 | n => n, fun | n => n⟩
theorem Tryz.lays212 : Go.Proofs.Lays.n212 Tryz.prog Tryz.lays212_ren := {
  mixed := by kernel_rfl
  f212 := Tryz.func128.trans (congrArg some (by kernel_rfl))
  f263 := Tryz.func149.trans (congrArg some (by kernel_rfl))
  f264 := Tryz.func150.trans (congrArg some (by kernel_rfl))
  t46 := Tryz.underlying152
  a46 := Tryz.isAgg152
  z46 := Tryz.sizeOf152
  v46 := Tryz.zeroValue152
  t51 := Tryz.underlying51
  a51 := Tryz.isAgg51
  z51 := Tryz.sizeOf51
  v51 := Tryz.zeroValue51
  t53 := Tryz.underlying105
  a53 := Tryz.isAgg105
  z53 := Tryz.sizeOf105
  v53 := Tryz.zeroValue105
  t146 := Tryz.underlying186
  a146 := Tryz.isAgg186
  z146 := Tryz.sizeOf186
  v146 := Tryz.zeroValue186
  t148 := Tryz.underlying189
  a148 := Tryz.isAgg189
  z148 := Tryz.sizeOf189
  v148 := Tryz.zeroValue189 }
open Go.RowKit Go.Lib in
theorem Tryz.bits_Mul (x y : Nat) (hx : x < 18446744073709551616) (hy : y < 18446744073709551616) (w : World) :
    Calls Tryz.prog 128 #[.int .u64 x, .int .u64 y] w fun e w' => e = .returned (.tuple #[.int .u64 ((x * y / 18446744073709551616 : Nat) : Int), .int .u64 ((x * y % 18446744073709551616 : Nat) : Int)]) ∧ w' = w := Any.bits_Mul Tryz.lays212 x y hx hy w
def Tryz.lays108_ren : Go.Shelf.Ren := ⟨fun | 108 => 138 | n => n, fun | 28 => 24 | 3 => 3 | 0 => 0 | 4 => 4 | n => n, fun | n => n⟩
theorem Tryz.lays108 : Go.Proofs.Lays.n108 Tryz.prog Tryz.lays108_ren := {
  mixed := by kernel_rfl
  f108 := Tryz.func138.trans (congrArg some (by kernel_rfl))
  t0 := Tryz.underlying0
  a0 := Tryz.isAgg0
  z0 := Tryz.sizeOf0
  v0 := Tryz.zeroValue0
  t3 := Tryz.underlying3
  a3 := Tryz.isAgg3
  z3 := Tryz.sizeOf3
  v3 := Tryz.zeroValue3
  t4 := Tryz.underlying4
  a4 := Tryz.isAgg4
  z4 := Tryz.sizeOf4
  v4 := Tryz.zeroValue4
  t28 := Tryz.underlying24
  a28 := Tryz.isAgg24
  z28 := Tryz.sizeOf24
  v28 := Tryz.zeroValue24 }
open Go.Lib in
theorem Tryz.slices_Index_int (b off n c : Nat) (zs : List Int) (x : Int) (w : World) (hz : n ≤ zs.length) (hbig : n ≤ 9223372036854775807) (hc : ∀ j, j < zs.length → w.cell? ⟨b, off + j, none⟩ = some (.int .i64 (zs.getD j 0))) :
    Calls Tryz.prog 138 #[.slice (some ⟨b, off, none⟩) n c, .int .i64 x] w fun e w' => e = .returned (.int .i64 (Lib.idxOf (zs.take n) x)) ∧ w' = w := Any.slices_Index_int Tryz.lays108 b off n c zs x w hz hbig hc
open Go.Lib in
theorem Tryz.slices_Index_int_empty (a : Option Addr) (c : Nat) (x : Int) (w : World) :
    Calls Tryz.prog 138 #[.slice a 0 c, .int .i64 x] w fun e w' => e = .returned (.int .i64 (Lib.idxOf [] x)) ∧ w' = w := Any.slices_Index_int_empty Tryz.lays108 a c x w
def Tryz.lays112_ren : Go.Shelf.Ren := ⟨fun | 112 => 84 | n => n, fun | 28 => 24 | 3 => 3 | 4 => 4 | 0 => 0 | n => n, fun | n => n⟩
theorem Tryz.lays112 : Go.Proofs.Lays.n112 Tryz.prog Tryz.lays112_ren := {
  mixed := by kernel_rfl
  f112 := Tryz.func84.trans (congrArg some (by kernel_rfl))
  t0 := Tryz.underlying0
  a0 := Tryz.isAgg0
  z0 := Tryz.sizeOf0
  v0 := Tryz.zeroValue0
  t3 := Tryz.underlying3
  a3 := Tryz.isAgg3
  z3 := Tryz.sizeOf3
  v3 := Tryz.zeroValue3
  t4 := Tryz.underlying4
  a4 := Tryz.isAgg4
  z4 := Tryz.sizeOf4
  v4 := Tryz.zeroValue4
  t28 := Tryz.underlying24
  a28 := Tryz.isAgg24
  z28 := Tryz.sizeOf24
  v28 := Tryz.zeroValue24 }
open Go.RowKit Go.Lib Go.Sort in
theorem Tryz.slices_Reverse_int_arr (blk off cap : Nat) (d : Array Int) (w : World) (hH : Holds encI w blk off d) (hsz : d.size ≤ 9223372036854775807) :
    Calls Tryz.prog 84 #[.slice (some ⟨blk, off, none⟩) d.size cap] w fun e w' => e = .returned (.tuple #[]) ∧ ∃ n, w' = putRow encI (Sort.ahead w n) blk off d.reverse := Any.slices_Reverse_int_arr Tryz.lays112 blk off cap d w hH hsz
open Go.RowKit Go.Lib Go.Sort in
theorem Tryz.slices_Reverse_int (blk off cap : Nat) (zs : List Int) (w : World) (hH : Holds (Value.int .i64) w blk off zs.toArray) (hsz : zs.length ≤ 9223372036854775807) :
    Calls Tryz.prog 84 #[.slice (some ⟨blk, off, none⟩) zs.length cap] w fun e w' => e = .returned (.tuple #[]) ∧ ∃ n, w' = putRow (Value.int .i64) (Sort.ahead w n) blk off zs.reverse.toArray := Any.slices_Reverse_int Tryz.lays112 blk off cap zs w hH hsz
open Go.RowKit Go.Lib Go.Sort in
theorem Tryz.slices_Reverse_int_empty (a : Option Addr) (cap : Nat) (w : World) :
    Calls Tryz.prog 84 #[.slice a 0 cap] w fun e w' => e = .returned (.tuple #[]) ∧ w' = w := Any.slices_Reverse_int_empty Tryz.lays112 a cap w
def Tryz.lays111_ren : Go.Shelf.Ren := ⟨fun | 111 => 63 | n => n, fun | 28 => 24 | 3 => 3 | 4 => 4 | 0 => 0 | n => n, fun | n => n⟩
theorem Tryz.lays111 : Go.Proofs.Lays.n111 Tryz.prog Tryz.lays111_ren := {
  mixed := by kernel_rfl
  f111 := Tryz.func63.trans (congrArg some (by kernel_rfl))
  t0 := Tryz.underlying0
  a0 := Tryz.isAgg0
  z0 := Tryz.sizeOf0
  v0 := Tryz.zeroValue0
  t3 := Tryz.underlying3
  a3 := Tryz.isAgg3
  z3 := Tryz.sizeOf3
  v3 := Tryz.zeroValue3
  t4 := Tryz.underlying4
  a4 := Tryz.isAgg4
  z4 := Tryz.sizeOf4
  v4 := Tryz.zeroValue4
  t28 := Tryz.underlying24
  a28 := Tryz.isAgg24
  z28 := Tryz.sizeOf24
  v28 := Tryz.zeroValue24 }
open Go.RowKit Go.Lib in
theorem Tryz.slices_Equal_int (b1 o1 n c b2 o2 m d : Nat) (xs ys : List Int) (w : World) (hx : n ≤ xs.length) (hy : m ≤ ys.length) (hbig : n ≤ 9223372036854775807) (hbig2 : m ≤ 9223372036854775807) (hc1 : ∀ j, j < xs.length → w.cell? ⟨b1, o1 + j, none⟩ = some (.int .i64 (xs.getD j 0))) (hc2 : ∀ j, j < ys.length → w.cell? ⟨b2, o2 + j, none⟩ = some (.int .i64 (ys.getD j 0))) :
    Calls Tryz.prog 63 #[.slice (some ⟨b1, o1, none⟩) n c, .slice (some ⟨b2, o2, none⟩) m d] w fun e w' => e = .returned (.bool (xs.take n == ys.take m)) ∧ ∃ q, w' = w.drewN q := Any.slices_Equal_int Tryz.lays111 b1 o1 n c b2 o2 m d xs ys w hx hy hbig hbig2 hc1 hc2
open Go.RowKit Go.Lib in
theorem Tryz.slices_Equal_int_empty (a1 a2 : Option Addr) (c m d : Nat) (w : World) (hbig2 : m ≤ 9223372036854775807) :
    Calls Tryz.prog 63 #[.slice a1 0 c, .slice a2 m d] w fun e w' => e = .returned (.bool (decide (m = 0))) ∧ w' = w := Any.slices_Equal_int_empty Tryz.lays111 a1 a2 c m d w hbig2
def Tryz.laysNm215_ren : Go.Shelf.Ren := ⟨fun | 15 => 58 | n => n, fun | 22 => 24 | 3 => 3 | 4 => 4 | n => n, fun | n => n⟩
theorem Tryz.laysNm215 : Go.Proofs.Lays2.n15 Tryz.prog Tryz.laysNm215_ren := {
  mixed := by kernel_rfl
  f15 := Tryz.func58.trans (congrArg some (by kernel_rfl))
  t3 := Tryz.underlying3
  a3 := Tryz.isAgg3
  z3 := Tryz.sizeOf3
  v3 := Tryz.zeroValue3
  t4 := Tryz.underlying4
  a4 := Tryz.isAgg4
  z4 := Tryz.sizeOf4
  v4 := Tryz.zeroValue4
  t22 := Tryz.underlying24
  a22 := Tryz.isAgg24
  z22 := Tryz.sizeOf24
  v22 := Tryz.zeroValue24
  i3 := by kernel_rfl }
open Go.RowKit Go.Lib in
theorem Tryz.slices_Clone_int (b off n c : Nat) (zs : List Int) (w : World) (hz : n ≤ zs.length) (hbig : n * 8 ≤ 140737488355328) (hc : ∀ j, j < zs.length → w.cell? ⟨b, off + j, none⟩ = some (.int .i64 (zs.getD j 0))) :
    Calls Tryz.prog 58 #[.slice (some ⟨b, off, none⟩) n c] w fun e w' => ∃ v', e = .returned v' ∧ w'.ownsRow w.heap.size 3 1 v' n ((zs.take n).map (Value.int .i64)) ∧ v' ≠ .slice none 0 0 ∧ Below w.heap.size w w' := Any.slices_Clone_int Tryz.laysNm215 b off n c zs w hz hbig hc
open Go.RowKit Go.Lib in
theorem Tryz.slices_Clone_int_nil (n c : Nat) (w : World) :
    Calls Tryz.prog 58 #[.slice none n c] w fun e w' => e = .returned (.slice none 0 0) ∧ w' = w := Any.slices_Clone_int_nil Tryz.laysNm215 n c w
open Go.RowKit Go.Lib in
theorem Tryz.slices_Clone_int_zero (a : Addr) (c : Nat) (w : World) :
    Calls Tryz.prog 58 #[.slice (some a) 0 c] w fun e w' => ∃ v', e = .returned v' ∧ w'.ownsRow w.heap.size 3 1 v' 0 [] ∧ v' ≠ .slice none 0 0 ∧ Below w.heap.size w w' := Any.slices_Clone_int_zero Tryz.laysNm215 a c w
open Go.RowKit Go.Lib Go.Sort in
theorem Tryz.slices_Reverse_int_cells (b off n c : Nat) (zs : List Int) (w : World) (hz : n ≤ zs.length) (hbig : n ≤ 9223372036854775807) (hc : ∀ j, j < zs.length → w.cell? ⟨b, off + j, none⟩ = some (.int .i64 (zs.getD j 0))) (hf : ∀ j, j < n → w.frozen? ⟨b, off + j, none⟩ = false) :
    Calls Tryz.prog 84 #[.slice (some ⟨b, off, none⟩) n c] w fun e w' => e = .returned (.tuple #[]) ∧ ∃ q, w' = (w.drewN q).setCells b off ((zs.take n).reverse.map (Value.int .i64)) := Any.slices_Reverse_int_cells Tryz.lays112 b off n c zs w hz hbig hc hf
open Go.RowKit Go.Lib in
theorem Tryz.slices_Equal_int_lens (a1 a2 : Option Addr) (n c m d : Nat) (w : World) (hnm : n ≠ m) :
    Calls Tryz.prog 63 #[.slice a1 n c, .slice a2 m d] w fun e w' => e = .returned (.bool false) ∧ w' = w := Any.slices_Equal_int_lens Tryz.lays111 a1 a2 n c m d w hnm
end Go.Proofs
end
