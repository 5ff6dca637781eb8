/- Lists of ints: make, slices.Grow of nil, slices.Concat. -/
import Derived.Test.YthhighljfjeooaaDoorIntB
import Derived.Laws.AppendOwnNone
import Derived.Lib.AppendZerosOnto
import Derived.Lib.Walk
import Derived.Laws.Append
import Derived.Lib.SliceRun
namespace Go.Proofs.YthhighljfjeooaaDoor
open Go.RowKit

theorem madeI_list (v : Value) (n : Nat) : (madeCells #[v] n).toList = List.replicate n v := by
  unfold madeCells
  rw [Array.toList_map, Array.toList_range]
  apply List.ext_getElem
  · simp
  · intro i h1 h2
    simp [Nat.mod_one]
theorem makeI (n : Nat) (hn : n ≤ 17592186044000) (w : World) :
    (Instr.makeSlice 40 (.int .i64 (n : Int)) (.int .i64 (n : Int))).run Tryd.prog w = .ok (.slice (some ⟨w.heap.size, 0, none⟩) n n) (w.alloc (.cells (madeCells #[.int .i64 0] n) 3)) := by
  obtain ⟨i0, hi, hz0, hz1, hz2⟩ := info_parts infoI
  have h := run_make (P := Tryd.prog) w 40 3 i0 (.int .i64 0) Tryd.underlying40 hi hz0 .i64 .i64 n n (by omega) (by omega) (by rw [hz2]; omega) (by omega)
  rw [hz1] at h
  simpa [Value.cells] using h
theorem IntO.made (w : World) (n : Nat) (hn : n ≤ 17592186044000) : IntO w.heap.size (w.alloc (.cells (madeCells #[.int .i64 0] n) 3)) (some ⟨w.heap.size, 0, none⟩) n (List.replicate n 0) := by
  refine ⟨by simp [cI], Or.inr ⟨w.heap.size, n, madeCells #[.int .i64 0] n, by rw [List.length_replicate], Nat.le_refl _, heap_newN _ _, by rw [List.length_replicate]; exact Nat.le_refl _, by unfold maxLen; omega, by rw [size_madeCells, Nat.mul_one], ?_⟩⟩
  rw [madeI_list, List.length_replicate, Nat.mul_one, List.take_of_length_le (by simp)]
  simp [cI]

/-- a slice of no element, with room -/
def RoomPost (w : World) (e : Ending) (w' : World) : Prop := ∃ p c, e = .returned (.slice p 0 c) ∧ IntO w.heap.size w' p c [] ∧ Below w.heap.size w w'
set_option maxRecDepth 100000 in
set_option maxHeartbeats 2000000 in
theorem growI_nil (n : Nat) (w : World) (hn : n ≤ 17592186044000) :
    Calls Tryd.prog 93 #[.slice none 0 0, .int .i64 (n : Int)] w (RoomPost w) := by
  obtain ⟨i0, hi, hz0, hz1, hz2⟩ := info_parts infoI
  rcases Nat.eq_zero_or_pos n with rfl | h0
  · show Calls Tryd.prog 93 #[.slice none 0 0, .int .i64 0] w (RoomPost w)
    go_enter Tryd.func93, Tryd.ntmps93
    go_wp2_with fail
    go_ret
    exact ⟨none, 0, rfl, IntO.nothing _ _, Below.refl _ _⟩
  · have hold : (Builtin.firstCells i0.size 0 (.slice none 0 0)).run Tryd.prog w.drew = .ok #[] w.drew := run_firstCells_none (w := w.drew) i0.size 0 0 0
    have hrz : ∀ ty, (Builtin.append_ #[40, 3] ty #[.slice none 0 0, .int .i64 (n : Int)]).run Tryd.prog w = _ := fun ty =>
      Lib.run_append_grow_zeros w 40 3 ty 3 i0 (.int .i64 0) .i64 .i64 Tryd.underlying40 Tryd.underlying3 hi hz0 none 0 0 [] hold n h0 (by rw [hz1]; omega) (by omega) (by omega) (by rw [hz2]; omega)
        (growslice_fits (by omega) (by rw [hz2]; omega))
    have hGn : n ≤ grownCap w (0 + n) 0 3 := by have := grownCap_ge w (0 + n) 0 3; omega
    have hG := grownCap_le_maxLen w (0 + n) 0 3 (by unfold maxLen; omega)
    obtain ⟨G, hGe⟩ : ∃ G, G = grownCap w (0 + n) 0 3 := ⟨_, rfl⟩
    rw [← hGe] at hrz hGn hG
    rw [Nat.zero_add] at hrz
    have hG63 := hG
    unfold maxLen at hG63
    have HG := Lib.hid hG
    have hpos : ¬ ((n : Int) < 0) := by omega
    have hpos2 : (0 : Int) < (n : Int) := by omega
    clear hold hGe hG
    go_enter Tryd.func93, Tryd.ntmps93
    go_wp2_with (at_builtin; refine Lib.wpList_append_run _ rfl _ _ _ _ rfl _ _ rfl rfl _ _ (hrz _) ?_)
    go_ret
    refine ⟨_, _, rfl, ⟨by simp [cI], Or.inr ⟨w.heap.size, G, _, rfl, Nat.le_refl _, heap_newN _ _, Nat.zero_le _, HG.out, ?_, by simp [cI]⟩⟩, (Below.refl _ _).drew.alloc (by simp) _⟩
    simp [Builtin.zeroCells]
    omega

/-! ### several lists -/
abbrev Sl := Option Addr × Nat × List Int
def Sl.val (x : Sl) : Value := .slice x.1 x.2.2.length x.2.1
/-- A slice of slices of ints below B: it reads L, and each of them reads. -/
structure SlsV (B : Nat) (w : World) (p : Option Addr) (c : Nat) (L : List Sl) : Prop where
  le : L.length ≤ c
  cap : c ≤ maxLen
  each : ∀ x : Sl, x ∈ L → IntV B w x.1 x.2.1 x.2.2
  cell : L ≠ [] → ∃ b off, p = some ⟨b, off, none⟩ ∧ b < B ∧ ∀ (j : Nat) (x : Sl), L[j]? = some x → w.cell? ⟨b, off + j, none⟩ = some x.val
theorem SlsV.below {B : Nat} {w w' : World} {p : Option Addr} {c : Nat} {L : List Sl} (hb : Below B w w') (h : SlsV B w p c L) : SlsV B w' p c L :=
  ⟨h.le, h.cap, fun x hx => (h.each x hx).below hb, fun hn => by
    obtain ⟨b, off, hp, hlt, hc⟩ := h.cell hn
    exact ⟨b, off, hp, hlt, fun j x hx => (hb.cell (p := ⟨b, off + j, none⟩) hlt).trans (hc j x hx)⟩⟩
theorem SlsV.mono {B B' : Nat} {w : World} {p : Option Addr} {c : Nat} {L : List Sl} (hB : B ≤ B') (h : SlsV B w p c L) : SlsV B' w p c L :=
  ⟨h.le, h.cap, fun x hx => (h.each x hx).mono hB, fun hn => by
    obtain ⟨b, off, hp, hlt, hc⟩ := h.cell hn
    exact ⟨b, off, hp, by omega, hc⟩⟩
theorem SlsV.next {w w' : World} {p : Option Addr} {c : Nat} {L : List Sl} (hb : Below w.heap.size w w') (h : SlsV w.heap.size w p c L) : SlsV w'.heap.size w' p c L := (h.below hb).mono hb.size
/-- a literal of slices, just laid -/
theorem SlsV.laid {w : World} (L : List Sl) (cs : Array Value) (t : TypeId) (hc : cs.toList = L.map Sl.val) (hl : L.length ≤ 1000) (h : ∀ x : Sl, x ∈ L → IntV w.heap.size w x.1 x.2.1 x.2.2) :
    SlsV (w.alloc (.cells cs t)).heap.size (w.alloc (.cells cs t)) (some ⟨w.heap.size, 0, none⟩) L.length L := by
  have hb : Below w.heap.size w (w.alloc (.cells cs t)) := (Below.refl _ _).alloc (Nat.le_refl _) _
  refine ⟨Nat.le_refl _, by unfold maxLen; omega, fun x hx => (h x hx).next hb, fun _ => ⟨w.heap.size, 0, rfl, by simp, fun j x hx => ?_⟩⟩
  rw [Nat.zero_add, cell_alloc_row, ← Array.getElem?_toList, hc, List.getElem?_map, hx]; rfl
def flat (L : List Sl) : List Int := (L.map (·.2.2)).flatten
def sumL (L : List Sl) : Nat := (L.map (·.2.2.length)).sum
theorem flat_length (L : List Sl) : (flat L).length = sumL L := by unfold flat sumL; rw [List.length_flatten, List.map_map]; rfl
theorem flat_snoc {L : List Sl} {j : Nat} {x : Sl} (h : L[j]? = some x) : flat (L.take (j + 1)) = flat (L.take j) ++ x.2.2 := by
  unfold flat
  rw [List.take_add_one, h]; simp
theorem sum_snoc {L : List Sl} {j : Nat} {x : Sl} (h : L[j]? = some x) : sumL (L.take (j + 1)) = sumL (L.take j) + x.2.2.length := by
  unfold sumL
  rw [List.take_add_one, h]; simp
theorem sum_take_le (L : List Sl) (j : Nat) : sumL (L.take j) ≤ sumL L := by
  conv => rhs; rw [← List.take_append_drop j L]
  unfold sumL
  rw [List.map_append, List.sum_append]
  exact Nat.le_add_right _ _
def ConcatRel (w : World) (L : List Sl) (v6 v27 : Value) (wr : World) : Prop :=
  ∃ (j : Nat) (p : Option Addr) (c : Nat), j ≤ L.length ∧ v27 = .int .i64 (j : Int) ∧ v6 = .slice p (flat (L.take j)).length c ∧ IntO w.heap.size wr p c (flat (L.take j)) ∧ Below w.heap.size w wr

set_option maxRecDepth 100000 in
set_option maxHeartbeats 4000000 in
theorem concatI (q : Option Addr) (n c : Nat) (L : List Sl) (w : World) (hn : n = L.length) (h : SlsV w.heap.size w q c L) (hs : sumL L ≤ 17592186044000) :
    Calls Tryd.prog 74 #[.slice q n c] w (IntPost w (flat L)) := by
  obtain ⟨i0, hi, hz0, hz1, hz2⟩ := info_parts infoI
  have hle := h.le
  have hcap := h.cap
  unfold maxLen at hcap
  have hnc : n ≤ c := by omega
  have H := Lib.hid (And.intro h (And.intro hn hs))
  clear h hn hs hle
  go_enter Tryd.func74, Tryd.ntmps74
  go_wp2_with fail
  go_loop [3, 11] (fun v3 v11 => ∃ (j s : Nat), j ≤ n ∧ v11 = .int .i64 (j : Int) ∧ v3 = .int .i64 (s : Int) ∧ Hid (s = sumL (L.take j))) (fun _ v => n - (intOf v).toNat)
  case atStart => exact ⟨0, 0, Nat.zero_le _, rfl, rfl, rfl⟩
  case round =>
    obtain ⟨j, s, hj, rfl, rfl, hsj⟩ := hrel
    have hsl : s ≤ 17592186044000 := by have := hsj.out; have := sum_take_le L j; have := H.out.2.2; omega
    by_cases hlt : j < n
    · have hnl := H.out.2.1
      obtain ⟨x, hx⟩ : ∃ x, L[j]? = some x := ⟨_, List.getElem?_eq_getElem (by omega)⟩
      obtain ⟨b, off, rfl, hb, hc⟩ := H.out.1.cell (by rintro rfl; simp at hx)
      have hcx := hc j x hx
      have hst := sum_snoc hx
      have hlx : s + x.2.2.length ≤ 17592186044000 := by
        have := hsj.out; have := sum_take_le L (j + 1); have := H.out.2.2; omega
      obtain ⟨xa, xc, xl⟩ := x
      replace hcx : w.cell? ⟨b, off + j, none⟩ = some (.slice xa xl.length xc) := hcx
      replace hlx : s + xl.length ≤ 17592186044000 := hlx
      have HS := Lib.hid hst
      have hneg : ¬ ((s : Int) + (xl.length : Int) < 0) := by omega
      clear hc hx hst hnl
      go_wp2_with fail
      go_round
      case rel => exact ⟨j + 1, s + xl.length, by omega, by go_num, by go_num, by show _ = _; rw [HS.out, hsj.out]⟩
      case measure => simp [intOf]; omega
    · obtain rfl : j = n := by omega
      have hse : s = sumL L := by rw [hsj.out, H.out.2.1, List.take_length]
      have HSE := Lib.hid hse
      clear hse
      go_wp2_with fail
      refine (growI_nil s w hsl).mono ?_
      rintro e w1 ⟨p1, c1, rfl, ho1, hb1⟩
      have HB1 := Lib.hid (And.intro ho1 hb1)
      clear ho1 hb1 hsj
      go_wp2_with fail
      go_loopw [6, 27] (fun v6 v27 wr => ConcatRel w L v6 v27 wr) (fun _ v _ => j - (intOf v).toNat)
      case atStart => exact ⟨0, p1, c1, Nat.zero_le _, rfl, rfl, HB1.out.1, HB1.out.2⟩
      case round =>
        obtain ⟨i, p, cp, hi', rfl, rfl, ho, hb⟩ := hrel
        have hwB : w.heap.size ≤ wr.heap.size := hb.size
        by_cases hlt2 : i < j
        · have hnl := H.out.2.1
          obtain ⟨x, hx⟩ : ∃ x, L[i]? = some x := ⟨_, List.getElem?_eq_getElem (by omega)⟩
          have hxm := (H.out.1.below hb).each x (List.mem_of_getElem? hx)
          obtain ⟨b, off, rfl, hbq, hc⟩ := (H.out.1.below hb).cell (by rintro rfl; simp at hx)
          have hcx := hc i x hx
          have hfs := flat_snoc hx
          have htot : (flat (L.take i)).length + x.2.2.length ≤ 17592186044000 := by
            have h1 := flat_length (L.take (i + 1))
            have h2 := sum_take_le L (i + 1)
            rw [hfs, List.length_append] at h1
            have := H.out.2.2; omega
          obtain ⟨xa, xc, xl⟩ := x
          replace hcx : wr.cell? ⟨b, off + i, none⟩ = some (.slice xa xl.length xc) := hcx
          replace hxm : IntV w.heap.size wr xa xc xl := hxm
          replace hfs : flat (L.take (i + 1)) = flat (L.take i) ++ xl := hfs
          replace htot : (flat (L.take i)).length + xl.length ≤ 17592186044000 := htot
          obtain ⟨r, hr⟩ : ∃ r, flat (L.take i) = r := ⟨_, rfl⟩
          rw [hr] at ho hfs htot ⊢
          obtain ⟨rn, hrn⟩ : ∃ rn, r.length = rn := ⟨_, rfl⟩
          have hown : wr.ownsRow w.heap.size 3 1 (.slice p rn cp) rn (cI r) := by rw [← hrn]; exact ho
          rw [hrn] at htot ⊢
          have HS := Lib.hid (And.intro hfs (And.intro hb (And.intro hrn hxm)))
          have HX := Lib.hid (hxm.cell)
          have hxle := hxm.le
          have hxnil := hxm.nil
          clear hc hx hfs hr ho hrn hb hnl
          rcases xa with _ | a
          · have hxc := hxnil rfl
            subst hxc
            have hl0 : xl = [] := List.eq_nil_of_length_eq_zero (by omega)
            subst hl0
            clear hxnil hxm
            replace hcx : wr.cell? ⟨b, off + i, none⟩ = some (.slice none 0 0) := hcx
            go_wp2_with (at_builtin; refine wpList_append_own_none rfl _ _ 40 rfl w.heap.size 3 i0 1 Tryd.underlying40 hi _ rn (cI r) rfl hown rfl ?_)
            have HO := Lib.hid hown
            clear hown
            go_wp2_with fail
            go_roundw
            case rel =>
              have e := HS.out.1
              rw [List.append_nil] at e
              exact ⟨i + 1, p, cp, by have := H.out.2.1; omega, by go_num, by rw [e, HS.out.2.2.1], by rw [e]; unfold IntO; rw [HS.out.2.2.1]; exact HO.out, HS.out.2.1⟩
            case measure => simp [intOf]; omega
          · have hnews : ∀ j u, (cI xl)[j]? = some u → wr.cell? (a.add j) = some u := fun j u hj => by
              unfold cI at hj
              rw [List.getElem?_map] at hj
              obtain ⟨x, hx, rfl⟩ := Option.map_eq_some_iff.1 hj
              obtain ⟨b', off', ha, _, hcc⟩ := HX.out (by rintro rfl; simp at hx)
              obtain rfl : a = ⟨b', off', none⟩ := by simpa using ha
              rw [add_off]
              exact hcc j x hx
            have HN := Lib.hid hnews
            clear hxnil hnews hxm
            go_wp2_with (at_builtin; refine wpList_append_own _ rfl _ _ 40 rfl w.heap.size 3 i0 (.int .i64 0) 1 8 Tryd.underlying40 hi hz0 hz1 hz2 rfl (by decide) _ rn (cI r) rfl hown a xl.length xc (cI xl) rfl ?c0 ?c1 ?c2 ?c3 ?c4 ?c5 ?_)
            case c0 => simp [cI]
            case c1 => exact HN.out
            case c2 =>
              intro u hu
              unfold cI at hu
              obtain ⟨x, _, rfl⟩ := List.mem_map.1 hu
              rfl
            case c3 => unfold maxLen; omega
            case c4 => omega
            case c5 => exact hwB
            intro v' w1 hown' hgrow _
            rw [← cI_app] at hown'
            have hlen : rn + xl.length = (r ++ xl).length := by rw [List.length_append, HS.out.2.2.1]
            rw [hlen] at hown'
            obtain ⟨p2, c2, rfl, ho2⟩ := IntO.slice_own hown'
            have hb2 : Below w.heap.size w w1 := HS.out.2.1.grown hgrow hwB (fun j hj => (hown.lt j hj).1)
            have HO := Lib.hid (And.intro ho2 hb2)
            clear hown hown' hgrow ho2 hb2 hlen
            go_wp2_with fail
            go_roundw
            case rel => exact ⟨i + 1, p2, c2, by have := H.out.2.1; omega, by go_num, by rw [HS.out.1], by rw [HS.out.1]; exact HO.out.1, HO.out.2⟩
            case measure => simp [intOf]; omega
        · obtain rfl : i = j := by have := H.out.2.1; omega
          have he : flat (L.take i) = flat L := by rw [H.out.2.1, List.take_length]
          have HE := Lib.hid (And.intro he (And.intro ho hb))
          clear he ho hb
          go_wp2_with fail
          go_ret
          exact ⟨p, cp, by rw [HE.out.1]; rfl, by rw [← HE.out.1]; exact HE.out.2.1, HE.out.2.2⟩
end Go.Proofs.YthhighljfjeooaaDoor
