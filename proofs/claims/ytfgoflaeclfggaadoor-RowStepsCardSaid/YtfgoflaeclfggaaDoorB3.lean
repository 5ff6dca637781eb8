/- Lists of ints: make, slices.Grow of nil, slices.Concat.
Package word by its contracts, second part: Cmp, Back, Turn.
Package word by its contracts, fourth part: Next.
Bytes of texts as numbers, and back.
Package word by its contracts, fifth part: Next where it is refused, Parse.
Package rule by its contracts, third part: Local, Step.
Package rule by its contracts, fourth part: Step.
Package fault by its contracts: Code of any error tree; Outer and Code of one Fault.
An error told by one package after another: a chain of Faults over api's error.
Package ring by its contracts, first part: check.
Package ring by its contracts, second part: step.
Package row by its contracts, first part: end, symbolAt, cells.
Package row by its contracts, third part: checkLengths, checkSymbols, Check.
Package row by its contracts, second part: cells, image. -/
import Derived.Test.YtfgoflaeclfggaaDoorB1
import Derived.Laws.AppendOwnNone
import Derived.Lib.AppendZerosOnto
import Derived.Lib.Walk
import Derived.Laws.Append
import Derived.Lib.SliceRun
import Derived.Deep.RegionWith
import Derived.Deep.DeepCutAuto
import Derived.Test.YtfgoflaeclfggaaDoorB2
import Derived.Laws.BytesArg
import Derived.Deep.QuietTactic
import Derived.BigQuiet
import Derived.WalkSmall
import Derived.Deep.RegionHeld3
import Derived.Deep.DrawnRows
section
namespace Go.Proofs.YtfgoflaeclfggaaDoor
open Go.RowKit

theorem madeI_list (v : Value) (n : Nat) : (madeCells #[v] n).toList = List.replicate n v := by
  unfold madeCells
  rw [Array.toList_map, Array.toList_range]
  apply List.ext_getElem
  · simp
  · intro i h1 h2
    simp [Nat.mod_one]
theorem makeI (n : Nat) (hn : n ≤ 17592186044000) (w : World) :
    (Instr.makeSlice 22 (.int .i64 (n : Int)) (.int .i64 (n : Int))).run Tryd.prog w = .ok (.slice (some ⟨w.heap.size, 0, none⟩) n n) (w.alloc (.cells (madeCells #[.int .i64 0] n) 3)) := by
  obtain ⟨i0, hi, hz0, hz1, hz2⟩ := info_parts infoI
  have h := run_make (P := Tryd.prog) w 22 3 i0 (.int .i64 0) Tryd.underlying22 hi hz0 .i64 .i64 n n (by omega) (by omega) (by rw [hz2]; omega) (by omega)
  rw [hz1] at h
  simpa [Value.cells] using h
theorem IntO.made (w : World) (n : Nat) (hn : n ≤ 17592186044000) : IntO w.heap.size (w.alloc (.cells (madeCells #[.int .i64 0] n) 3)) (some ⟨w.heap.size, 0, none⟩) n (List.replicate n 0) := by
  refine ⟨by simp [cI], Or.inr ⟨w.heap.size, n, madeCells #[.int .i64 0] n, by rw [List.length_replicate], Nat.le_refl _, heap_newN _ _, by rw [List.length_replicate]; exact Nat.le_refl _, by unfold maxLen; omega, by rw [size_madeCells, Nat.mul_one], ?_⟩⟩
  rw [madeI_list, List.length_replicate, Nat.mul_one, List.take_of_length_le (by simp)]
  simp [cI]

/-- a slice of no element, with room -/
def RoomPost (w : World) (e : Ending) (w' : World) : Prop := ∃ p c, e = .returned (.slice p 0 c) ∧ IntO w.heap.size w' p c [] ∧ Below w.heap.size w w'
set_option maxRecDepth 100000 in
set_option maxHeartbeats 2000000 in
theorem growI_nil (n : Nat) (w : World) (hn : n ≤ 17592186044000) :
    Calls Tryd.prog 84 #[.slice none 0 0, .int .i64 (n : Int)] w (RoomPost w) := by
  obtain ⟨i0, hi, hz0, hz1, hz2⟩ := info_parts infoI
  rcases Nat.eq_zero_or_pos n with rfl | h0
  · show Calls Tryd.prog 84 #[.slice none 0 0, .int .i64 0] w (RoomPost w)
    go_enter Tryd.func84, Tryd.ntmps84
    go_wp2_with fail
    go_ret
    exact ⟨none, 0, rfl, IntO.nothing _ _, Below.refl _ _⟩
  · have hold : (Builtin.firstCells i0.size 0 (.slice none 0 0)).run Tryd.prog w.drew = .ok #[] w.drew := run_firstCells_none (w := w.drew) i0.size 0 0 0
    have hrz : ∀ ty, (Builtin.append_ #[22, 3] ty #[.slice none 0 0, .int .i64 (n : Int)]).run Tryd.prog w = _ := fun ty =>
      Lib.run_append_grow_zeros w 22 3 ty 3 i0 (.int .i64 0) .i64 .i64 Tryd.underlying22 Tryd.underlying3 hi hz0 none 0 0 [] hold n h0 (by rw [hz1]; omega) (by omega) (by omega) (by rw [hz2]; omega)
        (growslice_fits (by omega) (by rw [hz2]; omega))
    have hGn : n ≤ grownCap w (0 + n) 0 3 := by have := grownCap_ge w (0 + n) 0 3; omega
    have hG := grownCap_le_maxLen w (0 + n) 0 3 (by unfold maxLen; omega)
    obtain ⟨G, hGe⟩ : ∃ G, G = grownCap w (0 + n) 0 3 := ⟨_, rfl⟩
    rw [← hGe] at hrz hGn hG
    rw [Nat.zero_add] at hrz
    have hG63 := hG
    unfold maxLen at hG63
    have HG := Lib.hid hG
    have hpos : ¬ ((n : Int) < 0) := by omega
    have hpos2 : (0 : Int) < (n : Int) := by omega
    clear hold hGe hG
    go_enter Tryd.func84, Tryd.ntmps84
    go_wp2_with (at_builtin; refine Lib.wpList_append_run _ rfl _ _ _ _ rfl _ _ rfl rfl _ _ (hrz _) ?_)
    go_ret
    refine ⟨_, _, rfl, ⟨by simp [cI], Or.inr ⟨w.heap.size, G, _, rfl, Nat.le_refl _, heap_newN _ _, Nat.zero_le _, HG.out, ?_, by simp [cI]⟩⟩, (Below.refl _ _).drew.alloc (by simp) _⟩
    simp [Builtin.zeroCells]
    omega

/-! ### several lists -/
abbrev Sl := Option Addr × Nat × List Int
def Sl.val (x : Sl) : Value := .slice x.1 x.2.2.length x.2.1
/-- A slice of slices of ints below B: it reads L, and each of them reads. -/
structure SlsV (B : Nat) (w : World) (p : Option Addr) (c : Nat) (L : List Sl) : Prop where
  le : L.length ≤ c
  cap : c ≤ maxLen
  each : ∀ x : Sl, x ∈ L → IntV B w x.1 x.2.1 x.2.2
  cell : L ≠ [] → ∃ b off, p = some ⟨b, off, none⟩ ∧ b < B ∧ ∀ (j : Nat) (x : Sl), L[j]? = some x → w.cell? ⟨b, off + j, none⟩ = some x.val
theorem SlsV.below {B : Nat} {w w' : World} {p : Option Addr} {c : Nat} {L : List Sl} (hb : Below B w w') (h : SlsV B w p c L) : SlsV B w' p c L :=
  ⟨h.le, h.cap, fun x hx => (h.each x hx).below hb, fun hn => by
    obtain ⟨b, off, hp, hlt, hc⟩ := h.cell hn
    exact ⟨b, off, hp, hlt, fun j x hx => (hb.cell (p := ⟨b, off + j, none⟩) hlt).trans (hc j x hx)⟩⟩
theorem SlsV.mono {B B' : Nat} {w : World} {p : Option Addr} {c : Nat} {L : List Sl} (hB : B ≤ B') (h : SlsV B w p c L) : SlsV B' w p c L :=
  ⟨h.le, h.cap, fun x hx => (h.each x hx).mono hB, fun hn => by
    obtain ⟨b, off, hp, hlt, hc⟩ := h.cell hn
    exact ⟨b, off, hp, by omega, hc⟩⟩
theorem SlsV.next {w w' : World} {p : Option Addr} {c : Nat} {L : List Sl} (hb : Below w.heap.size w w') (h : SlsV w.heap.size w p c L) : SlsV w'.heap.size w' p c L := (h.below hb).mono hb.size
/-- a literal of slices, just laid -/
theorem SlsV.laid {w : World} (L : List Sl) (cs : Array Value) (t : TypeId) (hc : cs.toList = L.map Sl.val) (hl : L.length ≤ 1000) (h : ∀ x : Sl, x ∈ L → IntV w.heap.size w x.1 x.2.1 x.2.2) :
    SlsV (w.alloc (.cells cs t)).heap.size (w.alloc (.cells cs t)) (some ⟨w.heap.size, 0, none⟩) L.length L := by
  have hb : Below w.heap.size w (w.alloc (.cells cs t)) := (Below.refl _ _).alloc (Nat.le_refl _) _
  refine ⟨Nat.le_refl _, by unfold maxLen; omega, fun x hx => (h x hx).next hb, fun _ => ⟨w.heap.size, 0, rfl, by simp, fun j x hx => ?_⟩⟩
  rw [Nat.zero_add, cell_alloc_row, ← Array.getElem?_toList, hc, List.getElem?_map, hx]; rfl
def flat (L : List Sl) : List Int := (L.map (·.2.2)).flatten
def sumL (L : List Sl) : Nat := (L.map (·.2.2.length)).sum
theorem flat_length (L : List Sl) : (flat L).length = sumL L := by unfold flat sumL; rw [List.length_flatten, List.map_map]; rfl
theorem flat_snoc {L : List Sl} {j : Nat} {x : Sl} (h : L[j]? = some x) : flat (L.take (j + 1)) = flat (L.take j) ++ x.2.2 := by
  unfold flat
  rw [List.take_add_one, h]; simp
theorem sum_snoc {L : List Sl} {j : Nat} {x : Sl} (h : L[j]? = some x) : sumL (L.take (j + 1)) = sumL (L.take j) + x.2.2.length := by
  unfold sumL
  rw [List.take_add_one, h]; simp
theorem sum_take_le (L : List Sl) (j : Nat) : sumL (L.take j) ≤ sumL L := by
  conv => rhs; rw [← List.take_append_drop j L]
  unfold sumL
  rw [List.map_append, List.sum_append]
  exact Nat.le_add_right _ _
def ConcatRel (w : World) (L : List Sl) (v6 v27 : Value) (wr : World) : Prop :=
  ∃ (j : Nat) (p : Option Addr) (c : Nat), j ≤ L.length ∧ v27 = .int .i64 (j : Int) ∧ v6 = .slice p (flat (L.take j)).length c ∧ IntO w.heap.size wr p c (flat (L.take j)) ∧ Below w.heap.size w wr

set_option maxRecDepth 100000 in
set_option maxHeartbeats 4000000 in
theorem concatI (q : Option Addr) (n c : Nat) (L : List Sl) (w : World) (hn : n = L.length) (h : SlsV w.heap.size w q c L) (hs : sumL L ≤ 17592186044000) :
    Calls Tryd.prog 80 #[.slice q n c] w (IntPost w (flat L)) := by
  obtain ⟨i0, hi, hz0, hz1, hz2⟩ := info_parts infoI
  have hle := h.le
  have hcap := h.cap
  unfold maxLen at hcap
  have hnc : n ≤ c := by omega
  have H := Lib.hid (And.intro h (And.intro hn hs))
  clear h hn hs hle
  go_enter Tryd.func80, Tryd.ntmps80
  go_wp2_with fail
  go_loop [3, 11] (fun v3 v11 => ∃ (j s : Nat), j ≤ n ∧ v11 = .int .i64 (j : Int) ∧ v3 = .int .i64 (s : Int) ∧ Hid (s = sumL (L.take j))) (fun _ v => n - (intOf v).toNat)
  case atStart => exact ⟨0, 0, Nat.zero_le _, rfl, rfl, rfl⟩
  case round =>
    obtain ⟨j, s, hj, rfl, rfl, hsj⟩ := hrel
    have hsl : s ≤ 17592186044000 := by have := hsj.out; have := sum_take_le L j; have := H.out.2.2; omega
    by_cases hlt : j < n
    · have hnl := H.out.2.1
      obtain ⟨x, hx⟩ : ∃ x, L[j]? = some x := ⟨_, List.getElem?_eq_getElem (by omega)⟩
      obtain ⟨b, off, rfl, hb, hc⟩ := H.out.1.cell (by rintro rfl; simp at hx)
      have hcx := hc j x hx
      have hst := sum_snoc hx
      have hlx : s + x.2.2.length ≤ 17592186044000 := by
        have := hsj.out; have := sum_take_le L (j + 1); have := H.out.2.2; omega
      obtain ⟨xa, xc, xl⟩ := x
      replace hcx : w.cell? ⟨b, off + j, none⟩ = some (.slice xa xl.length xc) := hcx
      replace hlx : s + xl.length ≤ 17592186044000 := hlx
      have HS := Lib.hid hst
      have hneg : ¬ ((s : Int) + (xl.length : Int) < 0) := by omega
      clear hc hx hst hnl
      go_wp2_with fail
      go_round
      case rel => exact ⟨j + 1, s + xl.length, by omega, by go_num, by go_num, by show _ = _; rw [HS.out, hsj.out]⟩
      case measure => simp [intOf]; omega
    · obtain rfl : j = n := by omega
      have hse : s = sumL L := by rw [hsj.out, H.out.2.1, List.take_length]
      have HSE := Lib.hid hse
      clear hse
      go_wp2_with fail
      refine (growI_nil s w hsl).mono ?_
      rintro e w1 ⟨p1, c1, rfl, ho1, hb1⟩
      have HB1 := Lib.hid (And.intro ho1 hb1)
      clear ho1 hb1 hsj
      go_wp2_with fail
      go_loopw [6, 27] (fun v6 v27 wr => ConcatRel w L v6 v27 wr) (fun _ v _ => j - (intOf v).toNat)
      case atStart => exact ⟨0, p1, c1, Nat.zero_le _, rfl, rfl, HB1.out.1, HB1.out.2⟩
      case round =>
        obtain ⟨i, p, cp, hi', rfl, rfl, ho, hb⟩ := hrel
        have hwB : w.heap.size ≤ wr.heap.size := hb.size
        by_cases hlt2 : i < j
        · have hnl := H.out.2.1
          obtain ⟨x, hx⟩ : ∃ x, L[i]? = some x := ⟨_, List.getElem?_eq_getElem (by omega)⟩
          have hxm := (H.out.1.below hb).each x (List.mem_of_getElem? hx)
          obtain ⟨b, off, rfl, hbq, hc⟩ := (H.out.1.below hb).cell (by rintro rfl; simp at hx)
          have hcx := hc i x hx
          have hfs := flat_snoc hx
          have htot : (flat (L.take i)).length + x.2.2.length ≤ 17592186044000 := by
            have h1 := flat_length (L.take (i + 1))
            have h2 := sum_take_le L (i + 1)
            rw [hfs, List.length_append] at h1
            have := H.out.2.2; omega
          obtain ⟨xa, xc, xl⟩ := x
          replace hcx : wr.cell? ⟨b, off + i, none⟩ = some (.slice xa xl.length xc) := hcx
          replace hxm : IntV w.heap.size wr xa xc xl := hxm
          replace hfs : flat (L.take (i + 1)) = flat (L.take i) ++ xl := hfs
          replace htot : (flat (L.take i)).length + xl.length ≤ 17592186044000 := htot
          obtain ⟨r, hr⟩ : ∃ r, flat (L.take i) = r := ⟨_, rfl⟩
          rw [hr] at ho hfs htot ⊢
          obtain ⟨rn, hrn⟩ : ∃ rn, r.length = rn := ⟨_, rfl⟩
          have hown : wr.ownsRow w.heap.size 3 1 (.slice p rn cp) rn (cI r) := by rw [← hrn]; exact ho
          rw [hrn] at htot ⊢
          have HS := Lib.hid (And.intro hfs (And.intro hb (And.intro hrn hxm)))
          have HX := Lib.hid (hxm.cell)
          have hxle := hxm.le
          have hxnil := hxm.nil
          clear hc hx hfs hr ho hrn hb hnl
          rcases xa with _ | a
          · have hxc := hxnil rfl
            subst hxc
            have hl0 : xl = [] := List.eq_nil_of_length_eq_zero (by omega)
            subst hl0
            clear hxnil hxm
            replace hcx : wr.cell? ⟨b, off + i, none⟩ = some (.slice none 0 0) := hcx
            go_wp2_with (at_builtin; refine wpList_append_own_none rfl _ _ 22 rfl w.heap.size 3 i0 1 Tryd.underlying22 hi _ rn (cI r) rfl hown rfl ?_)
            have HO := Lib.hid hown
            clear hown
            go_wp2_with fail
            go_roundw
            case rel =>
              have e := HS.out.1
              rw [List.append_nil] at e
              exact ⟨i + 1, p, cp, by have := H.out.2.1; omega, by go_num, by rw [e, HS.out.2.2.1], by rw [e]; unfold IntO; rw [HS.out.2.2.1]; exact HO.out, HS.out.2.1⟩
            case measure => simp [intOf]; omega
          · have hnews : ∀ j u, (cI xl)[j]? = some u → wr.cell? (a.add j) = some u := fun j u hj => by
              unfold cI at hj
              rw [List.getElem?_map] at hj
              obtain ⟨x, hx, rfl⟩ := Option.map_eq_some_iff.1 hj
              obtain ⟨b', off', ha, _, hcc⟩ := HX.out (by rintro rfl; simp at hx)
              obtain rfl : a = ⟨b', off', none⟩ := by simpa using ha
              rw [add_off]
              exact hcc j x hx
            have HN := Lib.hid hnews
            clear hxnil hnews hxm
            go_wp2_with (at_builtin; refine wpList_append_own _ rfl _ _ 22 rfl w.heap.size 3 i0 (.int .i64 0) 1 8 Tryd.underlying22 hi hz0 hz1 hz2 rfl (by decide) _ rn (cI r) rfl hown a xl.length xc (cI xl) rfl ?c0 ?c1 ?c2 ?c3 ?c4 ?c5 ?_)
            case c0 => simp [cI]
            case c1 => exact HN.out
            case c2 =>
              intro u hu
              unfold cI at hu
              obtain ⟨x, _, rfl⟩ := List.mem_map.1 hu
              rfl
            case c3 => unfold maxLen; omega
            case c4 => omega
            case c5 => exact hwB
            intro v' w1 hown' hgrow _
            rw [← cI_app] at hown'
            have hlen : rn + xl.length = (r ++ xl).length := by rw [List.length_append, HS.out.2.2.1]
            rw [hlen] at hown'
            obtain ⟨p2, c2, rfl, ho2⟩ := IntO.slice_own hown'
            have hb2 : Below w.heap.size w w1 := HS.out.2.1.grown hgrow hwB (fun j hj => (hown.lt j hj).1)
            have HO := Lib.hid (And.intro ho2 hb2)
            clear hown hown' hgrow ho2 hb2 hlen
            go_wp2_with fail
            go_roundw
            case rel => exact ⟨i + 1, p2, c2, by have := H.out.2.1; omega, by go_num, by rw [HS.out.1], by rw [HS.out.1]; exact HO.out.1, HO.out.2⟩
            case measure => simp [intOf]; omega
        · obtain rfl : i = j := by have := H.out.2.1; omega
          have he : flat (L.take i) = flat L := by rw [H.out.2.1, List.take_length]
          have HE := Lib.hid (And.intro he (And.intro ho hb))
          clear he ho hb
          go_wp2_with fail
          go_ret
          exact ⟨p, cp, by rw [HE.out.1]; rfl, by rw [← HE.out.1]; exact HE.out.2.1, HE.out.2.2⟩
end Go.Proofs.YtfgoflaeclfggaaDoor
end
section
namespace Go.Proofs.YtfgoflaeclfggaaDoor
open Go.RowKit WordM


theorem IntPost.under {w W : World} {l : List Int} {e : Ending} {w' : World} (hb : Below w.heap.size w W) (h : IntPost W l e w') : IntPost w l e w' := by
  obtain ⟨p, c, he, ho, hb'⟩ := h
  exact ⟨p, c, he, ho.base hb.size, hb.trans (hb'.mono hb.size)⟩

/-- how far a turn goes -/
def turnN (l : List Int) (z : Int) : Nat := (z % (l.length : Int)).toNat
def turnW (l : List Int) (z : Int) : List Int := rot l (turnN l z)
theorem turnW_length (l : List Int) (z : Int) : (turnW l z).length = l.length := rot_length _ _
set_option maxRecDepth 100000 in
set_option maxHeartbeats 4000000 in
theorem turn_any (p : Option Addr) (n c : Nat) (l : List Int) (z : Int) (w : World) (hn : n = l.length) (h : IntV w.heap.size w p c l) (hl : l.length ≤ 17592186044000) :
    Calls Tryd.prog 72 #[.slice p n c, .int .i64 z] w (IntPost w (turnW l z)) := by
  have hle := h.le
  have hcap := h.cap
  unfold maxLen at hcap
  rcases Nat.eq_zero_or_pos n with h0 | h0
  · have hl0 : l = [] := List.eq_nil_of_length_eq_zero (by omega)
    subst hl0 h0
    clear h hle
    clear hn hl
    go_enter Tryd.func72, Tryd.ntmps72
    go_wp2_with fail
    go_ret
    exact ⟨none, 0, rfl, IntO.nothing _ _, Below.refl _ _⟩
  · obtain ⟨b, off, rfl, hb, hc⟩ := h.cell (by rintro rfl; simp at hn; omega)
    obtain ⟨t, ht⟩ : ∃ t, turnN l z = t := ⟨_, rfl⟩
    have htn : t < n := by
      rw [← ht, hn]
      unfold turnN
      have h1 := Int.emod_lt_of_pos z (show (0 : Int) < (l.length : Int) by omega)
      have h2 := Int.emod_nonneg z (show (l.length : Int) ≠ 0 by omega)
      omega
    have htz : z % (n : Int) = (t : Int) := by
      rw [← ht, hn]
      unfold turnN
      have h2 := Int.emod_nonneg z (show (l.length : Int) ≠ 0 by omega)
      omega
    have hrot : rot l t = l.drop t ++ l.take t := (rot_drop (by omega)).symm
    have hnz : ((n : Int) == 0) = false := by rw [beq_eq_false_iff_ne]; omega
    have hnc : n ≤ c := by omega
    have hnl : n ≤ 17592186044000 := by omega
    obtain ⟨r, hr⟩ : ∃ r, z.tmod (n : Int) = r := ⟨_, rfl⟩
    have hrt : (r < 0 ∧ r + (n : Int) = (t : Int)) ∨ (¬ r < 0 ∧ r = (t : Int)) := by
      have e := @Int.tmod_eq_emod z (n : Int)
      have hlo : -(n : Int) < r := by rw [← hr]; exact Int.lt_tmod_of_pos z (by omega)
      rw [hr, htz] at e
      split at e <;> omega
    have hsum : ∀ W : World, Below w.heap.size w W → w.heap.size < W.heap.size → (∀ j, W.cell? ⟨w.heap.size, j, none⟩ = (#[.slice (some ⟨b, off + t, none⟩) (n - t) (c - t), .slice (some ⟨b, off, none⟩) t c] : Array Value)[j]?) → Calls Tryd.prog 80 #[.slice (some ⟨w.heap.size, 0, none⟩) 2 2] W (IntPost w (turnW l z)) := fun W hbW hs hcs => by
      have e : turnW l z = flat [(some ⟨b, off + t, none⟩, c - t, l.drop t), (some ⟨b, off, none⟩, c, l.take t)] := by
        unfold turnW flat
        rw [ht, hrot]
        simp
      rw [e]
      have hd1 : (l.drop t).length = n - t := by rw [List.length_drop, hn]
      have hd2 : (l.take t).length = t := by rw [List.length_take]; omega
      refine (concatI _ 2 2 [(some ⟨b, off + t, none⟩, c - t, l.drop t), (some ⟨b, off, none⟩, c, l.take t)] _ rfl ⟨Nat.le_refl _, by unfold maxLen; omega, ?_, fun _ => ⟨_, 0, rfl, hs, ?_⟩⟩ ?_).mono fun e w' h => IntPost.under hbW h
      · have hv := h.next hbW
        intro x hx
        rcases List.mem_cons.1 hx with rfl | hx
        · exact hv.drop t (by omega)
        · obtain rfl := List.mem_singleton.1 hx
          exact hv.take t
      · intro j x hx
        rw [Nat.zero_add, hcs]
        match j, hx with
        | 0, hx => obtain rfl := Option.some.inj hx; simp [Sl.val, hd1]
        | 1, hx => obtain rfl := Option.some.inj hx; simp [Sl.val, hd2]
      · unfold sumL
        simp
        omega
    have HS := Lib.hid hsum
    have ht0 : (0 : Int) ≤ (t : Int) := by omega
    have htn2 : (t : Int) ≤ (n : Int) := by omega
    have hnc2 : (n : Int) ≤ (c : Int) := by omega
    have htc : ¬ (c : Int) = (t : Int) := by omega
    have htc2 : ¬ c = t := by omega
    clear hsum ht htz hrot hn hc h hle hb
    rcases hrt with ⟨hr0, hrt⟩ | ⟨hr0, rfl⟩
    all_goals
      go_enter Tryd.func72, Tryd.ntmps72
      go_wp2_with fail
      go_region_with (first
        | (go_at_call 80; refine (HS.out _ (by (repeat' (first | exact Below.refl _ _ | refine Below.drew ?_ | refine below_drewN ?_ _ | refine Below.alloc ?_ ?_ _ | (simp; done) | (simp; omega)))) (by simp) (by intro j; simp)).mono ?_; rintro e w1 ⟨p1, c1, rfl, ho1, hb1⟩))
      all_goals
        have HO := Lib.hid (And.intro ho1 hb1)
        clear ho1 hb1
        go_wp2_with fail
        go_ret
        exact ⟨p1, c1, rfl, HO.out.1, HO.out.2⟩
end Go.Proofs.YtfgoflaeclfggaaDoor
end
section
namespace Go.Proofs.YtfgoflaeclfggaaDoor
open Go.RowKit Go.Extern.Stop Go.Stop Go.Extern WordM

/-- the word behind it, and no error -/
def NextOk (w : World) (k : Nat) (l : List Int) (e : Ending) (w' : World) : Prop := ∃ x, IsNext k l x ∧ IntOk w x e w'

theorem set_mid {l : List Int} {i : Nat} {y v : Int} (h : l[i]? = some y) (n : Nat) (z : Int) : (l.take (i + 1) ++ List.replicate n z).set i v = l.take i ++ v :: List.replicate n z := by
  have hi := ltI h
  have e : l.take (i + 1) = l.take i ++ [y] := by rw [List.take_add_one, h]; rfl
  rw [e, List.append_assoc, List.set_append_right _ _ (by rw [List.length_take]; omega), List.length_take, Nat.min_eq_left (by omega), Nat.sub_self]
  rfl
theorem take_rep {l : List Int} {i n : Nat} {y z : Int} (h : l[i]? = some y) (e : l = l.take (i + 1) ++ List.replicate n z) : l = l.take i ++ y :: List.replicate n z := by
  have e2 : l.take (i + 1) = l.take i ++ [y] := by rw [List.take_add_one, h]; rfl
  rw [e2, List.append_assoc] at e
  exact e
def NextRel (w : World) (k : Nat) (l : List Int) (p : Option Addr) (c : Nat) (v : Value) (wr : World) : Prop :=
  ∃ j : Nat, j ≤ l.length ∧ v = .int .i64 ((j : Int) - 1) ∧ l = l.take j ++ List.replicate (l.length - j) ((k : Int) - 1) ∧ IntO w.heap.size wr p c (l.take j ++ List.replicate (l.length - j) 0) ∧ Below w.heap.size w wr
end Go.Proofs.YtfgoflaeclfggaaDoor
end
section
namespace Go.Proofs.YtfgoflaeclfggaaDoor
open Go.RowKit NatM

theorem bsOf_strOfNums {l : List Nat} (h : ∀ x ∈ l, x < 256) : bsOf (strOfNums (l.map fun (d : Nat) => (d : Int))) = l := by
  unfold bsOf
  rw [strOfNums_data, List.map_map, List.map_map]
  conv => rhs; rw [← List.map_id l]
  apply List.map_congr_left
  intro x hx
  have := h x hx
  simp [UInt8.toNat_ofNat']
  omega
theorem strOfNums_bsOf (s : ByteArray) : strOfNums ((bsOf s).map fun (d : Nat) => (d : Int)) = s := by
  have h : (strOfNums ((bsOf s).map fun (d : Nat) => (d : Int))).data.toList = s.data.toList := by
    rw [strOfNums_data]
    unfold bsOf
    rw [List.map_map, List.map_map]
    conv => rhs; rw [← List.map_id s.data.toList]
    apply List.map_congr_left
    intro x _
    simp
  cases s with
  | mk d =>
    have := congrArg List.toArray h
    simp at this
    exact congrArg ByteArray.mk this
end Go.Proofs.YtfgoflaeclfggaaDoor
end
section
namespace Go.Proofs.YtfgoflaeclfggaaDoor
open Go.RowKit Go.Extern.Stop Go.Stop Go.Extern WordM NatM


/-- a text's digits as symbols -/
def sW (s : ByteArray) : List Int := (bsOf s).map fun (b : Nat) => (b : Int) - 48
theorem sW_length (s : ByteArray) : (sW s).length = s.size := by unfold sW; rw [List.length_map, bsOf_length]
theorem sW_get {s : ByteArray} {k : Nat} (h : k < s.size) : (sW s)[k]? = some ((s[k].toNat : Int) - 48) := by
  unfold sW
  rw [List.getElem?_map, bsOf_get h]; rfl
/-- of a text that is refused the number is 6 in place of 2 -/
def code6 (m : Nat) : Nat := if m = 2 then 6 else m

def ParseWRel (w : World) (n : Nat) (l : List Int) (p : Option Addr) (c : Nat) (J : Nat) (v : Value) (wr : World) : Prop :=
  ∃ j : Nat, j ≤ J ∧ v = .int .i64 (j : Int) ∧ IntO w.heap.size wr p c (l.take j ++ List.replicate (n - j) 0) ∧ Below w.heap.size w wr
theorem put_next {l : List Int} {j n : Nat} {x : Int} (h : l[j]? = some x) (hj : j < n) : (l.take j ++ List.replicate (n - j) 0).set j x = l.take (j + 1) ++ List.replicate (n - (j + 1)) 0 := by
  have hl := ltI h
  rw [List.set_append_right _ _ (by rw [List.length_take]; omega), List.length_take, Nat.min_eq_left (by omega), Nat.sub_self, List.take_add_one, h]
  obtain ⟨m, hm⟩ : ∃ m, n - j = m + 1 := ⟨n - j - 1, by omega⟩
  rw [hm, show n - (j + 1) = m by omega, List.replicate_succ]
  simp
theorem mid_len {l : List Int} {j n : Nat} (hl : j ≤ l.length) (hj : j ≤ n) : (l.take j ++ List.replicate (n - j) (0 : Int)).length = n := by simp; omega


end Go.Proofs.YtfgoflaeclfggaaDoor
end
section
namespace Go.Proofs.YtfgoflaeclfggaaDoor
open Go.RowKit Go.Extern.Stop Go.Stop Go.Extern WordM RuleM

/-- where Local refuses: the place and the number -/
def chkL (k r : Int) (t w : List Int) : Option (Nat × Nat) := match chkR k r t with
  | some i => some (i, 1)
  | none => if (w.length : Int) ≠ 2 * r + 1 then some (0, 3) else (w.findIdx? (badAt k)).map fun i => (i, 2)
/-- where Step refuses: the place and the number -/
def chkT (k r : Int) (t w : List Int) : Option (Nat × Nat) := match chkR k r t with
  | some i => some (i, 1)
  | none => if 4096 < w.length then some (0, 4) else (w.findIdx? (badAt k)).map fun i => (i, 2)
theorem chkL_none {k r : Int} {t w : List Int} (h : chkL k r t w = none) : ∃ K R : Nat, k = K ∧ r = R ∧ OkR K R t ∧ w.length = 2 * R + 1 ∧ okW K w := by
  unfold chkL at h
  split at h
  · cases h
  · rename_i hn
    obtain ⟨K, R, rfl, rfl, h3⟩ := chkR_none hn
    split at h
    · cases h
    · rw [Option.map_eq_none_iff, bad_none] at h
      exact ⟨K, R, rfl, rfl, h3, by omega, h⟩
theorem chkT_none {k r : Int} {t w : List Int} (h : chkT k r t w = none) : ∃ K R : Nat, k = K ∧ r = R ∧ OkR K R t ∧ w.length ≤ 4096 ∧ okW K w := by
  unfold chkT at h
  split at h
  · cases h
  · rename_i hn
    obtain ⟨K, R, rfl, rfl, h3⟩ := chkR_none hn
    split at h
    · cases h
    · rw [Option.map_eq_none_iff, bad_none] at h
      exact ⟨K, R, rfl, rfl, h3, by omega, h⟩
theorem chkT_ok {K R : Nat} {t w : List Int} (h : OkR K R t) (hl : w.length ≤ 4096) (hw : okW K w) : chkT K R t w = none := by
  unfold chkT
  rw [chkR_ok h]
  simp only []
  rw [if_neg (by omega), Option.map_eq_none_iff, bad_none]
  exact hw
theorem chkL_ok {K R : Nat} {t w : List Int} (h : OkR K R t) (hl : w.length = 2 * R + 1) (hw : okW K w) : chkL K R t w = none := by
  unfold chkL
  rw [chkR_ok h]
  simp only []
  rw [if_neg (by omega), Option.map_eq_none_iff, bad_none]
  exact hw

theorem valW_take1 {k : Nat} {l : List Int} {j : Nat} {x : Int} (h : l[j]? = some x) : valW k (l.take (j + 1)) = valW k (l.take j) * k + x.toNat := by
  rw [List.take_add_one, h]; exact valW_snoc k _ x
theorem val_small {k : Nat} {l : List Int} {j : Nat} (h4 : k ≤ 4) (ho : okW k l) (hj : j ≤ 7) : valW k (l.take j) < 16384 := by
  have h1 := valW_lt (okW_take ho j)
  have h2 : k ^ (l.take j).length ≤ 4 ^ (l.take j).length := Nat.pow_le_pow_left h4 _
  have h3 : 4 ^ (l.take j).length ≤ 4 ^ 7 := Nat.pow_le_pow_right (by omega) (by rw [List.length_take]; omega)
  have h5 : (4 : Nat) ^ 7 = 16384 := by decide
  omega

/-- a number, and no error -/
def IntOk1 (w : World) (x : Int) (e : Ending) (w' : World) : Prop := e = .returned (.tuple #[.int .i64 x, .nilIface]) ∧ Below w.heap.size w w'


end Go.Proofs.YtfgoflaeclfggaaDoor
end
section
namespace Go.Proofs.YtfgoflaeclfggaaDoor
open Go.RowKit Go.Extern.Stop Go.Stop Go.Extern WordM RuleM

set_option maxRecDepth 100000 in
set_option maxHeartbeats 2000000 in
theorem step_short (k r : Nat) (p q : Option Addr) (n c m d : Nat) (t l : List Int) (w : World) (hn : n = t.length) (hm : m = l.length) (h : IntV w.heap.size w p c t) (hl : IntV w.heap.size w q d l) (ho : OkR k r t) (hlen : m ≤ 2 * r) (hw : okW k l) :
    Calls Tryd.prog 28 #[.agg #[.int .i64 (k : Int), .int .i64 (r : Int), .slice p n c], .slice q m d] w (IntOk w (imgW k r t l)) := by
  have h4 := ho.k4
  have h3 := ho.r3
  have hle := hl.le
  have hcap := hl.cap
  unfold maxLen at hcap
  have hmd : m ≤ d := by omega
  have hst := strayN_ok hw
  rw [← hm] at hst
  have hnil := imgW_nil (k := k) (t := t) (w := l) (r := r) (by omega)
  have H := Lib.hid (And.intro h (And.intro hn (And.intro ho (And.intro hst (And.intro hl (And.intro hm hnil))))))
  clear h hn ho hst hl hm hw hle hnil
  obtain ⟨R2, hR2⟩ : ∃ R2 : Nat, 2 * r = R2 := ⟨_, rfl⟩
  have w2r : IntKind.i64.wrap (2 * (r : Int)) = (R2 : Int) := by rw [IntWalk.i64_in _ (by omega)]; omega
  have hmR : m ≤ R2 := by omega
  have hm4 : ¬ 4096 < m := by omega
  clear hR2 hlen
  go_enter Tryd.func28, Tryd.ntmps28
  go_wp2_with fail
  obtain ⟨w0, hw0⟩ : ∃ w0, w0 = w.alloc (.cells #[.int .i64 (k : Int), .int .i64 (r : Int), .slice p n c] 53) := ⟨_, rfl⟩
  have hb0 : Below w.heap.size w w0 := by rw [hw0]; exact (Below.refl _ _).alloc (Nat.le_refl _) _
  have hE0 : Rul3 w0 w.heap.size (.int .i64 (k : Int)) (.int .i64 (r : Int)) (.slice p n c) := by rw [hw0]; exact Rul3.new w _ _ _
  rw [← hw0]
  obtain ⟨⟨hf0, hf1, hf2⟩, hc0, hc1, hc2⟩ := hE0.facts
  have HE := Lib.hid (And.intro hE0 hb0)
  clear hw0 hE0 hb0
  go_wp2_with fail
  refine (rcheck_ok k r p n c t w0 H.out.2.1 (H.out.1.next HE.out.2) H.out.2.2.1).mono ?_
  rintro e w1 ⟨rfl, hb1⟩
  have H1 := Lib.hid (And.intro (HE.out.1.next hb1) (HE.out.2.trans (hb1.mono HE.out.2.size)))
  clear hb1 hf0 hf1 hf2 hc0 hc1 hc2
  obtain ⟨⟨hf0, hf1, hf2⟩, hc0, hc1, hc2⟩ := H1.out.1.facts
  go_wp2_with fail
  refine (stray_any (k : Int) q m d l w1 H.out.2.2.2.2.2.1 (H.out.2.2.2.2.1.next H1.out.2)).mono ?_
  rintro e w2 ⟨rfl, rfl⟩
  rw [H.out.2.2.2.1]
  go_wp2_with fail
  go_ret2
  exact ⟨none, 0, by rw [H.out.2.2.2.2.2.2]; rfl, by rw [H.out.2.2.2.2.2.2]; exact IntO.nothing _ _, H1.out.2⟩

def StepRel (w1 : World) (k S m R2 u : Nat) (l I : List Int) (v9 v46 : Value) (wr : World) : Prop :=
  ∃ j : Nat, j ≤ m ∧ v46 = .int .i64 (j : Int) ∧ v9 = .int .i64 ((valW k (l.take j) % S : Nat) : Int) ∧ IntO w1.heap.size wr (some ⟨w1.heap.size, 0, none⟩) u (I.take (j - R2) ++ List.replicate (u - (j - R2)) 0) ∧ Below w1.heap.size w1 wr
set_option maxRecDepth 100000 in
set_option maxHeartbeats 4000000 in
theorem step_long (k r : Nat) (p q : Option Addr) (n c m d : Nat) (t l : List Int) (w : World) (hn : n = t.length) (hm : m = l.length) (h : IntV w.heap.size w p c t) (hl : IntV w.heap.size w q d l) (ho : OkR k r t) (hlen : 2 * r < m) (hm4 : m ≤ 4096) (hw : okW k l) :
    Calls Tryd.prog 28 #[.agg #[.int .i64 (k : Int), .int .i64 (r : Int), .slice p n c], .slice q m d] w (IntOk w (imgW k r t l)) := by
  have h1 := ho.k1
  have h4 := ho.k4
  have h3 := ho.r3
  have hle := hl.le
  have hcap := hl.cap
  have hcap2 := h.cap
  have hle2 := h.le
  unfold maxLen at hcap hcap2
  have hmd : m ≤ d := by omega
  have hnc : n ≤ c := by omega
  have hst := strayN_ok hw
  rw [← hm] at hst
  have hn16 : n ≤ 16384 := by rw [hn, ho.len]; exact pow_le h4 h3
  have hn1 : 1 ≤ n := by rw [hn, ho.len]; exact pow_pos h1
  obtain ⟨R2, hR2⟩ : ∃ R2 : Nat, 2 * r = R2 := ⟨_, rfl⟩
  have hS : n = k ^ (R2 + 1) := by rw [hn, ho.len, hR2]
  have hil := imgW_length k r t l
  have hig := fun i => @imgW_get k r t l i
  rw [hR2] at hil hig
  obtain ⟨I, hI⟩ : ∃ I, imgW k r t l = I := ⟨_, rfl⟩
  rw [hI] at hil ⊢
  simp only [hI] at hig
  obtain ⟨u, hu⟩ : ∃ u, m - R2 = u := ⟨_, rfl⟩
  have hIu : I.length = u := by rw [hil, ← hm, hu]
  have w2r : IntKind.i64.wrap (2 * (r : Int)) = (R2 : Int) := by rw [IntWalk.i64_in _ (by omega)]; omega
  have wmu : IntKind.i64.wrap ((m : Int) - (R2 : Int)) = (u : Int) := by rw [IntWalk.i64_in _ (by omega)]; omega
  have hmR : ¬ m ≤ R2 := by omega
  have hR6 : R2 ≤ 6 := by omega
  have hu4 : u ≤ 4096 := by omega
  have hmk := makeI u (by omega)
  have H := Lib.hid (And.intro h (And.intro hn (And.intro ho (And.intro hst (And.intro hl (And.intro hm (And.intro hig (And.intro hIu (And.intro hS (And.intro hw hu))))))))))
  clear h hn ho hst hl hm hw hle hle2 hig hIu hil hI hS hlen hR2 hu
  go_enter Tryd.func28, Tryd.ntmps28
  go_wp2_with fail
  obtain ⟨w0, hw0⟩ : ∃ w0, w0 = w.alloc (.cells #[.int .i64 (k : Int), .int .i64 (r : Int), .slice p n c] 53) := ⟨_, rfl⟩
  have hb0 : Below w.heap.size w w0 := by rw [hw0]; exact (Below.refl _ _).alloc (Nat.le_refl _) _
  have hE0 : Rul3 w0 w.heap.size (.int .i64 (k : Int)) (.int .i64 (r : Int)) (.slice p n c) := by rw [hw0]; exact Rul3.new w _ _ _
  rw [← hw0]
  obtain ⟨⟨hf0, hf1, hf2⟩, hc0, hc1, hc2⟩ := hE0.facts
  have HE := Lib.hid (And.intro hE0 hb0)
  clear hw0 hE0 hb0
  go_wp2_with fail
  refine (rcheck_ok k r p n c t w0 H.out.2.1 (H.out.1.next HE.out.2) H.out.2.2.1).mono ?_
  rintro e w1 ⟨rfl, hb1⟩
  have H1 := Lib.hid (And.intro (HE.out.1.next hb1) (HE.out.2.trans (hb1.mono HE.out.2.size)))
  clear hb1 hf0 hf1 hf2 hc0 hc1 hc2
  obtain ⟨⟨hf0, hf1, hf2⟩, hc0, hc1, hc2⟩ := H1.out.1.facts
  have hs01 : w.heap.size < w1.heap.size := H1.out.1.lt
  go_wp2_with fail
  refine (stray_any (k : Int) q m d l w1 H.out.2.2.2.2.2.1 (H.out.2.2.2.2.1.next H1.out.2)).mono ?_
  rintro e w2 ⟨rfl, rfl⟩
  rw [H.out.2.2.2.1]
  have hmk1 := hmk w1
  have ho0 := IntO.made w1 u (by omega)
  have hbm : Below w1.heap.size w1 (w1.alloc (.cells (madeCells #[.int .i64 0] u) 3)) := (Below.refl _ _).alloc (Nat.le_refl _) _
  have HO := Lib.hid (And.intro ho0 hbm)
  clear hmk ho0 hbm
  go_wp2_with fail
  clear hmk1
  go_loopw [9, 46] (fun v9 v46 wr => StepRel w1 k n m R2 u l I v9 v46 wr) (fun _ v _ => m - (intOf v).toNat)
  case atStart => exact ⟨0, Nat.zero_le _, rfl, by simp [valW], by simpa using HO.out.1, HO.out.2⟩
  case round =>
    obtain ⟨j, hj, rfl, rfl, ho, hb⟩ := hrel
    have hbw : Below w.heap.size w wr := H1.out.2.trans (hb.mono H1.out.2.size)
    have hBx := H1.out.1.next hb
    clear hf0 hf1 hf2 hc0 hc1 hc2
    obtain ⟨⟨hf0, hf1, hf2⟩, hc0, hc1, hc2⟩ := hBx.facts
    by_cases hlt : j < m
    · have hml := H.out.2.2.2.2.2.1
      obtain ⟨b, off, rfl, hbb, hc⟩ := H.out.2.2.2.2.1.cell (by rintro rfl; simp at hml; omega)
      obtain ⟨x, hx⟩ := getI (l := l) (k := j) (by omega)
      have hcx : wr.cell? ⟨b, off + j, none⟩ = some (.int .i64 x) := (hbw.cell (p := ⟨b, off + j, none⟩) hbb).trans (hc j x hx)
      have hxo := H.out.2.2.2.2.2.2.2.2.2.1 x (List.mem_of_getElem? hx)
      have hstep := step_mod (k := k) (S := n) hx
      obtain ⟨y, rfl⟩ : ∃ y : Nat, x = (y : Int) := ⟨x.toNat, by omega⟩
      rw [Int.toNat_natCast] at hstep
      have hv1 : valW k (l.take j) % n < n := Nat.mod_lt _ (by omega)
      have hv2 : valW k (l.take (j + 1)) % n < n := Nat.mod_lt _ (by omega)
      obtain ⟨v, hv⟩ : ∃ v, valW k (l.take j) % n = v := ⟨_, rfl⟩
      obtain ⟨z, hz⟩ : ∃ z, valW k (l.take (j + 1)) % n = z := ⟨_, rfl⟩
      rw [hv] at hstep hv1 ⊢
      rw [hz] at hstep hv2
      obtain ⟨a, ha⟩ : ∃ a, v * k = a := ⟨_, rfl⟩
      have ha16 : a ≤ 16384 * 4 := by rw [← ha]; exact Nat.mul_le_mul (by omega) h4
      have hvk : ((v : Int) * (k : Int)) = (a : Int) := by rw [← ha]; push_cast; rfl
      rw [ha] at hstep
      have wvk : IntKind.i64.wrap ((v : Int) * (k : Int)) = (a : Int) := by rw [hvk, IntWalk.i64_in _ (by omega)]
      have wax : IntKind.i64.wrap ((a : Int) + (y : Int)) = (a : Int) + (y : Int) := by rw [IntWalk.i64_in _ (by omega)]
      have e1 : ((a : Int) + (y : Int)) % (n : Int) = (z : Int) := by rw [← hstep]; push_cast; rfl
      have t1 : ((a : Int) + (y : Int)).tmod (n : Int) = (z : Int) := by rw [Int.tmod_eq_emod_of_nonneg (by omega), e1]
      have hn0 : ¬ (n : Int) = 0 := by omega
      by_cases hjR : j < R2
      · have e2 : j - R2 = 0 := by omega
        have e3 : j + 1 - R2 = 0 := by omega
        rw [e2] at ho
        have HS := Lib.hid (And.intro hz (And.intro hb (And.intro ho e3)))
        clear hc hx hv hz ha hvk hstep hml hb ho hbw hBx e2 e3
        go_wp2_with fail
        go_roundw
        case rel => exact ⟨j + 1, by omega, by go_num, by rw [HS.out.1], by rw [HS.out.2.2.2]; exact HS.out.2.2.1, HS.out.2.1⟩
        case measure => simp [intOf]; omega
      · obtain ⟨i, hi⟩ : ∃ i, j - R2 = i := ⟨_, rfl⟩
        have hiu : i < u := by have := H.out.2.2.2.2.2.2.2.2.2.2; omega
        have wji : IntKind.i64.wrap ((j : Int) - (R2 : Int)) = (i : Int) := by rw [IntWalk.i64_in _ (by omega)]; omega
        have hIi := H.out.2.2.2.2.2.2.1 i (by have := H.out.2.2.2.2.2.2.2.2.2.2; omega)
        have hwm := win_mod (k := k) (w := l) (i := i) (n := R2 + 1) H.out.2.2.2.2.2.2.2.2.2.1 (by omega)
        rw [show i + (R2 + 1) = j + 1 by omega, ← H.out.2.2.2.2.2.2.2.2.1, hz] at hwm
        rw [← hwm] at hIi
        have hzt : z < t.length := by have := H.out.2.1; omega
        have hg := ent_get hzt
        obtain ⟨b2, off2, rfl, hb2, hc2'⟩ := H.out.1.cell (by rintro rfl; simp at hzt)
        have hcz : wr.cell? ⟨b2, off2 + z, none⟩ = some (.int .i64 (ent t z)) := (hbw.cell (p := ⟨b2, off2 + z, none⟩) hb2).trans (hc2' _ _ hg)
        obtain ⟨f, hf⟩ : ∃ f, ent t z = f := ⟨_, rfl⟩
        rw [hf] at hcz hIi
        rw [hi] at ho
        have hput := put_next hIi hiu
        have hmid := mid_len (l := I) (j := i) (n := u) (by have := H.out.2.2.2.2.2.2.2.1; omega) (by omega)
        obtain ⟨xs, hxs⟩ : ∃ xs, I.take i ++ List.replicate (u - i) (0 : Int) = xs := ⟨_, rfl⟩
        rw [hxs] at ho hput hmid
        have hown : wr.ownsRow w1.heap.size 3 1 (.slice (some ⟨w1.heap.size, 0, none⟩) u u) u (cI xs) := by
          unfold IntO at ho
          rwa [hmid] at ho
        obtain ⟨y0, hy0⟩ := getI (l := xs) (k := i) (by omega)
        have hcy : wr.cell? ⟨w1.heap.size, i, none⟩ = some (.int .i64 y0) := (hown.cellAt i (by omega)).trans (cI_get hy0)
        have hfy : wr.frozen? ⟨w1.heap.size, i, none⟩ = false := hown.frozenAt i
        obtain ⟨s1, t1'⟩ := hown.stored i (.int .i64 f)
        rw [← cI_set, hput] at s1
        have hb1 : Below w1.heap.size w1 (wr.setCell ⟨w1.heap.size, i, none⟩ (.int .i64 f)) := hb.setCell (p := ⟨w1.heap.size, i, none⟩) (Nat.le_refl _) _
        have hmid1 := mid_len (l := I) (j := i + 1) (n := u) (by have := H.out.2.2.2.2.2.2.2.1; omega) (by omega)
        have hij : j + 1 - R2 = i + 1 := by omega
        have HS := Lib.hid (And.intro hz (And.intro hb1 (And.intro s1 (And.intro hmid1 hij))))
        have hzn : z < n := hv2
        clear hc hx hv hz ha hvk hstep hml hb ho hbw hBx hi hIi hwm hzt hg hf hput hmid hxs hown s1 t1' hb1 hmid1 hij hc2' hy0
        go_wp2_with fail
        go_region
        go_wp2_with fail
        go_roundw
        case rel => exact ⟨j + 1, by omega, by go_num, by rw [HS.out.1], by rw [HS.out.2.2.2.2]; unfold IntO; rw [HS.out.2.2.2.1]; exact HS.out.2.2.1, HS.out.2.1.drew⟩
        case measure => simp [intOf]; omega
    · obtain rfl : j = m := by omega
      have hju : j - R2 = u := H.out.2.2.2.2.2.2.2.2.2.2
      have hIu := H.out.2.2.2.2.2.2.2.1
      have he : I.take u ++ List.replicate (u - u) (0 : Int) = I := by rw [Nat.sub_self, List.replicate_zero, List.append_nil, ← hIu, List.take_length]
      rw [hju, he] at ho
      have HF := Lib.hid (And.intro (ho.base (Nat.le_of_lt hs01)) hbw)
      clear ho hb he hbw hBx hju hIu
      go_wp2_with fail
      go_ret2
      exact ⟨_, _, by rw [H.out.2.2.2.2.2.2.2.1]; rfl, HF.out.1, HF.out.2⟩
end Go.Proofs.YtfgoflaeclfggaaDoor
end
section
namespace Go.Proofs.YtfgoflaeclfggaaDoor
open Go.RowKit Go.Extern.Stop Go.Stop Go.Extern

/-- What Code tells of a tree: no number for no error, the least number that is found, or 99. -/
def IsCode (A : Nat → Addr) (t : Tree) (c : Int) : Prop :=
  (t.isNil = true ∧ c = 0) ∨
  (t.isNil = false ∧ ∃ k : Nat, 1 ≤ k ∧ k ≤ 11 ∧ c = k ∧ t.hits 132 (A k) = true ∧ ∀ j, 1 ≤ j → j < k → t.hits 132 (A j) = false) ∨
  (t.isNil = false ∧ c = 99 ∧ ∀ j, 1 ≤ j → j ≤ 11 → t.hits 132 (A j) = false)
def CodePost (w : World) (A : Nat → Addr) (t : Tree) (e : Ending) (w' : World) : Prop := ∃ c, e = .returned (.int .i64 c) ∧ IsCode A t c ∧ Below w.heap.size w w'
def CodeRel (w : World) (A : Nat → Addr) (t : Tree) (v : Value) (wr : World) : Prop :=
  ∃ k : Nat, 1 ≤ k ∧ k ≤ 12 ∧ v = .int .i64 k ∧ (∀ j, 1 ≤ j → j < k → t.hits 132 (A j) = false) ∧ Below w.heap.size w wr

theorem known_nat {k : Nat} (h1 : 1 ≤ k) (h2 : k ≤ 11) : known (k : Int) = k := by unfold known; rw [if_pos (by omega)]; omega

set_option maxHeartbeats 2000000 in
theorem code_any (t : Tree) (w : World) (A : Nat → Addr) (hl : t.lies w) (hr : Roots w A) :
    Calls Tryd.prog 71 #[t.val] w (CodePost w A t) := by
  have hn1 := eql_isNil t
  have hn2 := guard_isNil t
  by_cases hnn : t.isNil = true
  · have HN := Lib.hid hnn
    obtain rfl := Tree.val_isNil _ hnn
    clear hl hr
    go_enter Tryd.func71, Tryd.ntmps71
    go_wp2_with fail
    go_ret
    exact ⟨_, rfl, Or.inl ⟨rfl, rfl⟩, Below.refl _ _⟩
  · have hnn : t.isNil = false := by simpa using hnn
    have HN := Lib.hid hnn
    have HL := Lib.hid hl
    have HR := Lib.hid hr
    clear hl hr
    go_enter Tryd.func71, Tryd.ntmps71
    go_wp2_with fail
    clear hnn hn1 hn2
    go_loopw [3] (fun v wr => CodeRel w A t v wr) (fun i _ => 12 - (intOf i).toNat)
    case atStart => exact ⟨1, Nat.le_refl _, by decide, rfl, fun j h1 h2 => by omega, Below.refl _ _⟩
    case round =>
      obtain ⟨k, hk1, hk2, rfl, hj, hb⟩ := hrel
      have HJ := Lib.hid hj
      clear hj
      by_cases hlt : k ≤ 11
      · have hc := holds_any t wr 132 (A k) (Tree.lies_below hb (t := t) HL.out) ((HR.out.below hb).there k (by omega)) (Or.inl rfl)
        have hk := known_nat hk1 hlt
        have HK := Lib.hid hk
        clear hk
        go_wp2_with fail
        refine (numbered_any (k : Int) wr A (HR.out.below hb)).mono ?_
        rintro e w1 ⟨rfl, rfl⟩
        rw [HK.out]
        have hv : (Tree.leaf (A k)).val = .iface 132 (.pointer (some (A k))) := rfl
        rw [hv]
        clear hv
        go_wp2_with fail
        refine hc.mono ?_
        clear hc
        rintro e w2 ⟨he, hb2⟩
        by_cases hh : t.hits 132 (A k) = true
        · rw [hh] at he
          have HH := Lib.hid hh
          clear hh
          subst he
          go_wp2_with fail
          go_ret
          exact ⟨_, rfl, Or.inr (Or.inl ⟨HN.out, k, hk1, hlt, rfl, HH.out, HJ.out⟩), hb.trans (hb2.mono hb.size)⟩
        · have hh : t.hits 132 (A k) = false := by simpa using hh
          rw [hh] at he
          have HH := Lib.hid hh
          clear hh
          subst he
          go_wp2_with fail
          go_roundw
          case rel => exact ⟨k + 1, by omega, by omega, by go_num, fun j h1 h2 => by
            rcases Nat.lt_or_ge j k with h | h
            · exact HJ.out j h1 h
            · obtain rfl : j = k := by omega
              exact HH.out, hb.trans (hb2.mono hb.size)⟩
          case measure => simp [intOf]; omega
      · obtain rfl : k = 12 := by omega
        go_wp2_with fail
        go_ret
        exact ⟨_, rfl, Or.inr (Or.inr ⟨HN.out, rfl, fun j h1 h2 => HJ.out j h1 (by omega)⟩), hb⟩
/-- The tree ends in api's error number m (0: Unknown), and in no other. -/
def Ends (A : Nat → Addr) (m : Nat) (t : Tree) : Prop := t.isNil = false ∧ ∀ j, 1 ≤ j → j ≤ 11 → t.hits 132 (A j) = decide (j = m)
def codeNum (m : Nat) : Int := if m = 0 then 99 else m

theorem Ends.code {A : Nat → Addr} {m : Nat} {t : Tree} {c : Int} (hm : m ≤ 11) (h : Ends A m t) (hc : IsCode A t c) : c = codeNum m := by
  obtain ⟨hn, h⟩ := h
  unfold codeNum
  rcases hc with ⟨h1, _⟩ | ⟨_, k, hk1, hk2, rfl, hh, hj⟩ | ⟨_, rfl, hj⟩
  · rw [hn] at h1; cases h1
  · rw [h k hk1 hk2] at hh
    obtain rfl := of_decide_eq_true hh
    rw [if_neg (by omega)]
  · rcases Nat.eq_zero_or_pos m with h0 | h0
    · rw [if_pos h0]
    · have := hj m h0 hm
      rw [h m h0 hm] at this
      exact absurd rfl (of_decide_eq_false this)
theorem Ends.leaf {w : World} {A : Nat → Addr} (hr : Roots w A) {m : Nat} (hm : m ≤ 11) : Ends A m (.leaf (A m)) :=
  ⟨rfl, fun j h1 h2 => by
    simp only [Tree.hits]
    by_cases h : j = m
    · subst h; simp
    · have : A m ≠ A j := fun e => h (hr.apart _ _ hm h2 e).symm
      simp [h, this]⟩
theorem Ends.fault {A : Nat → Addr} {m b : Nat} {op : ByteArray} {pl : Int} {t : Tree} (h : Ends A m t) : Ends A m (.fault b op pl t) :=
  ⟨rfl, fun j h1 h2 => by
    simp only [Tree.hits]
    rw [h.2 j h1 h2]
    simp⟩

/-- Code of one Fault -/
theorem code_fault (b : Nat) (op : ByteArray) (pl : Int) (m : Nat) (w : World) (A : Nat → Addr) (hr : Roots w A) (hm : 1 ≤ m ∧ m ≤ 11) (hl : (Tree.fault b op pl (.leaf (A m))).lies w) :
    Calls Tryd.prog 71 #[.iface 73 (.pointer (some ⟨b, 0, none⟩))] w (Tells (.int .i64 (m : Int)) w) :=
  (code_any (.fault b op pl (.leaf (A m))) w A hl hr).mono fun e w' ⟨c, he, hc, hb⟩ => by
    have h1 := Ends.code hm.2 (Ends.leaf hr hm.2).fault hc
    unfold codeNum at h1
    rw [if_neg (by omega)] at h1
    subst h1
    exact ⟨he, hb⟩
theorem place_fault (b : Nat) (op : ByteArray) (pl : Int) (v : Value) (w : World) (hb : w.heap[b]? = some (.cells #[.string op, .int .i64 pl, v] 77 (0, 0))) :
    Calls Tryd.prog 77 #[.pointer (some ⟨b, 0, none⟩)] w (Tells (.tuple #[.string op, .int .i64 pl, .bool true]) w) := by
  have h0 : w.cell? ⟨b, 0, none⟩ = some (.string op) := by simp [World.cell?, hb]
  have h1 : w.cell? ⟨b, 1, none⟩ = some (.int .i64 pl) := by simp [World.cell?, hb]
  clear hb
  go_enter Tryd.func77, Tryd.ntmps77
  go_wp2
  go_quiet (fail)
  go_wp2
  go_ret3
  exact ⟨rfl, below_drewN (Below.refl _ _) _⟩
/-- Outer of one Fault -/
theorem outer_fault (b : Nat) (op : ByteArray) (pl : Int) (a : Addr) (w : World) (hT : TypeVar w) (hl : (Tree.fault b op pl (.leaf a)).lies w) :
    Calls Tryd.prog 70 #[.iface 73 (.pointer (some ⟨b, 0, none⟩))] w (Tells (.tuple #[.string op, .int .i64 pl, .bool true]) w) := by
  have hc := first_any (.fault b op pl (.leaf a)) w hl hT
  have hv : firstPtr (.fault b op pl (.leaf a)) = .pointer (some ⟨b, 0, none⟩) := rfl
  unfold FirstPost at hc
  rw [hv] at hc
  have HL := Lib.hid hl
  have HC := Lib.hid hc
  clear hT hl hc hv
  go_enter Tryd.func70, Tryd.ntmps70
  go_wp2_with fail
  refine HC.out.mono ?_
  rintro e w1 ⟨rfl, hb⟩
  have hp := place_fault b op pl (Tree.leaf a).val w1 ((hb.block _ (heap_lt HL.out.1)).trans HL.out.1)
  go_wp2_with fail
  refine hp.mono ?_
  clear hp
  rintro e w2 ⟨rfl, hb2⟩
  go_wp2_with fail
  go_ret3
  exact ⟨rfl, hb.trans (hb2.mono hb.size)⟩
end Go.Proofs.YtfgoflaeclfggaaDoor
end
section
namespace Go.Proofs.YtfgoflaeclfggaaDoor
open Go.RowKit Go.Extern.Stop Go.Stop Go.Extern

/-- block b begins a chain: these packages and places, one within another, and then the error of the number -/
def Chn (w : World) (A : Nat → Addr) (b : Nat) (L : List (ByteArray × Int)) (m : Nat) : Prop :=
  ∃ (op : ByteArray) (pl : Int) (bs : List (Nat × ByteArray × Int)), (op, pl) :: bs.map Prod.snd = L ∧ (chainT ((b, op, pl) :: bs) (A m)).lies w
theorem Chn.next {w w' : World} {A : Nat → Addr} {b : Nat} {L : List (ByteArray × Int)} {m : Nat} (hb : Below w.heap.size w w') (h : Chn w A b L m) : Chn w' A b L m := by
  obtain ⟨op, pl, bs, h1, h2⟩ := h
  exact ⟨op, pl, bs, h1, Tree.lies_below hb h2⟩
theorem Chn.one {w : World} {A : Nat → Addr} {b : Nat} {op : ByteArray} {pl : Int} {m : Nat} (h : (Tree.fault b op pl (.leaf (A m))).lies w) : Chn w A b [(op, pl)] m := ⟨op, pl, [], rfl, h⟩
/-- an error, alone -/
def FErr1 (w : World) (A : Nat → Addr) (L : List (ByteArray × Int)) (m : Nat) (e : Ending) (w' : World) : Prop :=
  ∃ b, e = .returned (.iface 73 (.pointer (some ⟨b, 0, none⟩))) ∧ Chn w' A b L m ∧ Below w.heap.size w w'
/-- an error behind a first result -/
def FErr2 (w : World) (A : Nat → Addr) (L : List (ByteArray × Int)) (m : Nat) (u : Value) (e : Ending) (w' : World) : Prop :=
  ∃ b, e = .returned (.tuple #[u, .iface 73 (.pointer (some ⟨b, 0, none⟩))]) ∧ Chn w' A b L m ∧ Below w.heap.size w w'
theorem Err1.chn {w : World} {A : Nat → Addr} {op : ByteArray} {pl : Int} {m : Nat} {e : Ending} {w' : World} (h : Err1 w A op pl m e w') : FErr1 w A [(op, pl)] m e w' := by
  obtain ⟨b, he, hl, hb⟩ := h
  exact ⟨b, he, Chn.one hl, hb⟩
theorem Err2.chn {w : World} {A : Nat → Addr} {op : ByteArray} {pl : Int} {m : Nat} {u : Value} {e : Ending} {w' : World} (h : Err2 w A op pl m u e w') : FErr2 w A [(op, pl)] m u e w' := by
  obtain ⟨b, he, hl, hb⟩ := h
  exact ⟨b, he, Chn.one hl, hb⟩
theorem under_chn (op : ByteArray) (pl : Int) (b : Nat) (L : List (ByteArray × Int)) (m : Nat) (w : World) (A : Nat → Addr) (h : Chn w A b L m) :
    Calls Tryd.prog 51 #[.string op, .int .i64 pl, .iface 73 (.pointer (some ⟨b, 0, none⟩))] w (FErr1 w A ((op, pl) :: L) m) := by
  obtain ⟨op', pl', bs, rfl, hl⟩ := h
  exact (under_any op pl (chainT ((b, op', pl') :: bs) (A m)) w hl rfl).mono fun e w' ⟨he, hb, _, hl'⟩ => ⟨w.heap.size, he, ⟨op, pl, (b, op', pl') :: bs, rfl, hl'⟩, hb⟩
theorem under_none (op : ByteArray) (pl : Int) (w : World) :
    Calls Tryd.prog 51 #[.string op, .int .i64 pl, .nilIface] w (Tells .nilIface w) := Tells.of_same (under_nil op pl w)
/-- the document's: its number, and its two slices of one length -/
def WChn (w : World) (x : Option (List (ByteArray × Int) × Nat)) (a : Int) (po pa : Option Addr) (n : Nat) : Prop := match x with
  | none => a = 0 ∧ po = none ∧ pa = none ∧ n = 0
  | some (L, m) => a = m ∧ n = L.length ∧ WantV w po pa n n L
theorem WChn.next {w w' : World} {x : Option (List (ByteArray × Int) × Nat)} {a : Int} {po pa : Option Addr} {n : Nat} (hb : Below w.heap.size w w') (h : WChn w x a po pa n) : WChn w' x a po pa n := by
  cases x with
  | none => exact h
  | some y => exact ⟨h.1, h.2.1, h.2.2.below hb⟩
/-- the program's: nil, or a chain -/
def PChn (w : World) (A : Nat → Addr) (x : Option (List (ByteArray × Int) × Nat)) (v : Value) : Prop := match x with
  | none => v = .nilIface
  | some (L, m) => ∃ b, v = .iface 73 (.pointer (some ⟨b, 0, none⟩)) ∧ Chn w A b L m
theorem PChn.next {w w' : World} {A : Nat → Addr} {x : Option (List (ByteArray × Int) × Nat)} {v : Value} (hb : Below w.heap.size w w') (h : PChn w A x v) : PChn w' A x v := by
  cases x with
  | none => exact h
  | some y =>
    obtain ⟨b, h1, h2⟩ := h
    exact ⟨b, h1, h2.next hb⟩
theorem is_chn {w : World} {A : Nat → Addr} {x : Option (List (ByteArray × Int) × Nat)} {v : Value} {a : Int} {po pa : Option Addr} {n : Nat} (hr : Roots w A) (hT : TypeVar w) (hx : ∀ y, x = some y → 1 ≤ y.2 ∧ y.2 ≤ 11) (h : PChn w A x v) (h' : WChn w x a po pa n) :
    Calls Tryd.prog 15 #[v, .agg #[.int .i64 a, .slice po n n, .slice pa n n]] w (Tells (.bool true) w) := by
  cases x with
  | none =>
    obtain ⟨rfl, rfl, rfl, rfl⟩ := h'
    obtain rfl : v = .nilIface := h
    exact Is_none none none 0 0 0 0 w
  | some y =>
    obtain ⟨rfl, hn, hw⟩ := h'
    obtain ⟨b, rfl, op, pl, bs, hL, hl⟩ := h
    have hL2 : List.map Prod.snd ((b, op, pl) :: bs) = y.1 := hL
    exact Is_chain ((b, op, pl) :: bs) y.2 (hx y rfl) po pa n n n w A hr hT hl (by rw [hL2]; exact hw) (by rw [hn, ← hL2, List.length_map])
end Go.Proofs.YtfgoflaeclfggaaDoor
end
section
namespace Go.Proofs.YtfgoflaeclfggaaDoor
open Go.RowKit Go.Extern.Stop Go.Stop Go.Extern WordM RuleM

def ringOp : ByteArray := { data := #[114, 105, 110, 103] }
theorem box_rule (w : World) (a b c : Value) : ∀ (w0 : World), w0 = w.alloc (.cells #[a, b, c] 53) → Below w.heap.size w w0 ∧ Rul3 w0 w.heap.size a b c := fun w0 hw0 =>
  ⟨by rw [hw0]; exact (Below.refl _ _).alloc (Nat.le_refl _) _, by rw [hw0]; exact Rul3.new w _ _ _⟩
/-- the fault of the rule, or that of the ring -/
def chkG (k r : Int) (t l : List Int) : Option (List (ByteArray × Int) × Nat) := match chkR k r t with
  | some i => some ([(ringOp, 0), (ruleOp, (i : Int))], 1)
  | none => (chkRg k.toNat l).map fun y => ([(ringOp, (y.1 : Int))], y.2)
theorem chkG_none {k r : Int} {t l : List Int} (h : chkG k r t l = none) : ∃ K R : Nat, k = K ∧ r = R ∧ OkR K R t ∧ 0 < l.length ∧ l.length ≤ 4096 ∧ okW K l := by
  unfold chkG at h
  cases hk : chkR k r t with
  | some i => rw [hk] at h; cases h
  | none =>
    rw [hk] at h
    obtain ⟨K, R, rfl, rfl, ho⟩ := chkR_none hk
    have := chkRg_none (Option.map_eq_none_iff.1 h)
    rw [Int.toNat_natCast] at this
    exact ⟨K, R, rfl, rfl, ho, this⟩
theorem chkG_ok {K R : Nat} {t l : List Int} (ho : OkR K R t) (h0 : 0 < l.length) (h4 : l.length ≤ 4096) (hw : okW K l) : chkG K R t l = none := by
  unfold chkG
  rw [chkR_ok ho, Int.toNat_natCast, chkRg_ok h0 h4 hw]; rfl
theorem chkG_num {k r : Int} {t l : List Int} : ∀ y, chkG k r t l = some y → 1 ≤ y.2 ∧ y.2 ≤ 11 := fun y h => by
  unfold chkG at h
  cases hk : chkR k r t with
  | some i => rw [hk] at h; obtain rfl := Option.some.inj h; simp
  | none =>
    rw [hk] at h
    obtain ⟨z, hz, rfl⟩ := Option.map_eq_some_iff.1 h
    unfold chkRg at hz
    split at hz
    · obtain rfl := Option.some.inj hz; simp
    · split at hz
      · obtain rfl := Option.some.inj hz; simp
      · obtain ⟨i, _, rfl⟩ := Option.map_eq_some_iff.1 hz; simp
theorem chkRg_W {K : Nat} {l : List Int} (h1 : 1 ≤ K) (h4 : K ≤ 4) (h0 : l.length ≠ 0) : chkW (K : Int) l = chkRg K l := by
  unfold chkW chkRg
  rw [if_neg (by omega), if_neg h0]

set_option maxRecDepth 100000 in
set_option maxHeartbeats 4000000 in
theorem gcheck_ok (K R : Nat) (p q : Option Addr) (n c m d : Nat) (t l : List Int) (w : World) (hn : n = t.length) (hm : m = l.length) (h : IntV w.heap.size w p c t) (h' : IntV w.heap.size w q d l) (ho : OkR K R t) (h0 : 0 < l.length) (h4 : l.length ≤ 4096) (hw : okW K l) :
    Calls Tryd.prog 57 #[.agg #[.int .i64 (K : Int), .int .i64 (R : Int), .slice p n c], .slice q m d] w (Tells .nilIface w) := by
  have ST := Lib.hid (box_rule w (.int .i64 (K : Int)) (.int .i64 (R : Int)) (.slice p n c))
  have hm0 : 0 < m := by omega
  have H := Lib.hid (And.intro hn (And.intro hm (And.intro h (And.intro h' (And.intro ho (chkW_ok ho.k1 ho.k4 h4 hw))))))
  clear hn hm h h' ho h0 h4 hw
  go_enter Tryd.func57, Tryd.ntmps57
  go_wp2_with fail
  obtain ⟨w0, hw0⟩ : ∃ w0, w0 = w.alloc (.cells #[.int .i64 (K : Int), .int .i64 (R : Int), .slice p n c] 53) := ⟨_, rfl⟩
  rw [← hw0]
  obtain ⟨hb0, hE0⟩ := ST.out w0 hw0
  have HE := Lib.hid (And.intro hE0 hb0)
  obtain ⟨_, hc0, hc1, hc2⟩ := hE0.facts
  clear hw0 hE0 hb0
  go_wp2_with fail
  refine (rcheck_ok K R p n c t w0 H.out.1 (H.out.2.2.1.next HE.out.2) H.out.2.2.2.2.1).mono ?_
  rintro e w1 ⟨rfl, hb1⟩
  have H1 := Lib.hid (And.intro (HE.out.1.next hb1) (HE.out.2.trans (hb1.mono HE.out.2.size)))
  clear hb1 hc0 hc1 hc2
  obtain ⟨_, hc0, hc1, hc2⟩ := H1.out.1.facts
  go_wp2_with fail
  refine (check_ok (K : Int) q m d l w1 H.out.2.1 (H.out.2.2.2.1.next H1.out.2) H.out.2.2.2.2.2).mono ?_
  rintro e w2 ⟨rfl, hb2⟩
  have H2 := Lib.hid (H1.out.2.trans (hb2.mono H1.out.2.size))
  clear hb2 hc0 hc1 hc2
  go_wp2_with fail
  go_ret
  exact ⟨rfl, H2.out⟩
set_option maxRecDepth 100000 in
set_option maxHeartbeats 8000000 in
theorem gcheck_bad (k r : Int) (p q : Option Addr) (n c m d : Nat) (t l : List Int) (w : World) (A : Nat → Addr) (hr : Roots w A) (hT : TypeVar w) (hn : n = t.length) (hm : m = l.length) (h : IntV w.heap.size w p c t) (h' : IntV w.heap.size w q d l) (L : List (ByteArray × Int)) (M : Nat) (hc : chkG k r t l = some (L, M)) :
    Calls Tryd.prog 57 #[.agg #[.int .i64 k, .int .i64 r, .slice p n c], .slice q m d] w (FErr1 w A L M) := by
  unfold chkG at hc
  cases hk : chkR k r t with
  | some i =>
    rw [hk] at hc
    obtain ⟨rfl, rfl⟩ := Prod.mk.inj (Option.some.inj hc)
    have ST := Lib.hid (box_rule w (.int .i64 k) (.int .i64 r) (.slice p n c))
    have H := Lib.hid (And.intro hn (And.intro h (And.intro hr hk)))
    clear hn hm h h' hr hT hk hc
    go_enter Tryd.func57, Tryd.ntmps57
    go_wp2_with fail
    obtain ⟨w0, hw0⟩ : ∃ w0, w0 = w.alloc (.cells #[.int .i64 k, .int .i64 r, .slice p n c] 53) := ⟨_, rfl⟩
    rw [← hw0]
    obtain ⟨hb0, hE0⟩ := ST.out w0 hw0
    have HE := Lib.hid (And.intro hE0 hb0)
    obtain ⟨_, hc0, hc1, hc2⟩ := hE0.facts
    clear hw0 hE0 hb0
    go_wp2_with fail
    refine (rcheck_bad k r p n c t w0 A (H.out.2.2.1.below HE.out.2) H.out.1 (H.out.2.1.next HE.out.2) i H.out.2.2.2).mono ?_
    rintro e w1 ⟨b1, rfl, hl1, hb1⟩
    have H1 := Lib.hid (And.intro (HE.out.2.trans (hb1.mono HE.out.2.size)) (Chn.one hl1))
    clear hb1 hc0 hc1 hc2 hl1
    go_wp2_with fail
    refine (under_chn ringOp 0 b1 _ 1 w1 A H1.out.2).mono ?_
    rintro e w2 ⟨b2, rfl, hl2, hb2⟩
    have H2 := Lib.hid (And.intro (H1.out.1.trans (hb2.mono H1.out.1.size)) hl2)
    clear hb2 hl2
    go_wp2_with fail
    go_ret
    exact ⟨b2, rfl, H2.out.2, H2.out.1⟩
  | none =>
    rw [hk] at hc
    obtain ⟨K, R, rfl, rfl, ho⟩ := chkR_none hk
    rw [Int.toNat_natCast] at hc
    obtain ⟨⟨i, M'⟩, hi, hL⟩ := Option.map_eq_some_iff.1 hc
    obtain ⟨rfl, rfl⟩ := Prod.mk.inj hL
    have ST := Lib.hid (box_rule w (.int .i64 (K : Int)) (.int .i64 (R : Int)) (.slice p n c))
    rcases Nat.eq_zero_or_pos m with h0 | h0
    · subst h0
      have he : chkRg K l = some (0, 3) := by unfold chkRg; rw [if_pos hm.symm]
      rw [he] at hi
      obtain ⟨rfl, rfl⟩ := Prod.mk.inj (Option.some.inj hi)
      have H := Lib.hid (And.intro hn (And.intro h (And.intro hr ho)))
      clear hn hm h h' hr hT hk hc ho hi hL he
      go_enter Tryd.func57, Tryd.ntmps57
      go_wp2_with fail
      obtain ⟨w0, hw0⟩ : ∃ w0, w0 = w.alloc (.cells #[.int .i64 (K : Int), .int .i64 (R : Int), .slice p n c] 53) := ⟨_, rfl⟩
      rw [← hw0]
      obtain ⟨hb0, hE0⟩ := ST.out w0 hw0
      have HE := Lib.hid (And.intro hE0 hb0)
      obtain ⟨_, hc0, hc1, hc2⟩ := hE0.facts
      clear hw0 hE0 hb0
      go_wp2_with fail
      refine (rcheck_ok K R p n c t w0 H.out.1 (H.out.2.1.next HE.out.2) H.out.2.2.2).mono ?_
      rintro e w1 ⟨rfl, hb1⟩
      have H1 := Lib.hid (HE.out.2.trans (hb1.mono HE.out.2.size))
      clear hb1 hc0 hc1 hc2
      go_wp2_with fail
      refine (new_at ringOp 0 3 w1 A (H.out.2.2.1.below H1.out) (by decide)).mono ?_
      rintro e w2 ⟨b2, rfl, hl2, hb2⟩
      have H2 := Lib.hid (And.intro (H1.out.trans (hb2.mono H1.out.size)) hl2)
      clear hb2 hl2
      go_wp2_with fail
      go_ret
      exact ⟨b2, rfl, Chn.one H2.out.2, H2.out.1⟩
    · have hiW : chkW (K : Int) l = some (i, M') := by rw [chkRg_W ho.k1 ho.k4 (by omega)]; exact hi
      have hM : 1 ≤ M' ∧ M' ≤ 11 := chkG_num (k := (K : Int)) (r := (R : Int)) (t := t) (l := l) _ (by unfold chkG; rw [hk, Int.toNat_natCast, hi]; rfl)
      have H := Lib.hid (And.intro hn (And.intro h (And.intro hr (And.intro ho (And.intro hT (And.intro hm (And.intro h' (And.intro hiW hM))))))))
      clear hn hm h h' hr hT hk hc ho hi hL hiW hM
      go_enter Tryd.func57, Tryd.ntmps57
      go_wp2_with fail
      obtain ⟨w0, hw0⟩ : ∃ w0, w0 = w.alloc (.cells #[.int .i64 (K : Int), .int .i64 (R : Int), .slice p n c] 53) := ⟨_, rfl⟩
      rw [← hw0]
      obtain ⟨hb0, hE0⟩ := ST.out w0 hw0
      have HE := Lib.hid (And.intro hE0 hb0)
      obtain ⟨_, hc0, hc1, hc2⟩ := hE0.facts
      clear hw0 hE0 hb0
      go_wp2_with fail
      refine (rcheck_ok K R p n c t w0 H.out.1 (H.out.2.1.next HE.out.2) H.out.2.2.2.1).mono ?_
      rintro e w1 ⟨rfl, hb1⟩
      have H1 := Lib.hid (And.intro (HE.out.1.next hb1) (HE.out.2.trans (hb1.mono HE.out.2.size)))
      clear hb1 hc0 hc1 hc2
      obtain ⟨_, hc0, hc1, hc2⟩ := H1.out.1.facts
      go_wp2_with fail
      refine (check_bad (K : Int) q m d l w1 A (H.out.2.2.1.below H1.out.2) H.out.2.2.2.2.2.1 (H.out.2.2.2.2.2.2.1.next H1.out.2) i M' H.out.2.2.2.2.2.2.2.1).mono ?_
      rintro e w2 ⟨b2, rfl, hl2, hb2⟩
      have H2 := Lib.hid (And.intro (H1.out.2.trans (hb2.mono H1.out.2.size)) hl2)
      clear hb2 hl2 hc0 hc1 hc2
      go_wp2_with fail
      refine (outer_fault b2 wordOp i (A M') w2 (H.out.2.2.2.2.1.below H2.out.1) H2.out.2).mono ?_
      rintro e w3 ⟨rfl, hb3⟩
      have H3 := Lib.hid (And.intro (H2.out.1.trans (hb3.mono H2.out.1.size)) (Tree.lies_below hb3 H2.out.2))
      clear hb3
      go_wp2_with fail
      refine (code_fault b2 wordOp i M' w3 A (H.out.2.2.1.below H3.out.1) H.out.2.2.2.2.2.2.2.2 H3.out.2).mono ?_
      rintro e w4 ⟨rfl, hb4⟩
      have H4 := Lib.hid (H3.out.1.trans (hb4.mono H3.out.1.size))
      clear hb4
      go_wp2_with fail
      refine (new_at ringOp i M' w4 A (H.out.2.2.1.below H4.out) H.out.2.2.2.2.2.2.2.2).mono ?_
      rintro e w5 ⟨b5, rfl, hl5, hb5⟩
      have H5 := Lib.hid (And.intro (H4.out.trans (hb5.mono H4.out.size)) hl5)
      clear hb5 hl5
      go_wp2_with fail
      go_ret
      exact ⟨b5, rfl, Chn.one H5.out.2, H5.out.1⟩
end Go.Proofs.YtfgoflaeclfggaaDoor
end
section
namespace Go.Proofs.YtfgoflaeclfggaaDoor
open Go.RowKit Go.Extern.Stop Go.Stop Go.Extern WordM RuleM

theorem IntO.apart {base : Nat} {w : World} {p : Option Addr} {c : Nat} {l : List Int} (h : IntO base w p c l) {g : Nat} (hg : g < base) : ∀ b off, p = some ⟨b, off, none⟩ → b ≠ g := by
  rintro b off rfl
  rcases own_shape h with ⟨hv, _⟩ | ⟨g', cap, hv, hg', _⟩
  · simp at hv
  · obtain ⟨⟨rfl, rfl⟩, rfl⟩ : (b = g' ∧ off = 0) ∧ c = cap := by simpa using hv
    omega
theorem turn_wrap (l : List Int) (R i : Nat) : F (turnW l (-(R : Int))) i = F l (i + wrapS l R) := F_rot _ _ _
def GStepRel (w0 : World) (k S m R2 b : Nat) (X T I : List Int) (v7 v23 : Value) (wr : World) : Prop :=
  ∃ j : Nat, j ≤ m + R2 ∧ v23 = .int .i64 (j : Int) ∧ v7 = .int .i64 ((valW k (X.take j) % S : Nat) : Int) ∧ IntO w0.heap.size wr (some ⟨w0.heap.size, 0, none⟩) m (I.take (j - R2) ++ List.replicate (m - (j - R2)) 0) ∧ (∀ i x, T[i]? = some x → wr.cell? ⟨b, i, none⟩ = some (.int .i64 x)) ∧ Below w0.heap.size w0 wr
set_option maxRecDepth 100000 in
set_option maxHeartbeats 4000000 in
theorem gstep_ok (k r : Nat) (p q : Option Addr) (n c m d : Nat) (t l : List Int) (w : World) (hn : n = t.length) (hm : m = l.length) (h : IntV w.heap.size w p c t) (hl : IntV w.heap.size w q d l) (ho : OkR k r t) (h0 : 0 < m) (hm4 : m ≤ 4096) (hw : okW k l) :
    Calls Tryd.prog 58 #[.agg #[.int .i64 (k : Int), .int .i64 (r : Int), .slice p n c], .slice q m d] w (IntPost w (ringW k r t l)) := by
  have ST := Lib.hid (box_rule w (.int .i64 (k : Int)) (.int .i64 (r : Int)) (.slice p n c))
  have h1 := ho.k1
  have h4 := ho.k4
  have h3 := ho.r3
  have hcap := hl.cap
  have hle := hl.le
  have hcap2 := h.cap
  have hle2 := h.le
  unfold maxLen at hcap hcap2
  have hmd : m ≤ d := by omega
  have hnc : n ≤ c := by omega
  have hn16 : n ≤ 16384 := by rw [hn, ho.len]; exact pow_le h4 h3
  have hn1 : 1 ≤ n := by rw [hn, ho.len]; exact pow_pos h1
  obtain ⟨R2, hR2⟩ : ∃ R2 : Nat, 2 * r = R2 := ⟨_, rfl⟩
  have hS : n = k ^ (R2 + 1) := by rw [hn, ho.len, hR2]
  have hXl := extW_length l r
  rw [← hm] at hXl
  have hXg := fun i => @extW_get l r i
  simp only [← hm] at hXg
  have hXo := extW_ok (w := l) (by omega) hw r
  have hIg : ∀ i, i < m → (ringW k r t l)[i]? = some (ent t (valW k (win (extW l r) i (R2 + 1)))) := fun i hi => by
    unfold ringW
    rw [imgW_get (by rw [extW_length]; omega), hR2]
  have hIl := ringW_length k r t l
  rw [hR2] at hXl hXg
  obtain ⟨X, hX⟩ : ∃ X, extW l r = X := ⟨_, rfl⟩
  rw [hX] at hXl hXo
  simp only [hX] at hXg hIg
  obtain ⟨I, hI⟩ : ∃ I, ringW k r t l = I := ⟨_, rfl⟩
  rw [hI] at hIl ⊢
  simp only [hI] at hIg
  have hTl := turnW_length l (-(r : Int))
  have hTg : ∀ i, (turnW l (-(r : Int)))[i % m]? = some (F l (i + wrapS l r)) := fun i => by
    have hi : i % m < (turnW l (-(r : Int))).length := by rw [hTl, ← hm]; exact Nat.mod_lt _ h0
    rw [F_get hi, turn_wrap]
    congr 1
    apply F_congr
    rw [hm, Nat.mod_add_mod]
  have hturn := fun W hW => turn_any q m d l (-(r : Int)) W hm hW (by omega)
  unfold IntPost at hturn
  obtain ⟨T, hT⟩ : ∃ T, turnW l (-(r : Int)) = T := ⟨_, rfl⟩
  rw [hT] at hTl
  simp only [hT] at hTg hturn
  have hTm : T.length = m := by omega
  simp only [hTm] at hturn
  have w2r : IntKind.i64.wrap (2 * (r : Int)) = (R2 : Int) := by rw [IntWalk.i64_in _ (by omega)]; omega
  have wneg : IntKind.i64.wrap (-(r : Int)) = -(r : Int) := by rw [IntWalk.i64_in _ (by omega)]
  obtain ⟨E, hE⟩ : ∃ E, m + R2 = E := ⟨_, rfl⟩
  have wE : IntKind.i64.wrap ((m : Int) + (R2 : Int)) = (E : Int) := by rw [IntWalk.i64_in _ (by omega)]; omega
  have hR6 : R2 ≤ 6 := by omega
  have hmk := makeI m (by omega)
  have hm0 : ¬ (m : Int) = 0 := by omega
  have hn0 : ¬ (n : Int) = 0 := by omega
  have H := Lib.hid (And.intro hn (And.intro h (And.intro hl (And.intro hS (And.intro hXl (And.intro hXg (And.intro hXo (And.intro hIg (And.intro (show I.length = m by omega) (And.intro hTg (And.intro hturn (And.intro hE hTm))))))))))))
  clear hn hm h hl ho hw hle hle2 hS hXl hXg hXo hIg hIl hX hI hT hTl hTg hTm hturn hR2 hE
  go_enter Tryd.func58, Tryd.ntmps58
  go_upto_region 1 with fail
  obtain ⟨w0, hw0⟩ : ∃ w0, w0 = w.alloc (.cells #[.int .i64 (k : Int), .int .i64 (r : Int), .slice p n c] 53) := ⟨_, rfl⟩
  rw [← hw0]
  obtain ⟨hb0, hE0⟩ := ST.out w0 hw0
  have HE := Lib.hid (And.intro hE0 hb0)
  clear hw0 hE0 hb0
  have hs0 : w.heap.size < w0.heap.size := HE.out.1.lt
  have hmk1 := hmk w0
  have ho0 := IntO.made w0 m (by omega)
  obtain ⟨w1, hw1⟩ : ∃ x, x = w0.alloc (.cells (madeCells #[.int .i64 0] m) 3) := ⟨_, rfl⟩
  have hb1 : Below w0.heap.size w0 w1 := by rw [hw1]; exact (Below.refl _ _).alloc (Nat.le_refl _) _
  have hs1 : w1.heap.size = w0.heap.size + 1 := by rw [hw1]; simp
  rw [← hw1] at hmk1 ho0
  have H1 := Lib.hid (And.intro ho0 (And.intro hb1 hs1))
  clear hmk ho0 hb1 hw1 hs1
  obtain ⟨_, hc0, hc1, hc2⟩ := (HE.out.1.next H1.out.2.1).facts
  go_wp2_with fail
  refine (H.out.2.2.2.2.2.2.2.2.2.2.1 w1 (H.out.2.2.1.next (HE.out.2.trans (H1.out.2.1.mono HE.out.2.size)))).mono ?_
  rintro e w2 ⟨pT, cT, rfl, hoT, hb2⟩
  clear hmk1 hc0 hc1 hc2
  obtain ⟨bT, rfl, hbT, hcT⟩ : ∃ bT, pT = some ⟨bT, 0, none⟩ ∧ w1.heap.size ≤ bT ∧ ∀ i x, T[i]? = some x → w2.cell? ⟨bT, i, none⟩ = some (.int .i64 x) := by
    have hTm := H.out.2.2.2.2.2.2.2.2.2.2.2.2
    rcases own_shape hoT with ⟨hv, hz, _⟩ | ⟨g, cap, hv, hg, hlt, hc, hmx, hcl, _⟩
    · omega
    · obtain ⟨rfl, rfl⟩ : pT = some ⟨g, 0, none⟩ ∧ cT = cap := by simpa using hv
      exact ⟨g, rfl, hg, fun i x hx => (hcl i (ltI hx)).trans (cI_get hx)⟩
  have hcTm : m ≤ cT := by
    have := hoT.toV.le
    have := H.out.2.2.2.2.2.2.2.2.2.2.2.2
    omega
  have hne : bT ≠ w0.heap.size := by have := H1.out.2.2; omega
  have H2 := Lib.hid (And.intro (H1.out.1.next hb2) (And.intro (H1.out.2.1.trans (hb2.mono H1.out.2.1.size)) hcT))
  have HBX := Lib.hid (HE.out.1.next H2.out.2.1)
  clear hoT hb2 hbT hcT
  obtain ⟨_, hc0, hc1, hc2⟩ := HBX.out.facts
  go_wp2_with fail
  go_loopw [7, 23] (fun v7 v23 wr => GStepRel w0 k n m R2 bT X T I v7 v23 wr) (fun _ v _ => E - (intOf v).toNat)
  case atStart => exact ⟨0, Nat.zero_le _, rfl, by simp [valW], by simpa using H2.out.1, H2.out.2.2, H2.out.2.1⟩
  case round =>
    obtain ⟨j, hj, rfl, rfl, ho, hcT, hb⟩ := hrel
    have hbw : Below w.heap.size w wr := HE.out.2.trans (hb.mono HE.out.2.size)
    have hBx := HE.out.1.next hb
    clear hc0 hc1 hc2
    obtain ⟨_, hc0, hc1, hc2⟩ := hBx.facts
    have hjE : j ≤ E := by have := H.out.2.2.2.2.2.2.2.2.2.2.2.1; omega
    by_cases hlt : j < E
    · have hx := H.out.2.2.2.2.2.1 j (by have := H.out.2.2.2.2.2.2.2.2.2.2.2.1; have := H.out.2.2.2.2.1; omega)
      obtain ⟨x, hxx⟩ : ∃ x, F l (j + wrapS l r) = x := ⟨_, rfl⟩
      rw [hxx] at hx
      obtain ⟨jm, hjm⟩ : ∃ jm, j % m = jm := ⟨_, rfl⟩
      have hjml : jm < m := by rw [← hjm]; exact Nat.mod_lt _ (by omega)
      have hcx : wr.cell? ⟨bT, jm, none⟩ = some (.int .i64 x) := hcT jm x (by rw [← hjm, H.out.2.2.2.2.2.2.2.2.2.1 j, hxx])
      have tj : ((j : Int)).tmod (m : Int) = (jm : Int) := by rw [Int.tmod_eq_emod_of_nonneg (by omega), ← hjm]; push_cast; rfl
      have hxo := H.out.2.2.2.2.2.2.1 x (List.mem_of_getElem? hx)
      have hstep := step_mod (k := k) (S := n) hx
      obtain ⟨y, rfl⟩ : ∃ y : Nat, x = (y : Int) := ⟨x.toNat, by omega⟩
      rw [Int.toNat_natCast] at hstep
      have hv1 : valW k (X.take j) % n < n := Nat.mod_lt _ (by omega)
      have hv2 : valW k (X.take (j + 1)) % n < n := Nat.mod_lt _ (by omega)
      obtain ⟨v, hv⟩ : ∃ v, valW k (X.take j) % n = v := ⟨_, rfl⟩
      obtain ⟨z, hz⟩ : ∃ z, valW k (X.take (j + 1)) % n = z := ⟨_, rfl⟩
      rw [hv] at hstep hv1 ⊢
      rw [hz] at hstep hv2
      obtain ⟨a, ha⟩ : ∃ a, v * k = a := ⟨_, rfl⟩
      have ha16 : a ≤ 16384 * 4 := by rw [← ha]; exact Nat.mul_le_mul (by omega) h4
      have hvk : ((v : Int) * (k : Int)) = (a : Int) := by rw [← ha]; push_cast; rfl
      rw [ha] at hstep
      have wvk : IntKind.i64.wrap ((v : Int) * (k : Int)) = (a : Int) := by rw [hvk, IntWalk.i64_in _ (by omega)]
      have wax : IntKind.i64.wrap ((a : Int) + (y : Int)) = (a : Int) + (y : Int) := by rw [IntWalk.i64_in _ (by omega)]
      have e1 : ((a : Int) + (y : Int)) % (n : Int) = (z : Int) := by rw [← hstep]; push_cast; rfl
      have t1 : ((a : Int) + (y : Int)).tmod (n : Int) = (z : Int) := by rw [Int.tmod_eq_emod_of_nonneg (by omega), e1]
      by_cases hjR : j < R2
      · have e2 : j - R2 = 0 := by omega
        have e3 : j + 1 - R2 = 0 := by omega
        rw [e2] at ho
        have HS := Lib.hid (And.intro hz (And.intro hb.drew (And.intro (show IntO w0.heap.size wr.drew _ _ _ from ho) (And.intro e3 (show ∀ i x, T[i]? = some x → wr.drew.cell? ⟨bT, i, none⟩ = some (.int .i64 x) from hcT)))))
        have hnR : ¬ R2 ≤ j := by omega
        clear hx hxx hjm hv hz ha hvk hstep hb ho hbw hBx e2 e3 hcT hj hjE hjR
        go_wp2_with fail
        go_region
        go_wp2_with fail
        go_roundw
        case rel => exact ⟨j + 1, by have := H.out.2.2.2.2.2.2.2.2.2.2.2.1; omega, by go_num, by rw [HS.out.1], by rw [HS.out.2.2.2.1]; exact HS.out.2.2.1, HS.out.2.2.2.2, HS.out.2.1⟩
        case measure => simp [intOf]; omega
      · obtain ⟨i, hi⟩ : ∃ i, j - R2 = i := ⟨_, rfl⟩
        have hiu : i < m := by have := H.out.2.2.2.2.2.2.2.2.2.2.2.1; omega
        have wji : IntKind.i64.wrap ((j : Int) - (R2 : Int)) = (i : Int) := by rw [IntWalk.i64_in _ (by omega)]; omega
        have hIi := H.out.2.2.2.2.2.2.2.1 i hiu
        have hwm := win_mod (k := k) (w := X) (i := i) (n := R2 + 1) H.out.2.2.2.2.2.2.1 (by have := H.out.2.2.2.2.1; omega)
        rw [show i + (R2 + 1) = j + 1 by omega, ← H.out.2.2.2.1, hz] at hwm
        rw [← hwm] at hIi
        have hzt : z < t.length := by have := H.out.1; omega
        have hg := ent_get hzt
        obtain ⟨b2, off2, rfl, hb2, hc2'⟩ := H.out.2.1.cell (by rintro rfl; simp at hzt)
        have hcz : wr.cell? ⟨b2, off2 + z, none⟩ = some (.int .i64 (ent t z)) := (hbw.cell (p := ⟨b2, off2 + z, none⟩) hb2).trans (hc2' _ _ hg)
        obtain ⟨f, hf⟩ : ∃ f, ent t z = f := ⟨_, rfl⟩
        rw [hf] at hcz hIi
        rw [hi] at ho
        have hIm := H.out.2.2.2.2.2.2.2.2.1
        have hput := put_next hIi hiu
        have hmid := mid_len (l := I) (j := i) (n := m) (by omega) (by omega)
        obtain ⟨xs, hxs⟩ : ∃ xs, I.take i ++ List.replicate (m - i) (0 : Int) = xs := ⟨_, rfl⟩
        rw [hxs] at ho hput hmid
        have hown : wr.ownsRow w0.heap.size 3 1 (.slice (some ⟨w0.heap.size, 0, none⟩) m m) m (cI xs) := by
          unfold IntO at ho
          rwa [hmid] at ho
        obtain ⟨y0, hy0⟩ := getI (l := xs) (k := i) (by omega)
        have hcy : wr.cell? ⟨w0.heap.size, i, none⟩ = some (.int .i64 y0) := (hown.cellAt i (by omega)).trans (cI_get hy0)
        have hfy : wr.frozen? ⟨w0.heap.size, i, none⟩ = false := hown.frozenAt i
        obtain ⟨s1, t1'⟩ := hown.stored i (.int .i64 f)
        rw [← cI_set, hput] at s1
        have hb1 : Below w0.heap.size w0 (wr.setCell ⟨w0.heap.size, i, none⟩ (.int .i64 f)) := hb.setCell (p := ⟨w0.heap.size, i, none⟩) (Nat.le_refl _) _
        have hcT1 : ∀ i' x, T[i']? = some x → (wr.setCell ⟨w0.heap.size, i, none⟩ (.int .i64 f)).cell? ⟨bT, i', none⟩ = some (.int .i64 x) := fun i' x hx => (World.cell?_setCell_far wr ⟨w0.heap.size, i, none⟩ ⟨bT, i', none⟩ _ (fun e => hne e.symm)).trans (hcT i' x hx)
        have hmid1 := mid_len (l := I) (j := i + 1) (n := m) (by omega) (by omega)
        have hij : j + 1 - R2 = i + 1 := by omega
        have hjj : j + 1 ≤ m + R2 ∧ j < E := by
          have := H.out.2.2.2.2.2.2.2.2.2.2.2.1
          omega
        have HS := Lib.hid (And.intro hz (And.intro hb1 (And.intro s1 (And.intro hmid1 (And.intro hij (And.intro hcT1 hjj))))))
        have hzn : z < n := hv2
        have hRj : R2 ≤ j := by omega
        have hcT' : wr.drew.cell? ⟨b2, off2 + z, none⟩ = some (.int .i64 f) := hcz
        have hcy' : wr.drew.cell? ⟨w0.heap.size, i, none⟩ = some (.int .i64 y0) := hcy
        have hfy' : wr.drew.frozen? ⟨w0.heap.size, i, none⟩ = false := hfy
        have hd0 : wr.drew.cell? ⟨w.heap.size, 0, none⟩ = some (.int .i64 (k : Int)) := hc0
        have hd1 : wr.drew.cell? ⟨w.heap.size, 1, none⟩ = some (.int .i64 (r : Int)) := hc1
        have hd2 : wr.drew.cell? ⟨w.heap.size, 2, none⟩ = some (.slice (some ⟨b2, off2, none⟩) n c) := hc2
        clear hx hxx hjm hv hz ha hvk hstep hb ho hbw hBx hi hIi hwm hzt hg hf hput hmid hxs hown s1 t1' hb1 hmid1 hij hc2' hy0 hcT hcT1 hIm hj hjE hjR
        go_wp2_with fail
        go_region
        go_wp2_with fail
        go_region
        go_wp2_with fail
        go_roundw
        case rel => exact ⟨j + 1, HS.out.2.2.2.2.2.2.1, by go_num, by rw [HS.out.1], by rw [HS.out.2.2.2.2.1]; unfold IntO; rw [HS.out.2.2.2.1]; exact HS.out.2.2.1, HS.out.2.2.2.2.2.1, HS.out.2.1.drew.drew⟩
        case measure => have := HS.out.2.2.2.2.2.2.2; simp [intOf]; omega
    · obtain rfl : j = E := by omega
      have hju : j - R2 = m := by have := H.out.2.2.2.2.2.2.2.2.2.2.2.1; omega
      have hIu := H.out.2.2.2.2.2.2.2.2.1
      have he : I.take m ++ List.replicate (m - m) (0 : Int) = I := by rw [Nat.sub_self, List.replicate_zero, List.append_nil, ← hIu, List.take_length]
      rw [hju, he] at ho
      have HF := Lib.hid (And.intro (ho.base (Nat.le_of_lt hs0)) hbw)
      clear ho hb he hbw hBx hju hIu hcT hj
      go_wp2_with fail
      go_ret
      exact ⟨some ⟨w0.heap.size, 0, none⟩, m, by rw [H.out.2.2.2.2.2.2.2.2.1]; rfl, HF.out.1, HF.out.2⟩
end Go.Proofs.YtfgoflaeclfggaaDoor
end
section
namespace Go.Proofs.YtfgoflaeclfggaaDoor
open Go.RowKit Go.Extern.Stop Go.Stop Go.Extern WordM RuleM

def rowOp : ByteArray := { data := #[114, 111, 119] }
/-- a row in a block of its own -/
structure Row4 (w : World) (h : Nat) (a b c d : Value) : Prop where
  heap : w.heap[h]? = some (.cells #[a, b, c, d] 24 (0, 0))
theorem Row4.next {w w' : World} {h : Nat} {a b c d : Value} (hb : Below w.heap.size w w') (k : Row4 w h a b c d) : Row4 w' h a b c d := ⟨(hb.block h (heap_ltN k.heap)).trans k.heap⟩
theorem Row4.lt {w : World} {h : Nat} {a b c d : Value} (k : Row4 w h a b c d) : h < w.heap.size := heap_ltN k.heap
theorem Row4.facts {w : World} {h : Nat} {a b c d : Value} (k : Row4 w h a b c d) : w.cell? ⟨h, 0, none⟩ = some a ∧ w.cell? ⟨h, 1, none⟩ = some b ∧ w.cell? ⟨h, 2, none⟩ = some c ∧ w.cell? ⟨h, 3, none⟩ = some d :=
  ⟨cell_of_row w h 0 _ _ _ k.heap, cell_of_row w h 1 _ _ _ k.heap, cell_of_row w h 2 _ _ _ k.heap, cell_of_row w h 3 _ _ _ k.heap⟩
theorem Row4.frozen {w : World} {h : Nat} {a b c d : Value} (k : Row4 w h a b c d) (i : Nat) : w.frozen? ⟨h, i, none⟩ = false := frozen_of_row w h i _ _ k.heap
theorem box_row (w : World) (a b c d : Value) : ∀ (w0 : World), w0 = w.alloc (.cells #[a, b, c, d] 24) → Below w.heap.size w w0 ∧ Row4 w0 w.heap.size a b c d := fun w0 hw0 =>
  ⟨by rw [hw0]; exact (Below.refl _ _).alloc (Nat.le_refl _) _, by rw [hw0]; exact ⟨heap_newN w _⟩⟩
/-- the three lists of a row in memory -/
structure RowV (w : World) (p q s : Option Addr) (n c m d u e : Nat) (L C R : List Int) : Prop where
  hn : n = L.length
  hm : m = C.length
  hu : u = R.length
  l : IntV w.heap.size w p c L
  c : IntV w.heap.size w q d C
  r : IntV w.heap.size w s e R
theorem RowV.next {w w' : World} {p q s : Option Addr} {n c m d u e : Nat} {L C R : List Int} (hb : Below w.heap.size w w') (h : RowV w p q s n c m d u e L C R) : RowV w' p q s n c m d u e L C R :=
  ⟨h.hn, h.hm, h.hu, h.l.next hb, h.c.next hb, h.r.next hb⟩
/-- how large a row is -/
structure Rsz (a : Int) (n m u : Nat) : Prop where
  a1 : -5000 ≤ a
  a2 : a ≤ 5000
  n0 : 0 < n
  u0 : 0 < u
  n1 : n ≤ 17592186043904
  m1 : m ≤ 17592186043904
  u1 : u ≤ 17592186043904

set_option maxRecDepth 100000 in
set_option maxHeartbeats 2000000 in
theorem rend_any (a : Int) (p q s : Option Addr) (n c m d u e : Nat) (w : World) (h1 : -5000 ≤ a) (h2 : a ≤ 5000) (hm : m ≤ 17592186043904) :
    Calls Tryd.prog 47 #[.agg #[.int .i64 a, .slice p n c, .slice q m d, .slice s u e]] w (Tells (.int .i64 (a + (m : Int))) w) := by
  have ST := Lib.hid (box_row w (.int .i64 a) (.slice p n c) (.slice q m d) (.slice s u e))
  have wam : IntKind.i64.wrap (a + (m : Int)) = a + (m : Int) := by rw [IntWalk.i64_in _ (by omega)]
  go_enter Tryd.func47, Tryd.ntmps47
  go_upto_region 1 with fail
  obtain ⟨w0, hw0⟩ : ∃ w0, w0 = w.alloc (.cells #[.int .i64 a, .slice p n c, .slice q m d, .slice s u e] 24) := ⟨_, rfl⟩
  rw [← hw0]
  obtain ⟨hb0, hE0⟩ := ST.out w0 hw0
  obtain ⟨hc0, hc1, hc2, hc3⟩ := hE0.facts
  have HE := Lib.hid hb0
  clear hw0 hE0 hb0
  go_wp2_with fail
  go_ret
  exact ⟨rfl, HE.out⟩

set_option maxRecDepth 100000 in
set_option maxHeartbeats 4000000 in
theorem rsym_any (a i : Int) (p q s : Option Addr) (n c m d u e : Nat) (L C R : List Int) (w : World) (h : RowV w p q s n c m d u e L C R) (hz : Rsz a n m u) (hi1 : -1099511627776 ≤ i) (hi2 : i ≤ 1099511627776) :
    Calls Tryd.prog 33 #[.agg #[.int .i64 a, .slice p n c, .slice q m d, .slice s u e], .int .i64 i] w (Tells (.int .i64 (rwAt a L C R i)) w) := by
  have ST := Lib.hid (box_row w (.int .i64 a) (.slice p n c) (.slice q m d) (.slice s u e))
  obtain ⟨a1, a2, n0, u0, n1, m1, u1⟩ := hz
  have hle := h.l.le
  have hle2 := h.c.le
  have hle3 := h.r.le
  obtain ⟨X, hX⟩ : ∃ X, rwAt a L C R i = X := ⟨_, rfl⟩
  rw [hX]
  unfold rwAt at hX
  rw [← h.hn, ← h.hm, ← h.hu] at hX
  by_cases hia : i < a
  · rw [if_pos hia] at hX
    obtain ⟨D, hD⟩ : ∃ D : Nat, a - 1 - i = D := ⟨(a - 1 - i).toNat, by omega⟩
    rw [hD, Int.toNat_natCast] at hX
    have hmod := Nat.mod_lt D n0
    obtain ⟨M, hM⟩ : ∃ M, D % n = M := ⟨_, rfl⟩
    rw [hM] at hX hmod
    have tM : (D : Int).tmod (n : Int) = (M : Int) := by rw [Int.tmod_eq_emod_of_nonneg (by omega), ← Int.natCast_emod, hM]
    obtain ⟨J, hJ⟩ : ∃ J, n - 1 - M = J := ⟨_, rfl⟩
    rw [hJ] at hX
    have w1 : IntKind.i64.wrap (a - 1) = a - 1 := by rw [IntWalk.i64_in _ (by omega)]
    have w2 : IntKind.i64.wrap (a - 1 - i) = (D : Int) := by rw [IntWalk.i64_in _ (by omega)]; omega
    have w3 : IntKind.i64.wrap ((n : Int) - 1) = (n : Int) - 1 := by rw [IntWalk.i64_in _ (by omega)]
    have w4 : IntKind.i64.wrap ((n : Int) - 1 - (M : Int)) = (J : Int) := by rw [IntWalk.i64_in _ (by omega)]; omega
    have hn0 : ¬ (n : Int) = 0 := by omega
    have hJn : J < n := by omega
    have hnc : n ≤ c := by have := h.hn; omega
    obtain ⟨b, off, rfl, hb, hc⟩ := h.l.cell (by have := h.hn; rintro rfl; simp at this; omega)
    have hcx := hc J X (by rw [← hX]; exact ent_get (by have := h.hn; omega))
    have H := Lib.hid (And.intro hb hcx)
    clear hc h hX hM hD hJ hb hcx hle hle2 hle3
    go_enter Tryd.func33, Tryd.ntmps33
    go_upto_region 1 with fail
    obtain ⟨w0, hw0⟩ : ∃ w0, w0 = w.alloc (.cells #[.int .i64 a, .slice (some ⟨b, off, none⟩) n c, .slice q m d, .slice s u e] 24) := ⟨_, rfl⟩
    rw [← hw0]
    obtain ⟨hb0, hE0⟩ := ST.out w0 hw0
    obtain ⟨hc0, hc1, hc2, hc3⟩ := hE0.facts
    have hcx : w0.cell? ⟨b, off + J, none⟩ = some (.int .i64 X) := (hb0.cell (p := ⟨b, off + J, none⟩) H.out.1).trans H.out.2
    have HE := Lib.hid hb0
    clear hw0 hE0 hb0
    go_wp2_with fail
    go_quiet (fail)
    go_wp2_with fail
    go_ret
    exact ⟨rfl, HE.out.trans (below_drewN (Below.refl _ _) _ |>.mono HE.out.size)⟩
  · rw [if_neg hia] at hX
    have wam : IntKind.i64.wrap (a + (m : Int)) = a + (m : Int) := by rw [IntWalk.i64_in _ (by omega)]
    obtain ⟨D, hD⟩ : ∃ D : Nat, i - a = D := ⟨(i - a).toNat, by omega⟩
    rw [hD, Int.toNat_natCast] at hX
    by_cases hic : D < m
    · rw [if_pos (by omega)] at hX
      have w1 : IntKind.i64.wrap (i - a) = (D : Int) := by rw [IntWalk.i64_in _ (by omega)]; omega
      have hlt : i < a + (m : Int) := by omega
      have hmd : m ≤ d := by have := h.hm; omega
      obtain ⟨b, off, rfl, hb, hc⟩ := h.c.cell (by have := h.hm; rintro rfl; simp at this; omega)
      have hcx := hc D X (by rw [← hX]; exact ent_get (by have := h.hm; omega))
      have H := Lib.hid (And.intro hb hcx)
      clear hc h hX hD hb hcx hle hle2 hle3
      go_enter Tryd.func33, Tryd.ntmps33
      go_upto_region 1 with fail
      obtain ⟨w0, hw0⟩ : ∃ w0, w0 = w.alloc (.cells #[.int .i64 a, .slice p n c, .slice (some ⟨b, off, none⟩) m d, .slice s u e] 24) := ⟨_, rfl⟩
      rw [← hw0]
      obtain ⟨hb0, hE0⟩ := ST.out w0 hw0
      have HE := Lib.hid (And.intro hE0 hb0)
      obtain ⟨hc0, hc1, hc2, hc3⟩ := hE0.facts
      clear hw0 hE0 hb0
      go_wp2_with fail
      refine (rend_any a p _ s n c m d u e _ a1 a2 m1).mono ?_
      rintro e' w1 ⟨rfl, hb1⟩
      have hcx : w1.cell? ⟨b, off + D, none⟩ = some (.int .i64 X) := ((HE.out.2.trans (hb1.mono HE.out.2.size)).cell (p := ⟨b, off + D, none⟩) H.out.1).trans H.out.2
      have H1 := Lib.hid (HE.out.2.trans (hb1.mono HE.out.2.size))
      have hE1 := HE.out.1.next hb1
      clear hb1 hc0 hc1 hc2 hc3
      obtain ⟨hc0, hc1, hc2, hc3⟩ := hE1.facts
      clear hE1
      go_wp2_with fail
      go_ret
      exact ⟨rfl, H1.out⟩
    · rw [if_neg (by omega)] at hX
      have hlt : ¬ i < a + (m : Int) := by omega
      obtain ⟨E, hE⟩ : ∃ E, D - m = E := ⟨_, rfl⟩
      rw [hE] at hX
      have w1 : IntKind.i64.wrap (i - (a + (m : Int))) = (E : Int) := by rw [IntWalk.i64_in _ (by omega)]; omega
      have hmod := Nat.mod_lt E u0
      obtain ⟨M, hM⟩ : ∃ M, E % u = M := ⟨_, rfl⟩
      rw [hM] at hX hmod
      have tM : (E : Int).tmod (u : Int) = (M : Int) := by rw [Int.tmod_eq_emod_of_nonneg (by omega), ← Int.natCast_emod, hM]
      have hu0 : ¬ (u : Int) = 0 := by omega
      have hue : u ≤ e := by have := h.hu; omega
      obtain ⟨b, off, rfl, hb, hc⟩ := h.r.cell (by have := h.hu; rintro rfl; simp at this; omega)
      have hcx := hc M X (by rw [← hX]; exact ent_get (by have := h.hu; omega))
      have H := Lib.hid (And.intro hb hcx)
      clear hc h hX hM hD hE hb hcx hle hle2 hle3
      go_enter Tryd.func33, Tryd.ntmps33
      go_upto_region 1 with fail
      obtain ⟨w0, hw0⟩ : ∃ w0, w0 = w.alloc (.cells #[.int .i64 a, .slice p n c, .slice q m d, .slice (some ⟨b, off, none⟩) u e] 24) := ⟨_, rfl⟩
      rw [← hw0]
      obtain ⟨hb0, hE0⟩ := ST.out w0 hw0
      have HE := Lib.hid (And.intro hE0 hb0)
      obtain ⟨hc0, hc1, hc2, hc3⟩ := hE0.facts
      clear hw0 hE0 hb0
      go_wp2_with fail
      refine (rend_any a p q _ n c m d u e _ a1 a2 m1).mono ?_
      rintro e' w1 ⟨rfl, hb1⟩
      have H1 := Lib.hid (HE.out.2.trans (hb1.mono HE.out.2.size))
      have hE1 := HE.out.1.next hb1
      clear hb1 hc0 hc1 hc2 hc3
      go_upto_region 5 with fail
      have hxA : ∀ wx : World, Below w1.heap.size w1 wx → wx.cell? ⟨w.heap.size, 0, none⟩ = some (.int .i64 a) ∧ wx.cell? ⟨w.heap.size, 1, none⟩ = some (.slice p n c) ∧ wx.cell? ⟨w.heap.size, 2, none⟩ = some (.slice q m d) ∧ wx.cell? ⟨w.heap.size, 3, none⟩ = some (.slice (some ⟨b, off, none⟩) u e) ∧ wx.cell? ⟨b, off + M, none⟩ = some (.int .i64 X) := fun wx hb => ⟨(hE1.next hb).facts.1, (hE1.next hb).facts.2.1, (hE1.next hb).facts.2.2.1, (hE1.next hb).facts.2.2.2, ((H1.out.trans (hb.mono H1.out.size)).cell (p := ⟨b, off + M, none⟩) H.out.1).trans H.out.2⟩
      have hd0 : Below w1.heap.size w1 w1.drew := (Below.refl _ _).drew
      obtain ⟨x0, x1, x2, x3, x4⟩ := hxA _ hd0
      go_region_with (first
        | (go_at_call 47; refine (rend_any a p q _ n c m d u e _ a1 a2 m1).mono ?_; rintro e' wa ⟨rfl, hba⟩; have hBa : Below w1.heap.size w1 wa := (by first | exact hba | exact hd0.trans (hba.mono hd0.size)); obtain ⟨y0, y1, y2, y3, y4⟩ := hxA _ hBa))
      all_goals
        have HF := Lib.hid (H1.out.trans (hBa.mono H1.out.size))
        clear hxA hba hBa hd0 x0 x1 x2 x3 x4 y0 y1 y2 y3
        go_wp2_with fail
        go_ret
        exact ⟨rfl, HF.out⟩
end Go.Proofs.YtfgoflaeclfggaaDoor
end
section
namespace Go.Proofs.YtfgoflaeclfggaaDoor
open Go.RowKit Go.Extern.Stop Go.Stop Go.Extern WordM RuleM

/-- the fault of a row's lengths -/
def chkLn (n m u : Nat) : Option (Nat × Nat) :=
  if n = 0 then some (2, 3) else if u = 0 then some (3, 3) else if 8192 < n then some (2, 4) else if 8192 < u then some (3, 4) else if 16384 < m then some (4, 4) else none
theorem chkRw_len {k a : Int} {L C R : List Int} (hk : ¬ (k < 1 ∨ 4 < k)) (ha : ¬ (a < -4096 ∨ 4096 < a)) :
    chkRw k a L C R = match chkLn L.length C.length R.length with | some y => some y | none => ((L ++ C ++ R).findIdx? (badAt k)).map fun i => (i, 2) := by
  unfold chkRw chkLn
  rw [if_neg hk, if_neg ha]
  split
  · rfl
  split
  · rfl
  split
  · rfl
  split
  · rfl
  split
  · rfl
  rfl
theorem chkLn_none {n m u : Nat} (h : chkLn n m u = none) : 0 < n ∧ 0 < u ∧ n ≤ 8192 ∧ u ≤ 8192 ∧ m ≤ 16384 := by
  unfold chkLn at h
  split at h
  · cases h
  split at h
  · cases h
  split at h
  · cases h
  split at h
  · cases h
  split at h
  · cases h
  omega
set_option maxRecDepth 100000 in
set_option maxHeartbeats 4000000 in
theorem rlen_ok (a : Int) (p q s : Option Addr) (n c m d u e : Nat) (w : World) (h1 : 0 < n) (h2 : 0 < u) (h3 : n ≤ 8192) (h4 : u ≤ 8192) (h5 : m ≤ 16384) :
    Calls Tryd.prog 43 #[.agg #[.int .i64 a, .slice p n c, .slice q m d, .slice s u e]] w (Tells .nilIface w) := by
  have ST := Lib.hid (box_row w (.int .i64 a) (.slice p n c) (.slice q m d) (.slice s u e))
  have hn0 : ¬ (n : Int) = 0 := by omega
  have hu0 : ¬ (u : Int) = 0 := by omega
  go_enter Tryd.func43, Tryd.ntmps43
  go_upto_region 1 with fail
  obtain ⟨w0, hw0⟩ : ∃ w0, w0 = w.alloc (.cells #[.int .i64 a, .slice p n c, .slice q m d, .slice s u e] 24) := ⟨_, rfl⟩
  rw [← hw0]
  obtain ⟨hb0, hE0⟩ := ST.out w0 hw0
  have HE := Lib.hid (And.intro hE0 hb0)
  obtain ⟨hc0, hc1, hc2, hc3⟩ := hE0.facts
  clear hw0 hE0 hb0
  go_wp2_with fail
  go_ret
  exact ⟨rfl, HE.out.2⟩
set_option maxRecDepth 100000 in
set_option maxHeartbeats 4000000 in
theorem rlen_bad0 (a : Int) (p q s : Option Addr) (m u c d e : Nat) (w : World) (A : Nat → Addr) (hr : Roots w A)  :
    Calls Tryd.prog 43 #[.agg #[.int .i64 a, .slice p 0 c, .slice q m d, .slice s u e]] w (Err1 w A rowOp 2 3) := by
  have ST := Lib.hid (box_row w (.int .i64 a) (.slice p 0 c) (.slice q m d) (.slice s u e))
  have HR := Lib.hid hr
  clear hr
  go_enter Tryd.func43, Tryd.ntmps43
  go_upto_region 1 with fail
  obtain ⟨w0, hw0⟩ : ∃ w0, w0 = w.alloc (.cells #[.int .i64 a, .slice p 0 c, .slice q m d, .slice s u e] 24) := ⟨_, rfl⟩
  rw [← hw0]
  obtain ⟨hb0, hE0⟩ := ST.out w0 hw0
  have HE := Lib.hid (And.intro hE0 hb0)
  obtain ⟨hc0, hc1, hc2, hc3⟩ := hE0.facts
  clear hw0 hE0 hb0
  go_wp2_with fail
  refine (new_at rowOp 2 3 w0 A (HR.out.below HE.out.2) (by omega)).mono ?_
  rintro e' w1 ⟨b, rfl, hl1, hb1⟩
  have H1 := Lib.hid (And.intro hl1 (HE.out.2.trans (hb1.mono HE.out.2.size)))
  clear hl1 hb1 hc0 hc1 hc2 hc3
  go_wp2_with fail
  go_ret
  exact ⟨b, rfl, H1.out.1, H1.out.2⟩
set_option maxRecDepth 100000 in
set_option maxHeartbeats 4000000 in
theorem rlen_bad1 (a : Int) (p q s : Option Addr) (n m c d e : Nat) (w : World) (A : Nat → Addr) (hr : Roots w A) (h1 : 0 < n) (hn : n ≤ 17592186043904) :
    Calls Tryd.prog 43 #[.agg #[.int .i64 a, .slice p n c, .slice q m d, .slice s 0 e]] w (Err1 w A rowOp 3 3) := by
  have ST := Lib.hid (box_row w (.int .i64 a) (.slice p n c) (.slice q m d) (.slice s 0 e))
  have hn0 : ¬ (n : Int) = 0 := by omega
  have HR := Lib.hid hr
  clear hr
  go_enter Tryd.func43, Tryd.ntmps43
  go_upto_region 1 with fail
  obtain ⟨w0, hw0⟩ : ∃ w0, w0 = w.alloc (.cells #[.int .i64 a, .slice p n c, .slice q m d, .slice s 0 e] 24) := ⟨_, rfl⟩
  rw [← hw0]
  obtain ⟨hb0, hE0⟩ := ST.out w0 hw0
  have HE := Lib.hid (And.intro hE0 hb0)
  obtain ⟨hc0, hc1, hc2, hc3⟩ := hE0.facts
  clear hw0 hE0 hb0
  go_wp2_with fail
  refine (new_at rowOp 3 3 w0 A (HR.out.below HE.out.2) (by omega)).mono ?_
  rintro e' w1 ⟨b, rfl, hl1, hb1⟩
  have H1 := Lib.hid (And.intro hl1 (HE.out.2.trans (hb1.mono HE.out.2.size)))
  clear hl1 hb1 hc0 hc1 hc2 hc3
  go_wp2_with fail
  go_ret
  exact ⟨b, rfl, H1.out.1, H1.out.2⟩
set_option maxRecDepth 100000 in
set_option maxHeartbeats 4000000 in
theorem rlen_bad2 (a : Int) (p q s : Option Addr) (n m u c d e : Nat) (w : World) (A : Nat → Addr) (hr : Roots w A) (h2 : 0 < u) (h3 : 8192 < n) (hn : n ≤ 17592186043904) (hu : u ≤ 17592186043904) :
    Calls Tryd.prog 43 #[.agg #[.int .i64 a, .slice p n c, .slice q m d, .slice s u e]] w (Err1 w A rowOp 2 4) := by
  have ST := Lib.hid (box_row w (.int .i64 a) (.slice p n c) (.slice q m d) (.slice s u e))
  have hn0 : ¬ (n : Int) = 0 := by omega
  have hu0 : ¬ (u : Int) = 0 := by omega
  have HR := Lib.hid hr
  clear hr
  go_enter Tryd.func43, Tryd.ntmps43
  go_upto_region 1 with fail
  obtain ⟨w0, hw0⟩ : ∃ w0, w0 = w.alloc (.cells #[.int .i64 a, .slice p n c, .slice q m d, .slice s u e] 24) := ⟨_, rfl⟩
  rw [← hw0]
  obtain ⟨hb0, hE0⟩ := ST.out w0 hw0
  have HE := Lib.hid (And.intro hE0 hb0)
  obtain ⟨hc0, hc1, hc2, hc3⟩ := hE0.facts
  clear hw0 hE0 hb0
  go_wp2_with fail
  refine (new_at rowOp 2 4 w0 A (HR.out.below HE.out.2) (by omega)).mono ?_
  rintro e' w1 ⟨b, rfl, hl1, hb1⟩
  have H1 := Lib.hid (And.intro hl1 (HE.out.2.trans (hb1.mono HE.out.2.size)))
  clear hl1 hb1 hc0 hc1 hc2 hc3
  go_wp2_with fail
  go_ret
  exact ⟨b, rfl, H1.out.1, H1.out.2⟩
set_option maxRecDepth 100000 in
set_option maxHeartbeats 4000000 in
theorem rlen_bad3 (a : Int) (p q s : Option Addr) (n m u c d e : Nat) (w : World) (A : Nat → Addr) (hr : Roots w A) (h1 : 0 < n) (h3 : n ≤ 8192) (h4 : 8192 < u) (hu : u ≤ 17592186043904) :
    Calls Tryd.prog 43 #[.agg #[.int .i64 a, .slice p n c, .slice q m d, .slice s u e]] w (Err1 w A rowOp 3 4) := by
  have ST := Lib.hid (box_row w (.int .i64 a) (.slice p n c) (.slice q m d) (.slice s u e))
  have hn0 : ¬ (n : Int) = 0 := by omega
  have hu0 : ¬ (u : Int) = 0 := by omega
  have HR := Lib.hid hr
  clear hr
  go_enter Tryd.func43, Tryd.ntmps43
  go_upto_region 1 with fail
  obtain ⟨w0, hw0⟩ : ∃ w0, w0 = w.alloc (.cells #[.int .i64 a, .slice p n c, .slice q m d, .slice s u e] 24) := ⟨_, rfl⟩
  rw [← hw0]
  obtain ⟨hb0, hE0⟩ := ST.out w0 hw0
  have HE := Lib.hid (And.intro hE0 hb0)
  obtain ⟨hc0, hc1, hc2, hc3⟩ := hE0.facts
  clear hw0 hE0 hb0
  go_wp2_with fail
  refine (new_at rowOp 3 4 w0 A (HR.out.below HE.out.2) (by omega)).mono ?_
  rintro e' w1 ⟨b, rfl, hl1, hb1⟩
  have H1 := Lib.hid (And.intro hl1 (HE.out.2.trans (hb1.mono HE.out.2.size)))
  clear hl1 hb1 hc0 hc1 hc2 hc3
  go_wp2_with fail
  go_ret
  exact ⟨b, rfl, H1.out.1, H1.out.2⟩
set_option maxRecDepth 100000 in
set_option maxHeartbeats 4000000 in
theorem rlen_bad4 (a : Int) (p q s : Option Addr) (n m u c d e : Nat) (w : World) (A : Nat → Addr) (hr : Roots w A) (h1 : 0 < n) (h2 : 0 < u) (h3 : n ≤ 8192) (h4 : u ≤ 8192) (h5 : 16384 < m) (hm : m ≤ 17592186043904) :
    Calls Tryd.prog 43 #[.agg #[.int .i64 a, .slice p n c, .slice q m d, .slice s u e]] w (Err1 w A rowOp 4 4) := by
  have ST := Lib.hid (box_row w (.int .i64 a) (.slice p n c) (.slice q m d) (.slice s u e))
  have hn0 : ¬ (n : Int) = 0 := by omega
  have hu0 : ¬ (u : Int) = 0 := by omega
  have HR := Lib.hid hr
  clear hr
  go_enter Tryd.func43, Tryd.ntmps43
  go_upto_region 1 with fail
  obtain ⟨w0, hw0⟩ : ∃ w0, w0 = w.alloc (.cells #[.int .i64 a, .slice p n c, .slice q m d, .slice s u e] 24) := ⟨_, rfl⟩
  rw [← hw0]
  obtain ⟨hb0, hE0⟩ := ST.out w0 hw0
  have HE := Lib.hid (And.intro hE0 hb0)
  obtain ⟨hc0, hc1, hc2, hc3⟩ := hE0.facts
  clear hw0 hE0 hb0
  go_wp2_with fail
  refine (new_at rowOp 4 4 w0 A (HR.out.below HE.out.2) (by omega)).mono ?_
  rintro e' w1 ⟨b, rfl, hl1, hb1⟩
  have H1 := Lib.hid (And.intro hl1 (HE.out.2.trans (hb1.mono HE.out.2.size)))
  clear hl1 hb1 hc0 hc1 hc2 hc3
  go_wp2_with fail
  go_ret
  exact ⟨b, rfl, H1.out.1, H1.out.2⟩
theorem rlen_bad (a : Int) (p q s : Option Addr) (n c m d u e : Nat) (w : World) (A : Nat → Addr) (hr : Roots w A) (hn : n ≤ 17592186043904) (hm : m ≤ 17592186043904) (hu : u ≤ 17592186043904) (i j : Nat) (hc : chkLn n m u = some (i, j)) :
    Calls Tryd.prog 43 #[.agg #[.int .i64 a, .slice p n c, .slice q m d, .slice s u e]] w (Err1 w A rowOp i j) := by
  unfold chkLn at hc
  split at hc
  · obtain ⟨rfl, rfl⟩ := Prod.mk.inj (Option.some.inj hc)
    rename_i h1
    subst h1
    exact rlen_bad0 a p q s m u c d e w A hr
  split at hc
  · obtain ⟨rfl, rfl⟩ := Prod.mk.inj (Option.some.inj hc)
    rename_i h1 h2
    subst h2
    exact rlen_bad1 a p q s n m c d e w A hr (by omega) hn
  split at hc
  · obtain ⟨rfl, rfl⟩ := Prod.mk.inj (Option.some.inj hc)
    rename_i h1 h2 h3
    exact rlen_bad2 a p q s n m u c d e w A hr (by omega) h3 hn hu
  split at hc
  · obtain ⟨rfl, rfl⟩ := Prod.mk.inj (Option.some.inj hc)
    rename_i h1 h2 h3 h4
    exact rlen_bad3 a p q s n m u c d e w A hr (by omega) (by omega) h4 hu
  split at hc
  · obtain ⟨rfl, rfl⟩ := Prod.mk.inj (Option.some.inj hc)
    rename_i h1 h2 h3 h4 h5
    exact rlen_bad4 a p q s n m u c d e w A hr (by omega) (by omega) (by omega) (by omega) h5 hm
  · cases hc
/-- where the j-th of the three lists begins in all of them -/
def offR (n m u : Nat) : Nat → Nat
  | 0 => 0
  | 1 => n
  | 2 => n + m
  | _ => n + m + u
set_option maxRecDepth 100000 in
set_option maxHeartbeats 8000000 in
theorem rsyms_ok (k : Nat) (a : Int) (p q s : Option Addr) (n c m d u e : Nat) (L C R : List Int) (w : World) (h : RowV w p q s n c m d u e L C R) (hn : n ≤ 17592186043904) (hm : m ≤ 17592186043904) (hu : u ≤ 17592186043904) (hw : okW k (L ++ C ++ R)) :
    Calls Tryd.prog 44 #[.int .i64 (k : Int), .agg #[.int .i64 a, .slice p n c, .slice q m d, .slice s u e]] w (Tells .nilIface w) := by
  have ST := Lib.hid (box_row w (.int .i64 a) (.slice p n c) (.slice q m d) (.slice s u e))
  obtain ⟨Y, hY⟩ : ∃ Y, L ++ C ++ R = Y := ⟨_, rfl⟩
  rw [hY] at hw
  have hYl : Y.length = n + m + u := by rw [← hY, List.length_append, List.length_append, h.hn, h.hm, h.hu]
  have hpart : ∀ (wx : World) (g : Nat), RowV wx p q s n c m d u e L C R → (∀ i v, ([.slice p n c, .slice q m d, .slice s u e] : List Value)[i]? = some v → wx.cell? ⟨g, i, none⟩ = some v) → ∀ j, j < 3 → ∃ (P : Option Addr) (N D : Nat) (S : List Int), wx.cell? ⟨g, j, none⟩ = some (.slice P N D) ∧ N = S.length ∧ N ≤ 17592186043904 ∧ IntV wx.heap.size wx P D S ∧ offR n m u (j + 1) = offR n m u j + N ∧ ∀ i x, S[i]? = some x → Y[offR n m u j + i]? = some x := fun wx g hv hcl j hj => by
    rcases (by omega : j = 0 ∨ j = 1 ∨ j = 2) with rfl | rfl | rfl
    · refine ⟨p, n, c, L, hcl 0 _ rfl, hv.hn, hn, hv.l, by simp [offR], fun i x hx => ?_⟩
      rw [← hY, List.append_assoc]
      have := ltI hx
      rw [show offR n m u 0 + i = i by simp [offR], List.getElem?_append_left this]
      exact hx
    · refine ⟨q, m, d, C, hcl 1 _ rfl, hv.hm, hm, hv.c, by simp [offR], fun i x hx => ?_⟩
      have := ltI hx
      have hnl := hv.hn
      rw [← hY, List.getElem?_append_left (by rw [List.length_append]; show n + i < _; omega), List.getElem?_append_right (by show L.length ≤ n + i; omega)]
      rw [show offR n m u 1 + i - L.length = i by show n + i - L.length = i; omega]
      exact hx
    · refine ⟨s, u, e, R, hcl 2 _ rfl, hv.hu, hu, hv.r, by simp [offR], fun i x hx => ?_⟩
      have hnl := hv.hn
      have hml := hv.hm
      rw [← hY, List.getElem?_append_right (by rw [List.length_append]; show _ ≤ n + m + i; omega), List.length_append]
      rw [show offR n m u 2 + i - (L.length + C.length) = i by show n + m + i - _ = i; omega]
      exact hx
  have ho3 : offR n m u 3 = Y.length := by rw [hYl]; rfl
  have hob : ∀ j, offR n m u j ≤ 52776558131712 := fun j => by
    rcases j with _ | _ | _ | j
    · exact Nat.zero_le _
    · show n ≤ _; omega
    · show n + m ≤ _; omega
    · show n + m + u ≤ _; omega
  have H := Lib.hid (And.intro h (And.intro hpart (And.intro ho3 (And.intro hob hw))))
  clear h hpart ho3 hob hYl hY hn hm hu hw
  go_enter Tryd.func44, Tryd.ntmps44
  go_upto_region 1 with fail
  obtain ⟨w0, hw0⟩ : ∃ w0, w0 = w.alloc (.cells #[.int .i64 a, .slice p n c, .slice q m d, .slice s u e] 24) := ⟨_, rfl⟩
  rw [← hw0]
  obtain ⟨hb0, hE0⟩ := ST.out w0 hw0
  have HE := Lib.hid (And.intro hE0 hb0)
  obtain ⟨hc0, hc1, hc2, hc3⟩ := hE0.facts
  clear hw0 hE0 hb0
  have hV0 := H.out.1.next HE.out.2
  obtain ⟨w1, hw1⟩ : ∃ x, x = w0.alloc (.cells #[.slice p n c, .slice q m d, .slice s u e] 22) := ⟨_, rfl⟩
  have hb1 : Below w0.heap.size w0 w1 := by rw [hw1]; exact (Below.refl _ _).alloc (Nat.le_refl _) _
  have hcl1 : ∀ i v, ([.slice p n c, .slice q m d, .slice s u e] : List Value)[i]? = some v → w1.cell? ⟨w0.heap.size, i, none⟩ = some v := fun i v hv => by rw [hw1, cell_alloc_row]; simpa using hv
  have hP := H.out.2.1 w1 w0.heap.size (hV0.next hb1) hcl1
  obtain ⟨g, hg⟩ : ∃ g, w0.heap.size = g := ⟨_, rfl⟩
  rw [hg] at hP
  have H1 := Lib.hid (And.intro hP (HE.out.2.trans (hb1.mono HE.out.2.size)))
  clear hV0 hb1 hcl1 hP
  go_wp2_with fail
  (try rw [hg])
  (try rw [← hw1])
  clear hc0 hc1 hc2 hc3 hw1 hg
  go_loop [5, 18] (fun v5 v18 => ∃ j : Nat, j ≤ 3 ∧ v18 = .int .i64 (j : Int) ∧ v5 = .int .i64 ((offR n m u j : Nat) : Int)) (fun _ v => 3 - (intOf v).toNat)
  case atStart => exact ⟨0, by omega, rfl, rfl⟩
  case round =>
    obtain ⟨j, hj, rfl, rfl⟩ := hrel
    by_cases hlt : j < 3
    · obtain ⟨P, N, D, S, hcj, hNS, hN4, hv, ho, hall⟩ := H1.out.1 j hlt
      obtain ⟨o, hoo⟩ : ∃ o, offR n m u j = o := ⟨_, rfl⟩
      have hob := H.out.2.2.2.1 j
      rw [hoo] at ho hall hob ⊢
      have hNle := hv.le
      have hND : N ≤ D := by omega
      have HV := Lib.hid (And.intro hNS (And.intro hv (And.intro ho hall)))
      clear hNS hv ho hall hNle hoo
      go_wp2_with fail
      clear hcj
      go_loop [5, 24] (fun v5 v24 => ∃ i : Nat, i ≤ N ∧ v24 = .int .i64 (i : Int) ∧ v5 = .int .i64 ((o + i : Nat) : Int)) (fun _ v => N - (intOf v).toNat)
      case atStart => exact ⟨0, Nat.zero_le _, rfl, rfl⟩
      case round =>
        obtain ⟨i, hi, rfl, rfl⟩ := hrel
        by_cases hlt2 : i < N
        · have hNS := HV.out.1
          obtain ⟨b, off, rfl, hb, hcc⟩ := HV.out.2.1.cell (by rintro rfl; simp at hNS; omega)
          obtain ⟨x, hx⟩ := getI (l := S) (k := i) (by omega)
          have hcx := hcc i x hx
          have hyx := HV.out.2.2.2 i x hx
          have hg := H.out.2.2.2.2 x (List.mem_of_getElem? hyx)
          have hx1 : ¬ x < 0 := by omega
          have hx2 : ¬ (k : Int) ≤ x := by omega
          clear hcc hx hg hyx hNS
          go_wp2_with fail
          go_round
          case rel => exact ⟨i + 1, by omega, by go_num, by go_num⟩
          case measure => simp [intOf]; omega
        · obtain rfl : i = N := by omega
          have ho := HV.out.2.2.1
          go_wp2_with fail
          go_round
          case rel => exact ⟨j + 1, by omega, by go_num, by rw [ho]⟩
          case measure => simp [intOf]; omega
    · obtain rfl : j = 3 := by omega
      go_wp2_with fail
      go_ret
      exact ⟨rfl, H1.out.2⟩
set_option maxRecDepth 100000 in
set_option maxHeartbeats 8000000 in
theorem rsyms_bad (k a : Int) (p q s : Option Addr) (n c m d u e : Nat) (L C R : List Int) (w : World) (A : Nat → Addr) (hr : Roots w A) (h : RowV w p q s n c m d u e L C R) (hn : n ≤ 17592186043904) (hm : m ≤ 17592186043904) (hu : u ≤ 17592186043904) (z : Nat) (hz : (L ++ C ++ R).findIdx? (badAt k) = some z) :
    Calls Tryd.prog 44 #[.int .i64 k, .agg #[.int .i64 a, .slice p n c, .slice q m d, .slice s u e]] w (Err1 w A rowOp z 2) := by
  have ST := Lib.hid (box_row w (.int .i64 a) (.slice p n c) (.slice q m d) (.slice s u e))
  obtain ⟨Y, hY⟩ : ∃ Y, L ++ C ++ R = Y := ⟨_, rfl⟩
  rw [hY] at hz
  have hYl : Y.length = n + m + u := by rw [← hY, List.length_append, List.length_append, h.hn, h.hm, h.hu]
  have hzl := (List.findIdx?_eq_some_iff_getElem.1 hz).1
  have hgood : ∀ (j : Nat) (x : Int), j < z → Y[j]? = some x → badAt k x = false := fun j x hj hx => by
    obtain ⟨hil, _, hall⟩ := List.findIdx?_eq_some_iff_getElem.1 hz
    have := hall j hj
    rw [List.getElem?_eq_getElem (by omega)] at hx
    obtain rfl := Option.some.inj hx
    simpa using this
  have hbad : ∀ x : Int, Y[z]? = some x → badAt k x = true := fun x hx => by
    obtain ⟨hil, hb, _⟩ := List.findIdx?_eq_some_iff_getElem.1 hz
    rw [List.getElem?_eq_getElem hil] at hx
    obtain rfl := Option.some.inj hx
    exact hb
  have hpart : ∀ (wx : World) (g : Nat), RowV wx p q s n c m d u e L C R → (∀ i v, ([.slice p n c, .slice q m d, .slice s u e] : List Value)[i]? = some v → wx.cell? ⟨g, i, none⟩ = some v) → ∀ j, j < 3 → ∃ (P : Option Addr) (N D : Nat) (S : List Int), wx.cell? ⟨g, j, none⟩ = some (.slice P N D) ∧ N = S.length ∧ N ≤ 17592186043904 ∧ IntV wx.heap.size wx P D S ∧ offR n m u (j + 1) = offR n m u j + N ∧ ∀ i x, S[i]? = some x → Y[offR n m u j + i]? = some x := fun wx g hv hcl j hj => by
    rcases (by omega : j = 0 ∨ j = 1 ∨ j = 2) with rfl | rfl | rfl
    · refine ⟨p, n, c, L, hcl 0 _ rfl, hv.hn, hn, hv.l, by simp [offR], fun i x hx => ?_⟩
      rw [← hY, List.append_assoc]
      have := ltI hx
      rw [show offR n m u 0 + i = i by simp [offR], List.getElem?_append_left this]
      exact hx
    · refine ⟨q, m, d, C, hcl 1 _ rfl, hv.hm, hm, hv.c, by simp [offR], fun i x hx => ?_⟩
      have := ltI hx
      have hnl := hv.hn
      rw [← hY, List.getElem?_append_left (by rw [List.length_append]; show n + i < _; omega), List.getElem?_append_right (by show L.length ≤ n + i; omega)]
      rw [show offR n m u 1 + i - L.length = i by show n + i - L.length = i; omega]
      exact hx
    · refine ⟨s, u, e, R, hcl 2 _ rfl, hv.hu, hu, hv.r, by simp [offR], fun i x hx => ?_⟩
      have hnl := hv.hn
      have hml := hv.hm
      rw [← hY, List.getElem?_append_right (by rw [List.length_append]; show _ ≤ n + m + i; omega), List.length_append]
      rw [show offR n m u 2 + i - (L.length + C.length) = i by show n + m + i - _ = i; omega]
      exact hx
  have ho3 : offR n m u 3 = Y.length := by rw [hYl]; rfl
  have hob : ∀ j, offR n m u j ≤ 52776558131712 := fun j => by
    rcases j with _ | _ | _ | j
    · exact Nat.zero_le _
    · show n ≤ _; omega
    · show n + m ≤ _; omega
    · show n + m + u ≤ _; omega
  have H := Lib.hid (And.intro h (And.intro hpart (And.intro ho3 (And.intro hob (And.intro hgood (And.intro hbad (And.intro hzl hr)))))))
  clear h hpart ho3 hob hYl hY hn hm hu hz hgood hbad hzl hr
  go_enter Tryd.func44, Tryd.ntmps44
  go_upto_region 1 with fail
  obtain ⟨w0, hw0⟩ : ∃ w0, w0 = w.alloc (.cells #[.int .i64 a, .slice p n c, .slice q m d, .slice s u e] 24) := ⟨_, rfl⟩
  rw [← hw0]
  obtain ⟨hb0, hE0⟩ := ST.out w0 hw0
  have HE := Lib.hid (And.intro hE0 hb0)
  obtain ⟨hc0, hc1, hc2, hc3⟩ := hE0.facts
  clear hw0 hE0 hb0
  have hV0 := H.out.1.next HE.out.2
  obtain ⟨w1, hw1⟩ : ∃ x, x = w0.alloc (.cells #[.slice p n c, .slice q m d, .slice s u e] 22) := ⟨_, rfl⟩
  have hb1 : Below w0.heap.size w0 w1 := by rw [hw1]; exact (Below.refl _ _).alloc (Nat.le_refl _) _
  have hcl1 : ∀ i v, ([.slice p n c, .slice q m d, .slice s u e] : List Value)[i]? = some v → w1.cell? ⟨w0.heap.size, i, none⟩ = some v := fun i v hv => by rw [hw1, cell_alloc_row]; simpa using hv
  have hP := H.out.2.1 w1 w0.heap.size (hV0.next hb1) hcl1
  obtain ⟨g, hg⟩ : ∃ g, w0.heap.size = g := ⟨_, rfl⟩
  rw [hg] at hP
  have H1 := Lib.hid (And.intro hP (HE.out.2.trans (hb1.mono HE.out.2.size)))
  clear hV0 hb1 hcl1 hP
  go_wp2_with fail
  (try rw [hg])
  (try rw [← hw1])
  clear hc0 hc1 hc2 hc3 hw1 hg
  go_loop [5, 18] (fun v5 v18 => ∃ j : Nat, j ≤ 3 ∧ v18 = .int .i64 (j : Int) ∧ v5 = .int .i64 ((offR n m u j : Nat) : Int) ∧ offR n m u j ≤ z) (fun _ v => 3 - (intOf v).toNat)
  case atStart => exact ⟨0, by omega, rfl, rfl, Nat.zero_le _⟩
  case round =>
    obtain ⟨j, hj, rfl, rfl, hjz⟩ := hrel
    by_cases hlt : j < 3
    · obtain ⟨P, N, D, S, hcj, hNS, hN4, hv, ho, hall⟩ := H1.out.1 j hlt
      obtain ⟨o, hoo⟩ : ∃ o, offR n m u j = o := ⟨_, rfl⟩
      have hob := H.out.2.2.2.1 j
      rw [hoo] at ho hall hob hjz ⊢
      have hNle := hv.le
      have hND : N ≤ D := by omega
      have HV := Lib.hid (And.intro hNS (And.intro hv (And.intro ho hall)))
      clear hNS hv ho hall hNle hoo
      go_wp2_with fail
      clear hcj
      go_loop [5, 24] (fun v5 v24 => ∃ i : Nat, i ≤ N ∧ v24 = .int .i64 (i : Int) ∧ v5 = .int .i64 ((o + i : Nat) : Int) ∧ o + i ≤ z) (fun _ v => N - (intOf v).toNat)
      case atStart => exact ⟨0, Nat.zero_le _, rfl, rfl, hjz⟩
      case round =>
        obtain ⟨i, hi, rfl, rfl, hiz⟩ := hrel
        by_cases hlt2 : i < N
        · have hNS := HV.out.1
          obtain ⟨b, off, rfl, hb, hcc⟩ := HV.out.2.1.cell (by rintro rfl; simp at hNS; omega)
          obtain ⟨x, hx⟩ := getI (l := S) (k := i) (by omega)
          have hcx := hcc i x hx
          have hyx := HV.out.2.2.2 i x hx
          by_cases hiq : o + i < z
          · have hg := H.out.2.2.2.2.1 _ x hiq hyx
            unfold badAt at hg
            simp at hg
            have hx1 : ¬ x < 0 := by omega
            have hx2 : ¬ k ≤ x := by omega
            clear hcc hx hg hyx hNS
            go_wp2_with fail
            go_round
            case rel => exact ⟨i + 1, by omega, by go_num, by go_num, by omega⟩
            case measure => simp [intOf]; omega
          · obtain rfl : o + i = z := by omega
            have hg := H.out.2.2.2.2.2.1 x hyx
            unfold badAt at hg
            simp at hg
            clear hcc hx hyx hNS
            rcases Int.lt_or_le x 0 with hx1 | hx1
            · clear hg
              go_wp2_with fail
              refine (new_at rowOp ((o + i : Nat) : Int) 2 _ A (H.out.2.2.2.2.2.2.2.below H1.out.2) (by omega)).mono ?_
              rintro e' w2 ⟨b2, rfl, hl2, hb2⟩
              have H2 := Lib.hid (And.intro hl2 (H1.out.2.trans (hb2.mono H1.out.2.size)))
              clear hl2 hb2
              go_wp2_with fail
              go_ret
              exact ⟨b2, rfl, H2.out.1, H2.out.2⟩
            · have hx2 : k ≤ x := by omega
              have hx3 : ¬ x < 0 := by omega
              clear hg
              go_wp2_with fail
              refine (new_at rowOp ((o + i : Nat) : Int) 2 _ A (H.out.2.2.2.2.2.2.2.below H1.out.2) (by omega)).mono ?_
              rintro e' w2 ⟨b2, rfl, hl2, hb2⟩
              have H2 := Lib.hid (And.intro hl2 (H1.out.2.trans (hb2.mono H1.out.2.size)))
              clear hl2 hb2
              go_wp2_with fail
              go_ret
              exact ⟨b2, rfl, H2.out.1, H2.out.2⟩
        · obtain rfl : i = N := by omega
          have ho := HV.out.2.2.1
          go_wp2_with fail
          go_round
          case rel => exact ⟨j + 1, by omega, by go_num, by rw [ho], by rw [ho]; exact hiz⟩
          case measure => simp [intOf]; omega
    · obtain rfl : j = 3 := by omega
      have h1 := H.out.2.2.1
      have h2 := H.out.2.2.2.2.2.2.1
      omega
theorem nil_of_okW {k : Nat} {l : List Int} (h : okW k l) : l.findIdx? (badAt (k : Int)) = none := bad_none.2 h
set_option maxRecDepth 100000 in
set_option maxHeartbeats 4000000 in
theorem rrcheck_ok (k : Nat) (a : Int) (p q s : Option Addr) (n c m d u e : Nat) (L C R : List Int) (w : World) (h : RowV w p q s n c m d u e L C R) (hw : OkRw k a L C R) :
    Calls Tryd.prog 16 #[.int .i64 (k : Int), .agg #[.int .i64 a, .slice p n c, .slice q m d, .slice s u e]] w (Tells .nilIface w) := by
  have ST := Lib.hid (box_row w (.int .i64 a) (.slice p n c) (.slice q m d) (.slice s u e))
  have h1 := hw.k1
  have h4 := hw.k4
  have a1 := hw.a1
  have a2 := hw.a2
  have hn := h.hn
  have hm := h.hm
  have hu := h.hu
  have hlen := fun W => rlen_ok a p q s n c m d u e W (by have := hw.l0; omega) (by have := hw.r0; omega) (by have := hw.l1; omega) (by have := hw.r1; omega) (by have := hw.c1; omega)
  have hsym := fun W hW => rsyms_ok k a p q s n c m d u e L C R W hW (by have := hw.l1; omega) (by have := hw.c1; omega) (by have := hw.r1; omega) hw.all
  have H := Lib.hid (And.intro h (And.intro hlen hsym))
  clear h hw hn hm hu hlen hsym
  go_enter Tryd.func16, Tryd.ntmps16
  go_upto_region 1 with fail
  obtain ⟨w0, hw0⟩ : ∃ w0, w0 = w.alloc (.cells #[.int .i64 a, .slice p n c, .slice q m d, .slice s u e] 24) := ⟨_, rfl⟩
  rw [← hw0]
  obtain ⟨hb0, hE0⟩ := ST.out w0 hw0
  have HE := Lib.hid (And.intro hE0 hb0)
  obtain ⟨hc0, hc1, hc2, hc3⟩ := hE0.facts
  clear hw0 hE0 hb0
  go_wp2_with fail
  refine (H.out.2.1 w0).mono ?_
  rintro e' w1 ⟨rfl, hb1⟩
  have H1 := Lib.hid (And.intro (HE.out.1.next hb1) (HE.out.2.trans (hb1.mono HE.out.2.size)))
  clear hb1 hc0 hc1 hc2 hc3
  obtain ⟨hc0, hc1, hc2, hc3⟩ := H1.out.1.facts
  go_wp2_with fail
  refine (H.out.2.2 w1 (H.out.1.next H1.out.2)).mono ?_
  rintro e' w2 ⟨rfl, hb2⟩
  have H2 := Lib.hid (H1.out.2.trans (hb2.mono H1.out.2.size))
  clear hb2 hc0 hc1 hc2 hc3
  go_wp2_with fail
  go_ret
  exact ⟨rfl, H2.out⟩
set_option maxRecDepth 100000 in
set_option maxHeartbeats 8000000 in
theorem rrcheck_bad (k a : Int) (p q s : Option Addr) (n c m d u e : Nat) (L C R : List Int) (w : World) (A : Nat → Addr) (hr : Roots w A) (h : RowV w p q s n c m d u e L C R) (hn : n ≤ 17592186043904) (hm : m ≤ 17592186043904) (hu : u ≤ 17592186043904) (i j : Nat) (hc : chkRw k a L C R = some (i, j)) :
    Calls Tryd.prog 16 #[.int .i64 k, .agg #[.int .i64 a, .slice p n c, .slice q m d, .slice s u e]] w (Err1 w A rowOp i j) := by
  have ST := Lib.hid (box_row w (.int .i64 a) (.slice p n c) (.slice q m d) (.slice s u e))
  by_cases hk : k < 1 ∨ 4 < k
  · unfold chkRw at hc
    rw [if_pos hk] at hc
    obtain ⟨rfl, rfl⟩ := Prod.mk.inj (Option.some.inj hc)
    have HR := Lib.hid hr
    clear h hn hm hu hc hr
    rcases (by omega : k < 1 ∨ (¬ k < 1 ∧ 4 < k)) with h1 | ⟨h1, h2⟩
    all_goals
      clear hk
      go_enter Tryd.func16, Tryd.ntmps16
      go_upto_region 1 with fail
      obtain ⟨w0, hw0⟩ : ∃ w0, w0 = w.alloc (.cells #[.int .i64 a, .slice p n c, .slice q m d, .slice s u e] 24) := ⟨_, rfl⟩
      rw [← hw0]
      obtain ⟨hb0, hE0⟩ := ST.out w0 hw0
      have HE := Lib.hid (And.intro hE0 hb0)
      obtain ⟨hc0, hc1, hc2, hc3⟩ := hE0.facts
      clear hw0 hE0 hb0
      go_wp2_with fail
      refine (new_at rowOp 0 3 w0 A (HR.out.below HE.out.2) (by omega)).mono ?_
      rintro e' w2 ⟨b, rfl, hl, hb2⟩
      have H2 := Lib.hid (And.intro hl (HE.out.2.trans (hb2.mono HE.out.2.size)))
      clear hb2 hl
      go_wp2_with fail
      go_ret
      exact ⟨b, rfl, H2.out.1, H2.out.2⟩
  have h1 : ¬ k < 1 := by omega
  have h4 : ¬ 4 < k := by omega
  by_cases ha : a < -4096 ∨ 4096 < a
  · unfold chkRw at hc
    rw [if_neg hk, if_pos ha] at hc
    obtain ⟨rfl, rfl⟩ := Prod.mk.inj (Option.some.inj hc)
    have HR := Lib.hid hr
    clear h hn hm hu hc hr hk
    rcases (by omega : a < -4096 ∨ (¬ a < -4096 ∧ 4096 < a)) with ha1 | ⟨ha1, ha2⟩
    all_goals
      clear ha
      go_enter Tryd.func16, Tryd.ntmps16
      go_upto_region 1 with fail
      obtain ⟨w0, hw0⟩ : ∃ w0, w0 = w.alloc (.cells #[.int .i64 a, .slice p n c, .slice q m d, .slice s u e] 24) := ⟨_, rfl⟩
      rw [← hw0]
      obtain ⟨hb0, hE0⟩ := ST.out w0 hw0
      have HE := Lib.hid (And.intro hE0 hb0)
      obtain ⟨hc0, hc1, hc2, hc3⟩ := hE0.facts
      clear hw0 hE0 hb0
      go_wp2_with fail
      refine (new_at rowOp 1 3 w0 A (HR.out.below HE.out.2) (by omega)).mono ?_
      rintro e' w2 ⟨b, rfl, hl, hb2⟩
      have H2 := Lib.hid (And.intro hl (HE.out.2.trans (hb2.mono HE.out.2.size)))
      clear hb2 hl
      go_wp2_with fail
      go_ret
      exact ⟨b, rfl, H2.out.1, H2.out.2⟩
  have ha1 : ¬ a < -4096 := by omega
  have ha2 : ¬ 4096 < a := by omega
  rw [chkRw_len hk ha] at hc
  cases hl : chkLn L.length C.length R.length with
  | some y =>
    rw [hl] at hc
    obtain rfl := Option.some.inj hc
    rw [← h.hn, ← h.hm, ← h.hu] at hl
    have HL := Lib.hid (fun W hW => rlen_bad a p q s n c m d u e W A hW hn hm hu i j hl)
    have HR := Lib.hid hr
    clear h hn hm hu hc hr hk ha hl
    go_enter Tryd.func16, Tryd.ntmps16
    go_upto_region 1 with fail
    obtain ⟨w0, hw0⟩ : ∃ w0, w0 = w.alloc (.cells #[.int .i64 a, .slice p n c, .slice q m d, .slice s u e] 24) := ⟨_, rfl⟩
    rw [← hw0]
    obtain ⟨hb0, hE0⟩ := ST.out w0 hw0
    have HE := Lib.hid (And.intro hE0 hb0)
    obtain ⟨hc0, hc1, hc2, hc3⟩ := hE0.facts
    clear hw0 hE0 hb0
    go_wp2_with fail
    refine (HL.out w0 (HR.out.below HE.out.2)).mono ?_
    rintro e' w1 ⟨b, rfl, hl, hb1⟩
    have H2 := Lib.hid (And.intro hl (HE.out.2.trans (hb1.mono HE.out.2.size)))
    clear hb1 hl hc0 hc1 hc2 hc3
    go_wp2_with fail
    go_ret
    exact ⟨b, rfl, H2.out.1, H2.out.2⟩
  | none =>
    rw [hl] at hc
    obtain ⟨z, hz, he⟩ := Option.map_eq_some_iff.1 hc
    obtain ⟨rfl, rfl⟩ := Prod.mk.inj he
    rw [← h.hn, ← h.hm, ← h.hu] at hl
    obtain ⟨l1, l2, l3, l4, l5⟩ := chkLn_none hl
    have HL := Lib.hid (And.intro (fun W => rlen_ok a p q s n c m d u e W l1 l2 l3 l4 l5) (fun W hr hW => rsyms_bad k a p q s n c m d u e L C R W A hr hW hn hm hu z hz))
    have HR := Lib.hid (And.intro hr h)
    clear h hn hm hu hc hr hk ha hl hz he l1 l2 l3 l4 l5
    go_enter Tryd.func16, Tryd.ntmps16
    go_upto_region 1 with fail
    obtain ⟨w0, hw0⟩ : ∃ w0, w0 = w.alloc (.cells #[.int .i64 a, .slice p n c, .slice q m d, .slice s u e] 24) := ⟨_, rfl⟩
    rw [← hw0]
    obtain ⟨hb0, hE0⟩ := ST.out w0 hw0
    have HE := Lib.hid (And.intro hE0 hb0)
    obtain ⟨hc0, hc1, hc2, hc3⟩ := hE0.facts
    clear hw0 hE0 hb0
    go_wp2_with fail
    refine (HL.out.1 w0).mono ?_
    rintro e' w1 ⟨rfl, hb1⟩
    have H1 := Lib.hid (And.intro (HE.out.1.next hb1) (HE.out.2.trans (hb1.mono HE.out.2.size)))
    clear hb1 hc0 hc1 hc2 hc3
    obtain ⟨hc0, hc1, hc2, hc3⟩ := H1.out.1.facts
    go_wp2_with fail
    refine (HL.out.2 w1 (HR.out.1.below H1.out.2) (HR.out.2.next H1.out.2)).mono ?_
    rintro e' w2 ⟨b, rfl, hl, hb2⟩
    have H2 := Lib.hid (And.intro hl (H1.out.2.trans (hb2.mono H1.out.2.size)))
    clear hb2 hl hc0 hc1 hc2 hc3
    go_wp2_with fail
    go_ret
    exact ⟨b, rfl, H2.out.1, H2.out.2⟩
end Go.Proofs.YtfgoflaeclfggaaDoor
end
section
namespace Go.Proofs.YtfgoflaeclfggaaDoor
open Go.RowKit Go.Extern.Stop Go.Stop Go.Extern WordM RuleM

theorem IntO.setFar {base : Nat} {w : World} {p : Option Addr} {c : Nat} {l : List Int} (h : IntO base w p c l) {g : Nat} (hg : g < base) (i : Nat) (v : Value) : IntO base (w.setCell ⟨g, i, none⟩ v) p c l := by
  have hs : (w.setCell ⟨g, i, none⟩ v).heap.size = w.heap.size := by simp [World.setCell]
  have hgr : w.grownBy (w.setCell ⟨g, i, none⟩ v) (some g) := ⟨rfl, rfl, rfl, by rw [hs]; exact Nat.le_refl _, fun k _ hne => Below.heap_setCell w ⟨g, i, none⟩ _ k (fun e => hne (by rw [e]))⟩
  refine World.ownsRow.kept h hgr ?_
  cases hb : (Value.slice p l.length c).ownBlock with
  | none => exact Or.inl rfl
  | some z =>
    right
    have h5 := (World.ownsRow.lt h z hb).1
    simp
    omega
def CellsRel (w0 : World) (N : Nat) (P : List Int) (v : Value) (wr : World) : Prop :=
  ∃ j : Nat, j ≤ N ∧ v = .int .i64 (j : Int) ∧ IntO w0.heap.size wr (some ⟨w0.heap.size, 0, none⟩) N (P.take j ++ List.replicate (N - j) 0) ∧ Below w0.heap.size w0 wr

set_option maxRecDepth 100000 in
set_option maxHeartbeats 4000000 in
theorem rcells_any (a lo hi : Int) (N : Nat) (p q s : Option Addr) (n c m d u e : Nat) (L C R : List Int) (w : World) (h : RowV w p q s n c m d u e L C R) (hz : Rsz a n m u) (hlo1 : -549755813888 ≤ lo) (hlo2 : lo ≤ 549755813888) (hN : hi - lo = (N : Int)) (hN2 : N ≤ 549755813888) :
    Calls Tryd.prog 38 #[.agg #[.int .i64 a, .slice p n c, .slice q m d, .slice s u e], .int .i64 lo, .int .i64 hi] w (IntPost w (pieceR a L C R lo N)) := by
  have ST := Lib.hid (box_row w (.int .i64 a) (.slice p n c) (.slice q m d) (.slice s u e))
  have wN : IntKind.i64.wrap (hi - lo) = (N : Int) := by rw [IntWalk.i64_in _ (by omega)]; exact hN
  have hPl := pieceR_length a L C R lo N
  have hPg := fun j => @pieceR_get a L C R lo N j
  obtain ⟨P, hP⟩ : ∃ P, pieceR a L C R lo N = P := ⟨_, rfl⟩
  rw [hP] at hPl ⊢
  simp only [hP] at hPg
  have hmk := makeI N (by omega)
  have H := Lib.hid (And.intro h (And.intro hz (And.intro hPl hPg)))
  clear h hz hPl hPg hP hN
  go_enter Tryd.func38, Tryd.ntmps38
  go_upto_region 1 with fail
  obtain ⟨w0, hw0⟩ : ∃ w0, w0 = w.alloc (.cells #[.int .i64 a, .slice p n c, .slice q m d, .slice s u e] 24) := ⟨_, rfl⟩
  rw [← hw0]
  obtain ⟨hb0, hE0⟩ := ST.out w0 hw0
  have HE := Lib.hid (And.intro hE0 hb0)
  clear hw0 hE0 hb0
  have hs0 : w.heap.size < w0.heap.size := HE.out.1.lt
  have hmk1 := hmk w0
  have ho0 := IntO.made w0 N (by omega)
  obtain ⟨w1, hw1⟩ : ∃ x, x = w0.alloc (.cells (madeCells #[.int .i64 0] N) 3) := ⟨_, rfl⟩
  have hb1 : Below w0.heap.size w0 w1 := by rw [hw1]; exact (Below.refl _ _).alloc (Nat.le_refl _) _
  rw [← hw1] at hmk1 ho0
  have H1 := Lib.hid (And.intro ho0 hb1)
  clear hmk ho0 hb1 hw1
  go_wp2_with fail
  clear hmk1
  go_loopw [15] (fun v wr => CellsRel w0 N P v wr) (fun v _ => N - (intOf v).toNat)
  case atStart => exact ⟨0, Nat.zero_le _, rfl, by simpa using H1.out.1, H1.out.2⟩
  case round =>
    obtain ⟨j, hj, rfl, ho, hb⟩ := hrel
    have hbw : Below w.heap.size w wr := HE.out.2.trans (hb.mono HE.out.2.size)
    by_cases hlt : j < N
    · have hx := H.out.2.2.2 j hlt
      obtain ⟨X, hX⟩ : ∃ X, rwAt a L C R (lo + (j : Int)) = X := ⟨_, rfl⟩
      have wlj : IntKind.i64.wrap (lo + (j : Int)) = lo + (j : Int) := by rw [IntWalk.i64_in _ (by omega)]
      have hcall := rsym_any a (lo + (j : Int)) p q s n c m d u e L C R wr (H.out.1.next hbw) H.out.2.1 (by omega) (by omega)
      rw [hX] at hcall hx
      have HC := Lib.hid (And.intro hcall hx)
      have HR := Lib.hid (And.intro ho (And.intro hb hbw))
      obtain ⟨hc0, hc1, hc2, hc3⟩ := (HE.out.1.next hb).facts
      clear hcall hx hX ho hb hbw
      go_wp2_with fail
      refine HC.out.1.mono ?_
      rintro e' w2 ⟨rfl, hb2⟩
      have ho2 := HR.out.1.next hb2
      have hbb2 := HR.out.2.1.trans (hb2.mono HR.out.2.1.size)
      have hput := put_next HC.out.2 hlt
      have hmid := mid_len (l := P) (j := j) (n := N) (by have := H.out.2.2.1; omega) (by omega)
      obtain ⟨xs, hxs⟩ : ∃ xs, P.take j ++ List.replicate (N - j) (0 : Int) = xs := ⟨_, rfl⟩
      rw [hxs] at ho2 hput hmid
      have hown : w2.ownsRow w0.heap.size 3 1 (.slice (some ⟨w0.heap.size, 0, none⟩) N N) N (cI xs) := by
        unfold IntO at ho2
        rwa [hmid] at ho2
      obtain ⟨y0, hy0⟩ := getI (l := xs) (k := j) (by omega)
      have hcy : w2.cell? ⟨w0.heap.size, j, none⟩ = some (.int .i64 y0) := (hown.cellAt j (by omega)).trans (cI_get hy0)
      have hfy : w2.frozen? ⟨w0.heap.size, j, none⟩ = false := hown.frozenAt j
      obtain ⟨s1, t1'⟩ := hown.stored j (.int .i64 X)
      rw [← cI_set, hput] at s1
      have hb3 : Below w0.heap.size w0 (w2.setCell ⟨w0.heap.size, j, none⟩ (.int .i64 X)) := hbb2.setCell (p := ⟨w0.heap.size, j, none⟩) (Nat.le_refl _) _
      have hmid1 := mid_len (l := P) (j := j + 1) (n := N) (by have := H.out.2.2.1; omega) (by omega)
      have HS := Lib.hid (And.intro hb3 (And.intro s1 hmid1))
      clear hb2 ho2 hbb2 hput hmid hxs hown hy0 s1 t1' hb3 hmid1 hc0 hc1 hc2 hc3
      go_wp2_with fail
      go_roundw
      case rel => exact ⟨j + 1, by omega, by go_num, by unfold IntO; rw [HS.out.2.2]; exact HS.out.2.1, HS.out.1⟩
      case measure => simp [intOf]; omega
    · obtain rfl : j = N := by omega
      have hPu := H.out.2.2.1
      have he : P.take j ++ List.replicate (j - j) (0 : Int) = P := by rw [Nat.sub_self, List.replicate_zero, List.append_nil, ← hPu, List.take_length]
      rw [he] at ho
      have HF := Lib.hid (And.intro (ho.base (Nat.le_of_lt hs0)) hbw)
      clear ho hb he hbw hPu
      go_wp2_with fail
      go_ret
      exact ⟨some ⟨w0.heap.size, 0, none⟩, j, by rw [H.out.2.2.1]; rfl, HF.out.1, HF.out.2⟩

theorem box_rule_row (w : World) (a b c a' b' c' d' : Value) (w0 : World) (hw0 : w0 = (w.alloc (.cells #[a, b, c] 53)).alloc (.cells #[a', b', c', d'] 24)) :
    Below w.heap.size w w0 ∧ Rul3 w0 w.heap.size a b c ∧ Row4 w0 (w.heap.size + 1) a' b' c' d' := by
  obtain ⟨h1, h2⟩ := box_rule w a b c _ rfl
  obtain ⟨h3, h4⟩ := box_row (w.alloc (.cells #[a, b, c] 53)) a' b' c' d' w0 hw0
  have hs : (w.alloc (.cells #[a, b, c] 53)).heap.size = w.heap.size + 1 := by simp
  rw [hs] at h4
  exact ⟨h1.trans (h3.mono h1.size), h2.next h3, h4⟩
def RImgRel (w0 w1 : World) (k S N Q R2 : Nat) (pT : Option Addr) (cT : Nat) (T I : List Int) (v10 v28 : Value) (wr : World) : Prop :=
  ∃ j : Nat, j ≤ Q ∧ v28 = .int .i64 (j : Int) ∧ v10 = .int .i64 ((valW k (T.take j) % S : Nat) : Int) ∧ IntO w0.heap.size wr (some ⟨w0.heap.size, 0, none⟩) N (I.take (j - R2) ++ List.replicate (N - (j - R2)) 0) ∧ IntO w1.heap.size wr pT cT T ∧ Below w0.heap.size w0 wr

set_option maxRecDepth 100000 in
set_option maxHeartbeats 8000000 in
theorem rimage_any (k r : Nat) (a lo hi : Int) (N : Nat) (pt : Option Addr) (nt ct : Nat) (t : List Int) (p q s : Option Addr) (n c m d u e : Nat) (L C R : List Int) (w : World) (hnt : nt = t.length) (ht : IntV w.heap.size w pt ct t) (ho : OkR k r t)
    (h : RowV w p q s n c m d u e L C R) (hw : OkRw k a L C R) (hlo1 : -1048576 ≤ lo) (hlo2 : lo ≤ 1048576) (hN : hi - lo = (N : Int)) (hN2 : N ≤ 1048576) :
    Calls Tryd.prog 52 #[.agg #[.int .i64 (k : Int), .int .i64 (r : Int), .slice pt nt ct], .agg #[.int .i64 a, .slice p n c, .slice q m d, .slice s u e], .int .i64 lo, .int .i64 hi] w (IntPost w (imgR k r t a L C R lo N)) := by
  have ST := Lib.hid (box_rule_row w (.int .i64 (k : Int)) (.int .i64 (r : Int)) (.slice pt nt ct) (.int .i64 a) (.slice p n c) (.slice q m d) (.slice s u e))
  have h1 := ho.k1
  have h4 := ho.k4
  have h3 := ho.r3
  have hcap2 := ht.cap
  have hle2 := ht.le
  unfold maxLen at hcap2
  have hnc : nt ≤ ct := by omega
  have hn16 : nt ≤ 16384 := by rw [hnt, ho.len]; exact pow_le h4 h3
  have hn1 : 1 ≤ nt := by rw [hnt, ho.len]; exact pow_pos h1
  obtain ⟨R2, hR2⟩ : ∃ R2 : Nat, 2 * r = R2 := ⟨_, rfl⟩
  obtain ⟨Q, hQ⟩ : ∃ Q, N + R2 = Q := ⟨_, rfl⟩
  have hS : nt = k ^ (R2 + 1) := by rw [hnt, ho.len, hR2]
  have hTl := pieceR_length a L C R (lo - (r : Int)) (N + 2 * r)
  have hTo := pieceR_ok hw (lo - (r : Int)) (N + 2 * r)
  have hIl := imgR_length k r t a L C R lo N
  have hIg := fun i => @imgW_get k r t (pieceR a L C R (lo - (r : Int)) (N + 2 * r)) i
  have hIe : imgR k r t a L C R lo N = imgW k r t (pieceR a L C R (lo - (r : Int)) (N + 2 * r)) := rfl
  have hzs : Rsz a n m u := ⟨by have := hw.a1; omega, by have := hw.a2; omega, by have := hw.l0; have := h.hn; omega, by have := hw.r0; have := h.hu; omega, by have := hw.l1; have := h.hn; omega, by have := hw.c1; have := h.hm; omega, by have := hw.r1; have := h.hu; omega⟩
  have hcells := fun W hW => rcells_any a (lo - (r : Int)) (hi + (r : Int)) (N + 2 * r) p q s n c m d u e L C R W hW hzs (by omega) (by omega) (by omega) (by omega)
  rw [← hIe] at hIg
  obtain ⟨T, hT⟩ : ∃ T, pieceR a L C R (lo - (r : Int)) (N + 2 * r) = T := ⟨_, rfl⟩
  rw [hT] at hTl hTo
  simp only [hT] at hcells hIg
  obtain ⟨I, hI⟩ : ∃ I, imgR k r t a L C R lo N = I := ⟨_, rfl⟩
  rw [hI] at hIl ⊢
  simp only [hI] at hIg
  rw [hTl, hR2] at hIg
  rw [hR2, hQ] at hTl
  rw [hQ] at hIg
  unfold IntPost at hcells
  simp only [hTl] at hcells
  have w2r : IntKind.i64.wrap (2 * (r : Int)) = (R2 : Int) := by rw [IntWalk.i64_in _ (by omega)]; omega
  have wN : IntKind.i64.wrap (hi - lo) = (N : Int) := by rw [IntWalk.i64_in _ (by omega)]; exact hN
  have wlo : IntKind.i64.wrap (lo - (r : Int)) = lo - (r : Int) := by rw [IntWalk.i64_in _ (by omega)]
  have whi : IntKind.i64.wrap (hi + (r : Int)) = hi + (r : Int) := by rw [IntWalk.i64_in _ (by omega)]
  have hR6 : R2 ≤ 6 := by omega
  have hQ2 : Q ≤ 1048600 := by omega
  have hn0 : ¬ (nt : Int) = 0 := by omega
  have hmk := makeI N (by omega)
  have H := Lib.hid (And.intro hnt (And.intro ht (And.intro h (And.intro hS (And.intro hTl (And.intro hTo (And.intro hIl (And.intro hIg (And.intro hcells hQ)))))))))
  clear hnt ht h hS hTl hTo hIl hIg hcells hT hI hIe hN hw ho hzs hle2 hcap2 hR2 hQ
  go_enter Tryd.func52, Tryd.ntmps52
  go_upto_region 1 with fail
  obtain ⟨w0, hw0⟩ : ∃ w0, w0 = (w.alloc (.cells #[.int .i64 (k : Int), .int .i64 (r : Int), .slice pt nt ct] 53)).alloc (.cells #[.int .i64 a, .slice p n c, .slice q m d, .slice s u e] 24) := ⟨_, rfl⟩
  rw [← hw0]
  obtain ⟨hb0, hE0, hE0'⟩ := ST.out w0 hw0
  have HE := Lib.hid (And.intro hE0 (And.intro hE0' hb0))
  clear hw0 hE0 hE0' hb0
  have hs0 : w.heap.size < w0.heap.size := HE.out.1.lt
  have hmk1 := hmk w0
  have ho0 := IntO.made w0 N (by omega)
  obtain ⟨w1, hw1⟩ : ∃ x, x = w0.alloc (.cells (madeCells #[.int .i64 0] N) 3) := ⟨_, rfl⟩
  have hb1 : Below w0.heap.size w0 w1 := by rw [hw1]; exact (Below.refl _ _).alloc (Nat.le_refl _) _
  have hs1 : w1.heap.size = w0.heap.size + 1 := by rw [hw1]; simp
  rw [← hw1] at hmk1 ho0
  have H1 := Lib.hid (And.intro ho0 (And.intro hb1 hs1))
  clear hmk ho0 hb1 hw1 hs1
  obtain ⟨_, hc0, hc1, hc2⟩ := (HE.out.1.next H1.out.2.1).facts
  obtain ⟨hd0, hd1, hd2, hd3⟩ := (HE.out.2.1.next H1.out.2.1).facts
  go_wp2_with fail
  refine (H.out.2.2.2.2.2.2.2.2.1 w1 (H.out.2.2.1.next (HE.out.2.2.trans (H1.out.2.1.mono HE.out.2.2.size)))).mono ?_
  rintro e' w2 ⟨pT, cT, rfl, hoT, hb2⟩
  have H2 := Lib.hid (And.intro (H1.out.1.next hb2) (And.intro hoT (H1.out.2.1.trans (hb2.mono H1.out.2.1.size))))
  have hQc : Q ≤ cT := by have := hoT.toV.le; have := H.out.2.2.2.2.1; omega
  clear hmk1 hc0 hc1 hc2 hd0 hd1 hd2 hd3 hoT hb2
  go_wp2_with fail
  go_loopw [10, 28] (fun v10 v28 wr => RImgRel w0 w1 k nt N Q R2 pT cT T I v10 v28 wr) (fun _ v _ => Q - (intOf v).toNat)
  case atStart => exact ⟨0, Nat.zero_le _, rfl, by simp [valW], by simpa using H2.out.1, H2.out.2.1, H2.out.2.2⟩
  case round =>
    obtain ⟨j, hj, rfl, rfl, ho, hoT, hb⟩ := hrel
    have hbw : Below w.heap.size w wr := HE.out.2.2.trans (hb.mono HE.out.2.2.size)
    have hBx := HE.out.1.next hb
    obtain ⟨⟨hf0, hf1, hf2⟩, hc0, hc1, hc2⟩ := hBx.facts
    by_cases hlt : j < Q
    · have hml := H.out.2.2.2.2.1
      obtain ⟨b, off, rfl, hbb, hc⟩ := hoT.toV.cell (by rintro rfl; simp at hml; omega)
      obtain ⟨x, hx⟩ := getI (l := T) (k := j) (by omega)
      have hcx : wr.cell? ⟨b, off + j, none⟩ = some (.int .i64 x) := hc j x hx
      have hxo := H.out.2.2.2.2.2.1 x (List.mem_of_getElem? hx)
      have hstep := step_mod (k := k) (S := nt) hx
      obtain ⟨y, rfl⟩ : ∃ y : Nat, x = (y : Int) := ⟨x.toNat, by omega⟩
      rw [Int.toNat_natCast] at hstep
      have hv1 : valW k (T.take j) % nt < nt := Nat.mod_lt _ (by omega)
      have hv2 : valW k (T.take (j + 1)) % nt < nt := Nat.mod_lt _ (by omega)
      obtain ⟨v, hv⟩ : ∃ v, valW k (T.take j) % nt = v := ⟨_, rfl⟩
      obtain ⟨z, hz⟩ : ∃ z, valW k (T.take (j + 1)) % nt = z := ⟨_, rfl⟩
      rw [hv] at hstep hv1 ⊢
      rw [hz] at hstep hv2
      obtain ⟨g, hg⟩ : ∃ g, v * k = g := ⟨_, rfl⟩
      have ha16 : g ≤ 16384 * 4 := by rw [← hg]; exact Nat.mul_le_mul (by omega) h4
      have hvk : ((v : Int) * (k : Int)) = (g : Int) := by rw [← hg]; push_cast; rfl
      rw [hg] at hstep
      have wvk : IntKind.i64.wrap ((v : Int) * (k : Int)) = (g : Int) := by rw [hvk, IntWalk.i64_in _ (by omega)]
      have wax : IntKind.i64.wrap ((g : Int) + (y : Int)) = (g : Int) + (y : Int) := by rw [IntWalk.i64_in _ (by omega)]
      have e1 : ((g : Int) + (y : Int)) % (nt : Int) = (z : Int) := by rw [← hstep]; push_cast; rfl
      have t1 : ((g : Int) + (y : Int)).tmod (nt : Int) = (z : Int) := by rw [Int.tmod_eq_emod_of_nonneg (by omega), e1]
      by_cases hjR : j < R2
      · have e2 : j - R2 = 0 := by omega
        have e3 : j + 1 - R2 = 0 := by omega
        rw [e2] at ho
        have HS := Lib.hid (And.intro hz (And.intro hb (And.intro ho (And.intro e3 hoT))))
        clear hc hx hv hz hg hvk hstep hml hb ho hbw hBx e2 e3 hoT
        go_wp2_with fail
        go_roundw
        case rel => exact ⟨j + 1, by omega, by go_num, by rw [HS.out.1], by rw [HS.out.2.2.2.1]; exact HS.out.2.2.1, HS.out.2.2.2.2, HS.out.2.1⟩
        case measure => simp [intOf]; omega
      · obtain ⟨i, hi'⟩ : ∃ i, j - R2 = i := ⟨_, rfl⟩
        have hQN := H.out.2.2.2.2.2.2.2.2.2
        have hiu : i < N := by omega
        have wji : IntKind.i64.wrap ((j : Int) - (R2 : Int)) = (i : Int) := by rw [IntWalk.i64_in _ (by omega)]; omega
        have hIi := H.out.2.2.2.2.2.2.2.1 i (by omega)
        have hwm := win_mod (k := k) (w := T) (i := i) (n := R2 + 1) H.out.2.2.2.2.2.1 (by omega)
        rw [show i + (R2 + 1) = j + 1 by omega, ← H.out.2.2.2.1, hz] at hwm
        rw [← hwm] at hIi
        have hzt : z < t.length := by have := H.out.1; omega
        have hgt := ent_get hzt
        obtain ⟨b2, off2, rfl, hb2, hc2'⟩ := H.out.2.1.cell (by rintro rfl; simp at hzt)
        have hcz : wr.cell? ⟨b2, off2 + z, none⟩ = some (.int .i64 (ent t z)) := (hbw.cell (p := ⟨b2, off2 + z, none⟩) hb2).trans (hc2' _ _ hgt)
        obtain ⟨f, hf⟩ : ∃ f, ent t z = f := ⟨_, rfl⟩
        rw [hf] at hcz hIi
        rw [hi'] at ho
        have hput := put_next hIi hiu
        have hmid := mid_len (l := I) (j := i) (n := N) (by have := H.out.2.2.2.2.2.2.1; omega) (by omega)
        obtain ⟨xs, hxs⟩ : ∃ xs, I.take i ++ List.replicate (N - i) (0 : Int) = xs := ⟨_, rfl⟩
        rw [hxs] at ho hput hmid
        have hown : wr.ownsRow w0.heap.size 3 1 (.slice (some ⟨w0.heap.size, 0, none⟩) N N) N (cI xs) := by
          unfold IntO at ho
          rwa [hmid] at ho
        obtain ⟨y0, hy0⟩ := getI (l := xs) (k := i) (by omega)
        have hcy : wr.cell? ⟨w0.heap.size, i, none⟩ = some (.int .i64 y0) := (hown.cellAt i (by omega)).trans (cI_get hy0)
        have hfy : wr.frozen? ⟨w0.heap.size, i, none⟩ = false := hown.frozenAt i
        obtain ⟨s1, t1'⟩ := hown.stored i (.int .i64 f)
        rw [← cI_set, hput] at s1
        have hb1 : Below w0.heap.size w0 (wr.setCell ⟨w0.heap.size, i, none⟩ (.int .i64 f)) := hb.setCell (p := ⟨w0.heap.size, i, none⟩) (Nat.le_refl _) _
        have hoT1 : IntO w1.heap.size (wr.setCell ⟨w0.heap.size, i, none⟩ (.int .i64 f)) (some ⟨b, off, none⟩) cT T := hoT.setFar (by have := H1.out.2.2; omega) i _
        have hmid1 := mid_len (l := I) (j := i + 1) (n := N) (by have := H.out.2.2.2.2.2.2.1; omega) (by omega)
        have hij : j + 1 - R2 = i + 1 := by omega
        have HS := Lib.hid (And.intro hz (And.intro hb1 (And.intro s1 (And.intro hmid1 (And.intro hij hoT1)))))
        have hzn : z < nt := hv2
        clear hc hx hv hz hg hvk hstep hml hb ho hbw hBx hi' hIi hwm hzt hgt hf hput hmid hxs hown s1 t1' hb1 hmid1 hij hc2' hy0 hoT hoT1 hQN
        go_wp2_with fail
        go_region
        go_wp2_with fail
        go_roundw
        case rel => exact ⟨j + 1, by omega, by go_num, by rw [HS.out.1], by rw [HS.out.2.2.2.2.1]; unfold IntO; rw [HS.out.2.2.2.1]; exact HS.out.2.2.1, HS.out.2.2.2.2.2.next (Below.refl _ _).drew, HS.out.2.1.drew⟩
        case measure => simp [intOf]; omega
    · obtain rfl : j = Q := by omega
      have hju : j - R2 = N := by have := H.out.2.2.2.2.2.2.2.2.2; omega
      have hIu := H.out.2.2.2.2.2.2.1
      have he : I.take N ++ List.replicate (N - N) (0 : Int) = I := by rw [Nat.sub_self, List.replicate_zero, List.append_nil, ← hIu, List.take_length]
      rw [hju, he] at ho
      have HF := Lib.hid (And.intro (ho.base (Nat.le_of_lt hs0)) hbw)
      clear ho hb he hbw hBx hju hIu hoT
      go_wp2_with fail
      go_ret
      exact ⟨some ⟨w0.heap.size, 0, none⟩, N, by rw [H.out.2.2.2.2.2.2.1]; rfl, HF.out.1, HF.out.2⟩
end Go.Proofs.YtfgoflaeclfggaaDoor
end
