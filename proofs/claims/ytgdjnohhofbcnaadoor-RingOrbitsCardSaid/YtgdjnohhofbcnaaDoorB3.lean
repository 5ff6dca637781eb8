/- Lists of ints: make, slices.Grow of nil, slices.Concat.
Package word by its contracts, second part: Cmp, Back, Turn.
Package word by its contracts, fourth part: Next.
Bytes of texts as numbers, and back.
Package word by its contracts, fifth part: Next where it is refused, Parse.
Package rule by its contracts, third part: Local, Step.
Package rule by its contracts, fourth part: Step.
Package ring by its contracts, second part: step.
Package ring by its contracts, third part: checkSteps, Step.
Plain mathematics of rings: the way into a cycle.
Package word by its contracts, sixth part: Text.
Package ring by its contracts, seventh part: key.
Package ring by its contracts, eighth part: Orbit.
Contracts of library functions, laid at this program's numbers by the kit's lay-plain.mjs: what each says stands in its type.
Lists of ints: slices.Repeat.
Package word by its contracts, seventh part: Times.
Package word by its contracts, eighth part: Index, At.
Package word by its contracts, ninth part: At.
Package word by its contracts, tenth part: At where it is refused; nat.Pow whatever it is asked.
Package rule by its contracts, fifth part: Step where it is refused, Code, From.
Package rule by its contracts, sixth part: From.
Package rule by its contracts, seventh part: firstWrong.
Package rule by its contracts, eighth part: Parse.
edenraw.Lent, Kept and Copy, by contracts. -/
import Derived.Test.YtgdjnohhofbcnaaDoorB2
import Derived.Laws.AppendOwnNone
import Derived.Lib.AppendZerosOnto
import Derived.Lib.Walk
import Derived.Laws.Append
import Derived.Lib.SliceRun
import Derived.Deep.RegionWith
import Derived.Deep.DeepCutAuto
import Derived.Laws.BytesArg
import Derived.Test.YtgdjnohhofbcnaaDoorB1
import Derived.Maps.OwnSet
import Derived.Shelf.Bits.Mul64
import Derived.Ground.Names2Prog
import Derived.Shelf.Slices.Clone
import Derived.Shelf.Slices.SearchI
import Derived.Ground.SlgnProg
import Derived.Shelf.SlicesE.Clone
import Derived.Test.YtgdjnohhofbcnaaDoorProg
import Derived.Laws.CopyOwn
import Derived.Deep.RegionLaw
import Derived.Deep.RegionHeld3
import Derived.Deep.DrawnRows
section
namespace Go.Proofs.YtgdjnohhofbcnaaDoor
open Go.RowKit

theorem madeI_list (v : Value) (n : Nat) : (madeCells #[v] n).toList = List.replicate n v := by
  unfold madeCells
  rw [Array.toList_map, Array.toList_range]
  apply List.ext_getElem
  · simp
  · intro i h1 h2
    simp [Nat.mod_one]
theorem makeI (n : Nat) (hn : n ≤ 17592186044000) (w : World) :
    (Instr.makeSlice 22 (.int .i64 (n : Int)) (.int .i64 (n : Int))).run Tryd.prog w = .ok (.slice (some ⟨w.heap.size, 0, none⟩) n n) (w.alloc (.cells (madeCells #[.int .i64 0] n) 3)) := by
  obtain ⟨i0, hi, hz0, hz1, hz2⟩ := info_parts infoI
  have h := run_make (P := Tryd.prog) w 22 3 i0 (.int .i64 0) Tryd.underlying22 hi hz0 .i64 .i64 n n (by omega) (by omega) (by rw [hz2]; omega) (by omega)
  rw [hz1] at h
  simpa [Value.cells] using h
theorem IntO.made (w : World) (n : Nat) (hn : n ≤ 17592186044000) : IntO w.heap.size (w.alloc (.cells (madeCells #[.int .i64 0] n) 3)) (some ⟨w.heap.size, 0, none⟩) n (List.replicate n 0) := by
  refine ⟨by simp [cI], Or.inr ⟨w.heap.size, n, madeCells #[.int .i64 0] n, by rw [List.length_replicate], Nat.le_refl _, heap_newN _ _, by rw [List.length_replicate]; exact Nat.le_refl _, by unfold maxLen; omega, by rw [size_madeCells, Nat.mul_one], ?_⟩⟩
  rw [madeI_list, List.length_replicate, Nat.mul_one, List.take_of_length_le (by simp)]
  simp [cI]

/-- a slice of no element, with room -/
def RoomPost (w : World) (e : Ending) (w' : World) : Prop := ∃ p c, e = .returned (.slice p 0 c) ∧ IntO w.heap.size w' p c [] ∧ Below w.heap.size w w'
set_option maxRecDepth 100000 in
set_option maxHeartbeats 2000000 in
theorem growI_nil (n : Nat) (w : World) (hn : n ≤ 17592186044000) :
    Calls Tryd.prog 66 #[.slice none 0 0, .int .i64 (n : Int)] w (RoomPost w) := by
  obtain ⟨i0, hi, hz0, hz1, hz2⟩ := info_parts infoI
  rcases Nat.eq_zero_or_pos n with rfl | h0
  · show Calls Tryd.prog 66 #[.slice none 0 0, .int .i64 0] w (RoomPost w)
    go_enter Tryd.func66, Tryd.ntmps66
    go_wp2_with fail
    go_ret
    exact ⟨none, 0, rfl, IntO.nothing _ _, Below.refl _ _⟩
  · have hold : (Builtin.firstCells i0.size 0 (.slice none 0 0)).run Tryd.prog w.drew = .ok #[] w.drew := run_firstCells_none (w := w.drew) i0.size 0 0 0
    have hrz : ∀ ty, (Builtin.append_ #[22, 3] ty #[.slice none 0 0, .int .i64 (n : Int)]).run Tryd.prog w = _ := fun ty =>
      Lib.run_append_grow_zeros w 22 3 ty 3 i0 (.int .i64 0) .i64 .i64 Tryd.underlying22 Tryd.underlying3 hi hz0 none 0 0 [] hold n h0 (by rw [hz1]; omega) (by omega) (by omega) (by rw [hz2]; omega)
        (growslice_fits (by omega) (by rw [hz2]; omega))
    have hGn : n ≤ grownCap w (0 + n) 0 3 := by have := grownCap_ge w (0 + n) 0 3; omega
    have hG := grownCap_le_maxLen w (0 + n) 0 3 (by unfold maxLen; omega)
    obtain ⟨G, hGe⟩ : ∃ G, G = grownCap w (0 + n) 0 3 := ⟨_, rfl⟩
    rw [← hGe] at hrz hGn hG
    rw [Nat.zero_add] at hrz
    have hG63 := hG
    unfold maxLen at hG63
    have HG := Lib.hid hG
    have hpos : ¬ ((n : Int) < 0) := by omega
    have hpos2 : (0 : Int) < (n : Int) := by omega
    clear hold hGe hG
    go_enter Tryd.func66, Tryd.ntmps66
    go_wp2_with (at_builtin; refine Lib.wpList_append_run _ rfl _ _ _ _ rfl _ _ rfl rfl _ _ (hrz _) ?_)
    go_ret
    refine ⟨_, _, rfl, ⟨by simp [cI], Or.inr ⟨w.heap.size, G, _, rfl, Nat.le_refl _, heap_newN _ _, Nat.zero_le _, HG.out, ?_, by simp [cI]⟩⟩, (Below.refl _ _).drew.alloc (by simp) _⟩
    simp [Builtin.zeroCells]
    omega

/-! ### several lists -/
abbrev Sl := Option Addr × Nat × List Int
def Sl.val (x : Sl) : Value := .slice x.1 x.2.2.length x.2.1
/-- A slice of slices of ints below B: it reads L, and each of them reads. -/
structure SlsV (B : Nat) (w : World) (p : Option Addr) (c : Nat) (L : List Sl) : Prop where
  le : L.length ≤ c
  cap : c ≤ maxLen
  each : ∀ x : Sl, x ∈ L → IntV B w x.1 x.2.1 x.2.2
  cell : L ≠ [] → ∃ b off, p = some ⟨b, off, none⟩ ∧ b < B ∧ ∀ (j : Nat) (x : Sl), L[j]? = some x → w.cell? ⟨b, off + j, none⟩ = some x.val
theorem SlsV.below {B : Nat} {w w' : World} {p : Option Addr} {c : Nat} {L : List Sl} (hb : Below B w w') (h : SlsV B w p c L) : SlsV B w' p c L :=
  ⟨h.le, h.cap, fun x hx => (h.each x hx).below hb, fun hn => by
    obtain ⟨b, off, hp, hlt, hc⟩ := h.cell hn
    exact ⟨b, off, hp, hlt, fun j x hx => (hb.cell (p := ⟨b, off + j, none⟩) hlt).trans (hc j x hx)⟩⟩
theorem SlsV.mono {B B' : Nat} {w : World} {p : Option Addr} {c : Nat} {L : List Sl} (hB : B ≤ B') (h : SlsV B w p c L) : SlsV B' w p c L :=
  ⟨h.le, h.cap, fun x hx => (h.each x hx).mono hB, fun hn => by
    obtain ⟨b, off, hp, hlt, hc⟩ := h.cell hn
    exact ⟨b, off, hp, by omega, hc⟩⟩
theorem SlsV.next {w w' : World} {p : Option Addr} {c : Nat} {L : List Sl} (hb : Below w.heap.size w w') (h : SlsV w.heap.size w p c L) : SlsV w'.heap.size w' p c L := (h.below hb).mono hb.size
/-- a literal of slices, just laid -/
theorem SlsV.laid {w : World} (L : List Sl) (cs : Array Value) (t : TypeId) (hc : cs.toList = L.map Sl.val) (hl : L.length ≤ 1000) (h : ∀ x : Sl, x ∈ L → IntV w.heap.size w x.1 x.2.1 x.2.2) :
    SlsV (w.alloc (.cells cs t)).heap.size (w.alloc (.cells cs t)) (some ⟨w.heap.size, 0, none⟩) L.length L := by
  have hb : Below w.heap.size w (w.alloc (.cells cs t)) := (Below.refl _ _).alloc (Nat.le_refl _) _
  refine ⟨Nat.le_refl _, by unfold maxLen; omega, fun x hx => (h x hx).next hb, fun _ => ⟨w.heap.size, 0, rfl, by simp, fun j x hx => ?_⟩⟩
  rw [Nat.zero_add, cell_alloc_row, ← Array.getElem?_toList, hc, List.getElem?_map, hx]; rfl
def flat (L : List Sl) : List Int := (L.map (·.2.2)).flatten
def sumL (L : List Sl) : Nat := (L.map (·.2.2.length)).sum
theorem flat_length (L : List Sl) : (flat L).length = sumL L := by unfold flat sumL; rw [List.length_flatten, List.map_map]; rfl
theorem flat_snoc {L : List Sl} {j : Nat} {x : Sl} (h : L[j]? = some x) : flat (L.take (j + 1)) = flat (L.take j) ++ x.2.2 := by
  unfold flat
  rw [List.take_add_one, h]; simp
theorem sum_snoc {L : List Sl} {j : Nat} {x : Sl} (h : L[j]? = some x) : sumL (L.take (j + 1)) = sumL (L.take j) + x.2.2.length := by
  unfold sumL
  rw [List.take_add_one, h]; simp
theorem sum_take_le (L : List Sl) (j : Nat) : sumL (L.take j) ≤ sumL L := by
  conv => rhs; rw [← List.take_append_drop j L]
  unfold sumL
  rw [List.map_append, List.sum_append]
  exact Nat.le_add_right _ _
def ConcatRel (w : World) (L : List Sl) (v6 v27 : Value) (wr : World) : Prop :=
  ∃ (j : Nat) (p : Option Addr) (c : Nat), j ≤ L.length ∧ v27 = .int .i64 (j : Int) ∧ v6 = .slice p (flat (L.take j)).length c ∧ IntO w.heap.size wr p c (flat (L.take j)) ∧ Below w.heap.size w wr

set_option maxRecDepth 100000 in
set_option maxHeartbeats 4000000 in
theorem concatI (q : Option Addr) (n c : Nat) (L : List Sl) (w : World) (hn : n = L.length) (h : SlsV w.heap.size w q c L) (hs : sumL L ≤ 17592186044000) :
    Calls Tryd.prog 45 #[.slice q n c] w (IntPost w (flat L)) := by
  obtain ⟨i0, hi, hz0, hz1, hz2⟩ := info_parts infoI
  have hle := h.le
  have hcap := h.cap
  unfold maxLen at hcap
  have hnc : n ≤ c := by omega
  have H := Lib.hid (And.intro h (And.intro hn hs))
  clear h hn hs hle
  go_enter Tryd.func45, Tryd.ntmps45
  go_wp2_with fail
  go_loop [3, 11] (fun v3 v11 => ∃ (j s : Nat), j ≤ n ∧ v11 = .int .i64 (j : Int) ∧ v3 = .int .i64 (s : Int) ∧ Hid (s = sumL (L.take j))) (fun _ v => n - (intOf v).toNat)
  case atStart => exact ⟨0, 0, Nat.zero_le _, rfl, rfl, rfl⟩
  case round =>
    obtain ⟨j, s, hj, rfl, rfl, hsj⟩ := hrel
    have hsl : s ≤ 17592186044000 := by have := hsj.out; have := sum_take_le L j; have := H.out.2.2; omega
    by_cases hlt : j < n
    · have hnl := H.out.2.1
      obtain ⟨x, hx⟩ : ∃ x, L[j]? = some x := ⟨_, List.getElem?_eq_getElem (by omega)⟩
      obtain ⟨b, off, rfl, hb, hc⟩ := H.out.1.cell (by rintro rfl; simp at hx)
      have hcx := hc j x hx
      have hst := sum_snoc hx
      have hlx : s + x.2.2.length ≤ 17592186044000 := by
        have := hsj.out; have := sum_take_le L (j + 1); have := H.out.2.2; omega
      obtain ⟨xa, xc, xl⟩ := x
      replace hcx : w.cell? ⟨b, off + j, none⟩ = some (.slice xa xl.length xc) := hcx
      replace hlx : s + xl.length ≤ 17592186044000 := hlx
      have HS := Lib.hid hst
      have hneg : ¬ ((s : Int) + (xl.length : Int) < 0) := by omega
      clear hc hx hst hnl
      go_wp2_with fail
      go_round
      case rel => exact ⟨j + 1, s + xl.length, by omega, by go_num, by go_num, by show _ = _; rw [HS.out, hsj.out]⟩
      case measure => simp [intOf]; omega
    · obtain rfl : j = n := by omega
      have hse : s = sumL L := by rw [hsj.out, H.out.2.1, List.take_length]
      have HSE := Lib.hid hse
      clear hse
      go_wp2_with fail
      refine (growI_nil s w hsl).mono ?_
      rintro e w1 ⟨p1, c1, rfl, ho1, hb1⟩
      have HB1 := Lib.hid (And.intro ho1 hb1)
      clear ho1 hb1 hsj
      go_wp2_with fail
      go_loopw [6, 27] (fun v6 v27 wr => ConcatRel w L v6 v27 wr) (fun _ v _ => j - (intOf v).toNat)
      case atStart => exact ⟨0, p1, c1, Nat.zero_le _, rfl, rfl, HB1.out.1, HB1.out.2⟩
      case round =>
        obtain ⟨i, p, cp, hi', rfl, rfl, ho, hb⟩ := hrel
        have hwB : w.heap.size ≤ wr.heap.size := hb.size
        by_cases hlt2 : i < j
        · have hnl := H.out.2.1
          obtain ⟨x, hx⟩ : ∃ x, L[i]? = some x := ⟨_, List.getElem?_eq_getElem (by omega)⟩
          have hxm := (H.out.1.below hb).each x (List.mem_of_getElem? hx)
          obtain ⟨b, off, rfl, hbq, hc⟩ := (H.out.1.below hb).cell (by rintro rfl; simp at hx)
          have hcx := hc i x hx
          have hfs := flat_snoc hx
          have htot : (flat (L.take i)).length + x.2.2.length ≤ 17592186044000 := by
            have h1 := flat_length (L.take (i + 1))
            have h2 := sum_take_le L (i + 1)
            rw [hfs, List.length_append] at h1
            have := H.out.2.2; omega
          obtain ⟨xa, xc, xl⟩ := x
          replace hcx : wr.cell? ⟨b, off + i, none⟩ = some (.slice xa xl.length xc) := hcx
          replace hxm : IntV w.heap.size wr xa xc xl := hxm
          replace hfs : flat (L.take (i + 1)) = flat (L.take i) ++ xl := hfs
          replace htot : (flat (L.take i)).length + xl.length ≤ 17592186044000 := htot
          obtain ⟨r, hr⟩ : ∃ r, flat (L.take i) = r := ⟨_, rfl⟩
          rw [hr] at ho hfs htot ⊢
          obtain ⟨rn, hrn⟩ : ∃ rn, r.length = rn := ⟨_, rfl⟩
          have hown : wr.ownsRow w.heap.size 3 1 (.slice p rn cp) rn (cI r) := by rw [← hrn]; exact ho
          rw [hrn] at htot ⊢
          have HS := Lib.hid (And.intro hfs (And.intro hb (And.intro hrn hxm)))
          have HX := Lib.hid (hxm.cell)
          have hxle := hxm.le
          have hxnil := hxm.nil
          clear hc hx hfs hr ho hrn hb hnl
          rcases xa with _ | a
          · have hxc := hxnil rfl
            subst hxc
            have hl0 : xl = [] := List.eq_nil_of_length_eq_zero (by omega)
            subst hl0
            clear hxnil hxm
            replace hcx : wr.cell? ⟨b, off + i, none⟩ = some (.slice none 0 0) := hcx
            go_wp2_with (at_builtin; refine wpList_append_own_none rfl _ _ 22 rfl w.heap.size 3 i0 1 Tryd.underlying22 hi _ rn (cI r) rfl hown rfl ?_)
            have HO := Lib.hid hown
            clear hown
            go_wp2_with fail
            go_roundw
            case rel =>
              have e := HS.out.1
              rw [List.append_nil] at e
              exact ⟨i + 1, p, cp, by have := H.out.2.1; omega, by go_num, by rw [e, HS.out.2.2.1], by rw [e]; unfold IntO; rw [HS.out.2.2.1]; exact HO.out, HS.out.2.1⟩
            case measure => simp [intOf]; omega
          · have hnews : ∀ j u, (cI xl)[j]? = some u → wr.cell? (a.add j) = some u := fun j u hj => by
              unfold cI at hj
              rw [List.getElem?_map] at hj
              obtain ⟨x, hx, rfl⟩ := Option.map_eq_some_iff.1 hj
              obtain ⟨b', off', ha, _, hcc⟩ := HX.out (by rintro rfl; simp at hx)
              obtain rfl : a = ⟨b', off', none⟩ := by simpa using ha
              rw [add_off]
              exact hcc j x hx
            have HN := Lib.hid hnews
            clear hxnil hnews hxm
            go_wp2_with (at_builtin; refine wpList_append_own _ rfl _ _ 22 rfl w.heap.size 3 i0 (.int .i64 0) 1 8 Tryd.underlying22 hi hz0 hz1 hz2 rfl (by decide) _ rn (cI r) rfl hown a xl.length xc (cI xl) rfl ?c0 ?c1 ?c2 ?c3 ?c4 ?c5 ?_)
            case c0 => simp [cI]
            case c1 => exact HN.out
            case c2 =>
              intro u hu
              unfold cI at hu
              obtain ⟨x, _, rfl⟩ := List.mem_map.1 hu
              rfl
            case c3 => unfold maxLen; omega
            case c4 => omega
            case c5 => exact hwB
            intro v' w1 hown' hgrow _
            rw [← cI_app] at hown'
            have hlen : rn + xl.length = (r ++ xl).length := by rw [List.length_append, HS.out.2.2.1]
            rw [hlen] at hown'
            obtain ⟨p2, c2, rfl, ho2⟩ := IntO.slice_own hown'
            have hb2 : Below w.heap.size w w1 := HS.out.2.1.grown hgrow hwB (fun j hj => (hown.lt j hj).1)
            have HO := Lib.hid (And.intro ho2 hb2)
            clear hown hown' hgrow ho2 hb2 hlen
            go_wp2_with fail
            go_roundw
            case rel => exact ⟨i + 1, p2, c2, by have := H.out.2.1; omega, by go_num, by rw [HS.out.1], by rw [HS.out.1]; exact HO.out.1, HO.out.2⟩
            case measure => simp [intOf]; omega
        · obtain rfl : i = j := by have := H.out.2.1; omega
          have he : flat (L.take i) = flat L := by rw [H.out.2.1, List.take_length]
          have HE := Lib.hid (And.intro he (And.intro ho hb))
          clear he ho hb
          go_wp2_with fail
          go_ret
          exact ⟨p, cp, by rw [HE.out.1]; rfl, by rw [← HE.out.1]; exact HE.out.2.1, HE.out.2.2⟩
end Go.Proofs.YtgdjnohhofbcnaaDoor
end
section
namespace Go.Proofs.YtgdjnohhofbcnaaDoor
open Go.RowKit WordM


theorem IntPost.under {w W : World} {l : List Int} {e : Ending} {w' : World} (hb : Below w.heap.size w W) (h : IntPost W l e w') : IntPost w l e w' := by
  obtain ⟨p, c, he, ho, hb'⟩ := h
  exact ⟨p, c, he, ho.base hb.size, hb.trans (hb'.mono hb.size)⟩

/-- how far a turn goes -/
def turnN (l : List Int) (z : Int) : Nat := (z % (l.length : Int)).toNat
def turnW (l : List Int) (z : Int) : List Int := rot l (turnN l z)
theorem turnW_length (l : List Int) (z : Int) : (turnW l z).length = l.length := rot_length _ _
set_option maxRecDepth 100000 in
set_option maxHeartbeats 4000000 in
theorem turn_any (p : Option Addr) (n c : Nat) (l : List Int) (z : Int) (w : World) (hn : n = l.length) (h : IntV w.heap.size w p c l) (hl : l.length ≤ 17592186044000) :
    Calls Tryd.prog 24 #[.slice p n c, .int .i64 z] w (IntPost w (turnW l z)) := by
  have hle := h.le
  have hcap := h.cap
  unfold maxLen at hcap
  rcases Nat.eq_zero_or_pos n with h0 | h0
  · have hl0 : l = [] := List.eq_nil_of_length_eq_zero (by omega)
    subst hl0 h0
    clear h hle
    clear hn hl
    go_enter Tryd.func24, Tryd.ntmps24
    go_wp2_with fail
    go_ret
    exact ⟨none, 0, rfl, IntO.nothing _ _, Below.refl _ _⟩
  · obtain ⟨b, off, rfl, hb, hc⟩ := h.cell (by rintro rfl; simp at hn; omega)
    obtain ⟨t, ht⟩ : ∃ t, turnN l z = t := ⟨_, rfl⟩
    have htn : t < n := by
      rw [← ht, hn]
      unfold turnN
      have h1 := Int.emod_lt_of_pos z (show (0 : Int) < (l.length : Int) by omega)
      have h2 := Int.emod_nonneg z (show (l.length : Int) ≠ 0 by omega)
      omega
    have htz : z % (n : Int) = (t : Int) := by
      rw [← ht, hn]
      unfold turnN
      have h2 := Int.emod_nonneg z (show (l.length : Int) ≠ 0 by omega)
      omega
    have hrot : rot l t = l.drop t ++ l.take t := (rot_drop (by omega)).symm
    have hnz : ((n : Int) == 0) = false := by rw [beq_eq_false_iff_ne]; omega
    have hnc : n ≤ c := by omega
    have hnl : n ≤ 17592186044000 := by omega
    obtain ⟨r, hr⟩ : ∃ r, z.tmod (n : Int) = r := ⟨_, rfl⟩
    have hrt : (r < 0 ∧ r + (n : Int) = (t : Int)) ∨ (¬ r < 0 ∧ r = (t : Int)) := by
      have e := @Int.tmod_eq_emod z (n : Int)
      have hlo : -(n : Int) < r := by rw [← hr]; exact Int.lt_tmod_of_pos z (by omega)
      rw [hr, htz] at e
      split at e <;> omega
    have hsum : ∀ W : World, Below w.heap.size w W → w.heap.size < W.heap.size → (∀ j, W.cell? ⟨w.heap.size, j, none⟩ = (#[.slice (some ⟨b, off + t, none⟩) (n - t) (c - t), .slice (some ⟨b, off, none⟩) t c] : Array Value)[j]?) → Calls Tryd.prog 45 #[.slice (some ⟨w.heap.size, 0, none⟩) 2 2] W (IntPost w (turnW l z)) := fun W hbW hs hcs => by
      have e : turnW l z = flat [(some ⟨b, off + t, none⟩, c - t, l.drop t), (some ⟨b, off, none⟩, c, l.take t)] := by
        unfold turnW flat
        rw [ht, hrot]
        simp
      rw [e]
      have hd1 : (l.drop t).length = n - t := by rw [List.length_drop, hn]
      have hd2 : (l.take t).length = t := by rw [List.length_take]; omega
      refine (concatI _ 2 2 [(some ⟨b, off + t, none⟩, c - t, l.drop t), (some ⟨b, off, none⟩, c, l.take t)] _ rfl ⟨Nat.le_refl _, by unfold maxLen; omega, ?_, fun _ => ⟨_, 0, rfl, hs, ?_⟩⟩ ?_).mono fun e w' h => IntPost.under hbW h
      · have hv := h.next hbW
        intro x hx
        rcases List.mem_cons.1 hx with rfl | hx
        · exact hv.drop t (by omega)
        · obtain rfl := List.mem_singleton.1 hx
          exact hv.take t
      · intro j x hx
        rw [Nat.zero_add, hcs]
        match j, hx with
        | 0, hx => obtain rfl := Option.some.inj hx; simp [Sl.val, hd1]
        | 1, hx => obtain rfl := Option.some.inj hx; simp [Sl.val, hd2]
      · unfold sumL
        simp
        omega
    have HS := Lib.hid hsum
    have ht0 : (0 : Int) ≤ (t : Int) := by omega
    have htn2 : (t : Int) ≤ (n : Int) := by omega
    have hnc2 : (n : Int) ≤ (c : Int) := by omega
    have htc : ¬ (c : Int) = (t : Int) := by omega
    have htc2 : ¬ c = t := by omega
    clear hsum ht htz hrot hn hc h hle hb
    rcases hrt with ⟨hr0, hrt⟩ | ⟨hr0, rfl⟩
    all_goals
      go_enter Tryd.func24, Tryd.ntmps24
      go_wp2_with fail
      go_region_with (first
        | (go_at_call 45; refine (HS.out _ (by (repeat' (first | exact Below.refl _ _ | refine Below.drew ?_ | refine below_drewN ?_ _ | refine Below.alloc ?_ ?_ _ | (simp; done) | (simp; omega)))) (by simp) (by intro j; simp)).mono ?_; rintro e w1 ⟨p1, c1, rfl, ho1, hb1⟩))
      all_goals
        have HO := Lib.hid (And.intro ho1 hb1)
        clear ho1 hb1
        go_wp2_with fail
        go_ret
        exact ⟨p1, c1, rfl, HO.out.1, HO.out.2⟩
end Go.Proofs.YtgdjnohhofbcnaaDoor
end
section
namespace Go.Proofs.YtgdjnohhofbcnaaDoor
open Go.RowKit Go.Extern.Stop Go.Stop Go.Extern WordM

/-- the word behind it, and no error -/
def NextOk (w : World) (k : Nat) (l : List Int) (e : Ending) (w' : World) : Prop := ∃ x, IsNext k l x ∧ IntOk w x e w'

theorem set_mid {l : List Int} {i : Nat} {y v : Int} (h : l[i]? = some y) (n : Nat) (z : Int) : (l.take (i + 1) ++ List.replicate n z).set i v = l.take i ++ v :: List.replicate n z := by
  have hi := ltI h
  have e : l.take (i + 1) = l.take i ++ [y] := by rw [List.take_add_one, h]; rfl
  rw [e, List.append_assoc, List.set_append_right _ _ (by rw [List.length_take]; omega), List.length_take, Nat.min_eq_left (by omega), Nat.sub_self]
  rfl
theorem take_rep {l : List Int} {i n : Nat} {y z : Int} (h : l[i]? = some y) (e : l = l.take (i + 1) ++ List.replicate n z) : l = l.take i ++ y :: List.replicate n z := by
  have e2 : l.take (i + 1) = l.take i ++ [y] := by rw [List.take_add_one, h]; rfl
  rw [e2, List.append_assoc] at e
  exact e
def NextRel (w : World) (k : Nat) (l : List Int) (p : Option Addr) (c : Nat) (v : Value) (wr : World) : Prop :=
  ∃ j : Nat, j ≤ l.length ∧ v = .int .i64 ((j : Int) - 1) ∧ l = l.take j ++ List.replicate (l.length - j) ((k : Int) - 1) ∧ IntO w.heap.size wr p c (l.take j ++ List.replicate (l.length - j) 0) ∧ Below w.heap.size w wr
end Go.Proofs.YtgdjnohhofbcnaaDoor
end
section
namespace Go.Proofs.YtgdjnohhofbcnaaDoor
open Go.RowKit NatM

theorem bsOf_strOfNums {l : List Nat} (h : ∀ x ∈ l, x < 256) : bsOf (strOfNums (l.map fun (d : Nat) => (d : Int))) = l := by
  unfold bsOf
  rw [strOfNums_data, List.map_map, List.map_map]
  conv => rhs; rw [← List.map_id l]
  apply List.map_congr_left
  intro x hx
  have := h x hx
  simp [UInt8.toNat_ofNat']
  omega
theorem strOfNums_bsOf (s : ByteArray) : strOfNums ((bsOf s).map fun (d : Nat) => (d : Int)) = s := by
  have h : (strOfNums ((bsOf s).map fun (d : Nat) => (d : Int))).data.toList = s.data.toList := by
    rw [strOfNums_data]
    unfold bsOf
    rw [List.map_map, List.map_map]
    conv => rhs; rw [← List.map_id s.data.toList]
    apply List.map_congr_left
    intro x _
    simp
  cases s with
  | mk d =>
    have := congrArg List.toArray h
    simp at this
    exact congrArg ByteArray.mk this
end Go.Proofs.YtgdjnohhofbcnaaDoor
end
section
namespace Go.Proofs.YtgdjnohhofbcnaaDoor
open Go.RowKit Go.Extern.Stop Go.Stop Go.Extern WordM NatM


/-- a text's digits as symbols -/
def sW (s : ByteArray) : List Int := (bsOf s).map fun (b : Nat) => (b : Int) - 48
theorem sW_length (s : ByteArray) : (sW s).length = s.size := by unfold sW; rw [List.length_map, bsOf_length]
theorem sW_get {s : ByteArray} {k : Nat} (h : k < s.size) : (sW s)[k]? = some ((s[k].toNat : Int) - 48) := by
  unfold sW
  rw [List.getElem?_map, bsOf_get h]; rfl
/-- of a text that is refused the number is 6 in place of 2 -/
def code6 (m : Nat) : Nat := if m = 2 then 6 else m

def ParseWRel (w : World) (n : Nat) (l : List Int) (p : Option Addr) (c : Nat) (J : Nat) (v : Value) (wr : World) : Prop :=
  ∃ j : Nat, j ≤ J ∧ v = .int .i64 (j : Int) ∧ IntO w.heap.size wr p c (l.take j ++ List.replicate (n - j) 0) ∧ Below w.heap.size w wr
theorem put_next {l : List Int} {j n : Nat} {x : Int} (h : l[j]? = some x) (hj : j < n) : (l.take j ++ List.replicate (n - j) 0).set j x = l.take (j + 1) ++ List.replicate (n - (j + 1)) 0 := by
  have hl := ltI h
  rw [List.set_append_right _ _ (by rw [List.length_take]; omega), List.length_take, Nat.min_eq_left (by omega), Nat.sub_self, List.take_add_one, h]
  obtain ⟨m, hm⟩ : ∃ m, n - j = m + 1 := ⟨n - j - 1, by omega⟩
  rw [hm, show n - (j + 1) = m by omega, List.replicate_succ]
  simp
theorem mid_len {l : List Int} {j n : Nat} (hl : j ≤ l.length) (hj : j ≤ n) : (l.take j ++ List.replicate (n - j) (0 : Int)).length = n := by simp; omega


end Go.Proofs.YtgdjnohhofbcnaaDoor
end
section
namespace Go.Proofs.YtgdjnohhofbcnaaDoor
open Go.RowKit Go.Extern.Stop Go.Stop Go.Extern WordM RuleM

/-- where Local refuses: the place and the number -/
def chkL (k r : Int) (t w : List Int) : Option (Nat × Nat) := match chkR k r t with
  | some i => some (i, 1)
  | none => if (w.length : Int) ≠ 2 * r + 1 then some (0, 3) else (w.findIdx? (badAt k)).map fun i => (i, 2)
/-- where Step refuses: the place and the number -/
def chkT (k r : Int) (t w : List Int) : Option (Nat × Nat) := match chkR k r t with
  | some i => some (i, 1)
  | none => if 4096 < w.length then some (0, 4) else (w.findIdx? (badAt k)).map fun i => (i, 2)
theorem chkL_none {k r : Int} {t w : List Int} (h : chkL k r t w = none) : ∃ K R : Nat, k = K ∧ r = R ∧ OkR K R t ∧ w.length = 2 * R + 1 ∧ okW K w := by
  unfold chkL at h
  split at h
  · cases h
  · rename_i hn
    obtain ⟨K, R, rfl, rfl, h3⟩ := chkR_none hn
    split at h
    · cases h
    · rw [Option.map_eq_none_iff, bad_none] at h
      exact ⟨K, R, rfl, rfl, h3, by omega, h⟩
theorem chkT_none {k r : Int} {t w : List Int} (h : chkT k r t w = none) : ∃ K R : Nat, k = K ∧ r = R ∧ OkR K R t ∧ w.length ≤ 4096 ∧ okW K w := by
  unfold chkT at h
  split at h
  · cases h
  · rename_i hn
    obtain ⟨K, R, rfl, rfl, h3⟩ := chkR_none hn
    split at h
    · cases h
    · rw [Option.map_eq_none_iff, bad_none] at h
      exact ⟨K, R, rfl, rfl, h3, by omega, h⟩
theorem chkT_ok {K R : Nat} {t w : List Int} (h : OkR K R t) (hl : w.length ≤ 4096) (hw : okW K w) : chkT K R t w = none := by
  unfold chkT
  rw [chkR_ok h]
  simp only []
  rw [if_neg (by omega), Option.map_eq_none_iff, bad_none]
  exact hw
theorem chkL_ok {K R : Nat} {t w : List Int} (h : OkR K R t) (hl : w.length = 2 * R + 1) (hw : okW K w) : chkL K R t w = none := by
  unfold chkL
  rw [chkR_ok h]
  simp only []
  rw [if_neg (by omega), Option.map_eq_none_iff, bad_none]
  exact hw

theorem valW_take1 {k : Nat} {l : List Int} {j : Nat} {x : Int} (h : l[j]? = some x) : valW k (l.take (j + 1)) = valW k (l.take j) * k + x.toNat := by
  rw [List.take_add_one, h]; exact valW_snoc k _ x
theorem val_small {k : Nat} {l : List Int} {j : Nat} (h4 : k ≤ 4) (ho : okW k l) (hj : j ≤ 7) : valW k (l.take j) < 16384 := by
  have h1 := valW_lt (okW_take ho j)
  have h2 : k ^ (l.take j).length ≤ 4 ^ (l.take j).length := Nat.pow_le_pow_left h4 _
  have h3 : 4 ^ (l.take j).length ≤ 4 ^ 7 := Nat.pow_le_pow_right (by omega) (by rw [List.length_take]; omega)
  have h5 : (4 : Nat) ^ 7 = 16384 := by decide
  omega

/-- a number, and no error -/
def IntOk1 (w : World) (x : Int) (e : Ending) (w' : World) : Prop := e = .returned (.tuple #[.int .i64 x, .nilIface]) ∧ Below w.heap.size w w'


end Go.Proofs.YtgdjnohhofbcnaaDoor
end
section
namespace Go.Proofs.YtgdjnohhofbcnaaDoor
open Go.RowKit Go.Extern.Stop Go.Stop Go.Extern WordM RuleM

set_option maxRecDepth 100000 in
set_option maxHeartbeats 2000000 in
theorem step_short (k r : Nat) (p q : Option Addr) (n c m d : Nat) (t l : List Int) (w : World) (hn : n = t.length) (hm : m = l.length) (h : IntV w.heap.size w p c t) (hl : IntV w.heap.size w q d l) (ho : OkR k r t) (hlen : m ≤ 2 * r) (hw : okW k l) :
    Calls Tryd.prog 26 #[.agg #[.int .i64 (k : Int), .int .i64 (r : Int), .slice p n c], .slice q m d] w (IntOk w (imgW k r t l)) := by
  have h4 := ho.k4
  have h3 := ho.r3
  have hle := hl.le
  have hcap := hl.cap
  unfold maxLen at hcap
  have hmd : m ≤ d := by omega
  have hst := strayN_ok hw
  rw [← hm] at hst
  have hnil := imgW_nil (k := k) (t := t) (w := l) (r := r) (by omega)
  have H := Lib.hid (And.intro h (And.intro hn (And.intro ho (And.intro hst (And.intro hl (And.intro hm hnil))))))
  clear h hn ho hst hl hm hw hle hnil
  obtain ⟨R2, hR2⟩ : ∃ R2 : Nat, 2 * r = R2 := ⟨_, rfl⟩
  have w2r : IntKind.i64.wrap (2 * (r : Int)) = (R2 : Int) := by rw [IntWalk.i64_in _ (by omega)]; omega
  have hmR : m ≤ R2 := by omega
  have hm4 : ¬ 4096 < m := by omega
  clear hR2 hlen
  go_enter Tryd.func26, Tryd.ntmps26
  go_wp2_with fail
  obtain ⟨w0, hw0⟩ : ∃ w0, w0 = w.alloc (.cells #[.int .i64 (k : Int), .int .i64 (r : Int), .slice p n c] 24) := ⟨_, rfl⟩
  have hb0 : Below w.heap.size w w0 := by rw [hw0]; exact (Below.refl _ _).alloc (Nat.le_refl _) _
  have hE0 : Rul3 w0 w.heap.size (.int .i64 (k : Int)) (.int .i64 (r : Int)) (.slice p n c) := by rw [hw0]; exact Rul3.new w _ _ _
  rw [← hw0]
  obtain ⟨⟨hf0, hf1, hf2⟩, hc0, hc1, hc2⟩ := hE0.facts
  have HE := Lib.hid (And.intro hE0 hb0)
  clear hw0 hE0 hb0
  go_wp2_with fail
  refine (rcheck_ok k r p n c t w0 H.out.2.1 (H.out.1.next HE.out.2) H.out.2.2.1).mono ?_
  rintro e w1 ⟨rfl, hb1⟩
  have H1 := Lib.hid (And.intro (HE.out.1.next hb1) (HE.out.2.trans (hb1.mono HE.out.2.size)))
  clear hb1 hf0 hf1 hf2 hc0 hc1 hc2
  obtain ⟨⟨hf0, hf1, hf2⟩, hc0, hc1, hc2⟩ := H1.out.1.facts
  go_wp2_with fail
  refine (stray_any (k : Int) q m d l w1 H.out.2.2.2.2.2.1 (H.out.2.2.2.2.1.next H1.out.2)).mono ?_
  rintro e w2 ⟨rfl, rfl⟩
  rw [H.out.2.2.2.1]
  go_wp2_with fail
  go_ret2
  exact ⟨none, 0, by rw [H.out.2.2.2.2.2.2]; rfl, by rw [H.out.2.2.2.2.2.2]; exact IntO.nothing _ _, H1.out.2⟩

def StepRel (w1 : World) (k S m R2 u : Nat) (l I : List Int) (v9 v46 : Value) (wr : World) : Prop :=
  ∃ j : Nat, j ≤ m ∧ v46 = .int .i64 (j : Int) ∧ v9 = .int .i64 ((valW k (l.take j) % S : Nat) : Int) ∧ IntO w1.heap.size wr (some ⟨w1.heap.size, 0, none⟩) u (I.take (j - R2) ++ List.replicate (u - (j - R2)) 0) ∧ Below w1.heap.size w1 wr
set_option maxRecDepth 100000 in
set_option maxHeartbeats 4000000 in
theorem step_long (k r : Nat) (p q : Option Addr) (n c m d : Nat) (t l : List Int) (w : World) (hn : n = t.length) (hm : m = l.length) (h : IntV w.heap.size w p c t) (hl : IntV w.heap.size w q d l) (ho : OkR k r t) (hlen : 2 * r < m) (hm4 : m ≤ 4096) (hw : okW k l) :
    Calls Tryd.prog 26 #[.agg #[.int .i64 (k : Int), .int .i64 (r : Int), .slice p n c], .slice q m d] w (IntOk w (imgW k r t l)) := by
  have h1 := ho.k1
  have h4 := ho.k4
  have h3 := ho.r3
  have hle := hl.le
  have hcap := hl.cap
  have hcap2 := h.cap
  have hle2 := h.le
  unfold maxLen at hcap hcap2
  have hmd : m ≤ d := by omega
  have hnc : n ≤ c := by omega
  have hst := strayN_ok hw
  rw [← hm] at hst
  have hn16 : n ≤ 16384 := by rw [hn, ho.len]; exact pow_le h4 h3
  have hn1 : 1 ≤ n := by rw [hn, ho.len]; exact pow_pos h1
  obtain ⟨R2, hR2⟩ : ∃ R2 : Nat, 2 * r = R2 := ⟨_, rfl⟩
  have hS : n = k ^ (R2 + 1) := by rw [hn, ho.len, hR2]
  have hil := imgW_length k r t l
  have hig := fun i => @imgW_get k r t l i
  rw [hR2] at hil hig
  obtain ⟨I, hI⟩ : ∃ I, imgW k r t l = I := ⟨_, rfl⟩
  rw [hI] at hil ⊢
  simp only [hI] at hig
  obtain ⟨u, hu⟩ : ∃ u, m - R2 = u := ⟨_, rfl⟩
  have hIu : I.length = u := by rw [hil, ← hm, hu]
  have w2r : IntKind.i64.wrap (2 * (r : Int)) = (R2 : Int) := by rw [IntWalk.i64_in _ (by omega)]; omega
  have wmu : IntKind.i64.wrap ((m : Int) - (R2 : Int)) = (u : Int) := by rw [IntWalk.i64_in _ (by omega)]; omega
  have hmR : ¬ m ≤ R2 := by omega
  have hR6 : R2 ≤ 6 := by omega
  have hu4 : u ≤ 4096 := by omega
  have hmk := makeI u (by omega)
  have H := Lib.hid (And.intro h (And.intro hn (And.intro ho (And.intro hst (And.intro hl (And.intro hm (And.intro hig (And.intro hIu (And.intro hS (And.intro hw hu))))))))))
  clear h hn ho hst hl hm hw hle hle2 hig hIu hil hI hS hlen hR2 hu
  go_enter Tryd.func26, Tryd.ntmps26
  go_wp2_with fail
  obtain ⟨w0, hw0⟩ : ∃ w0, w0 = w.alloc (.cells #[.int .i64 (k : Int), .int .i64 (r : Int), .slice p n c] 24) := ⟨_, rfl⟩
  have hb0 : Below w.heap.size w w0 := by rw [hw0]; exact (Below.refl _ _).alloc (Nat.le_refl _) _
  have hE0 : Rul3 w0 w.heap.size (.int .i64 (k : Int)) (.int .i64 (r : Int)) (.slice p n c) := by rw [hw0]; exact Rul3.new w _ _ _
  rw [← hw0]
  obtain ⟨⟨hf0, hf1, hf2⟩, hc0, hc1, hc2⟩ := hE0.facts
  have HE := Lib.hid (And.intro hE0 hb0)
  clear hw0 hE0 hb0
  go_wp2_with fail
  refine (rcheck_ok k r p n c t w0 H.out.2.1 (H.out.1.next HE.out.2) H.out.2.2.1).mono ?_
  rintro e w1 ⟨rfl, hb1⟩
  have H1 := Lib.hid (And.intro (HE.out.1.next hb1) (HE.out.2.trans (hb1.mono HE.out.2.size)))
  clear hb1 hf0 hf1 hf2 hc0 hc1 hc2
  obtain ⟨⟨hf0, hf1, hf2⟩, hc0, hc1, hc2⟩ := H1.out.1.facts
  have hs01 : w.heap.size < w1.heap.size := H1.out.1.lt
  go_wp2_with fail
  refine (stray_any (k : Int) q m d l w1 H.out.2.2.2.2.2.1 (H.out.2.2.2.2.1.next H1.out.2)).mono ?_
  rintro e w2 ⟨rfl, rfl⟩
  rw [H.out.2.2.2.1]
  have hmk1 := hmk w1
  have ho0 := IntO.made w1 u (by omega)
  have hbm : Below w1.heap.size w1 (w1.alloc (.cells (madeCells #[.int .i64 0] u) 3)) := (Below.refl _ _).alloc (Nat.le_refl _) _
  have HO := Lib.hid (And.intro ho0 hbm)
  clear hmk ho0 hbm
  go_wp2_with fail
  clear hmk1
  go_loopw [9, 46] (fun v9 v46 wr => StepRel w1 k n m R2 u l I v9 v46 wr) (fun _ v _ => m - (intOf v).toNat)
  case atStart => exact ⟨0, Nat.zero_le _, rfl, by simp [valW], by simpa using HO.out.1, HO.out.2⟩
  case round =>
    obtain ⟨j, hj, rfl, rfl, ho, hb⟩ := hrel
    have hbw : Below w.heap.size w wr := H1.out.2.trans (hb.mono H1.out.2.size)
    have hBx := H1.out.1.next hb
    clear hf0 hf1 hf2 hc0 hc1 hc2
    obtain ⟨⟨hf0, hf1, hf2⟩, hc0, hc1, hc2⟩ := hBx.facts
    by_cases hlt : j < m
    · have hml := H.out.2.2.2.2.2.1
      obtain ⟨b, off, rfl, hbb, hc⟩ := H.out.2.2.2.2.1.cell (by rintro rfl; simp at hml; omega)
      obtain ⟨x, hx⟩ := getI (l := l) (k := j) (by omega)
      have hcx : wr.cell? ⟨b, off + j, none⟩ = some (.int .i64 x) := (hbw.cell (p := ⟨b, off + j, none⟩) hbb).trans (hc j x hx)
      have hxo := H.out.2.2.2.2.2.2.2.2.2.1 x (List.mem_of_getElem? hx)
      have hstep := step_mod (k := k) (S := n) hx
      obtain ⟨y, rfl⟩ : ∃ y : Nat, x = (y : Int) := ⟨x.toNat, by omega⟩
      rw [Int.toNat_natCast] at hstep
      have hv1 : valW k (l.take j) % n < n := Nat.mod_lt _ (by omega)
      have hv2 : valW k (l.take (j + 1)) % n < n := Nat.mod_lt _ (by omega)
      obtain ⟨v, hv⟩ : ∃ v, valW k (l.take j) % n = v := ⟨_, rfl⟩
      obtain ⟨z, hz⟩ : ∃ z, valW k (l.take (j + 1)) % n = z := ⟨_, rfl⟩
      rw [hv] at hstep hv1 ⊢
      rw [hz] at hstep hv2
      obtain ⟨a, ha⟩ : ∃ a, v * k = a := ⟨_, rfl⟩
      have ha16 : a ≤ 16384 * 4 := by rw [← ha]; exact Nat.mul_le_mul (by omega) h4
      have hvk : ((v : Int) * (k : Int)) = (a : Int) := by rw [← ha]; push_cast; rfl
      rw [ha] at hstep
      have wvk : IntKind.i64.wrap ((v : Int) * (k : Int)) = (a : Int) := by rw [hvk, IntWalk.i64_in _ (by omega)]
      have wax : IntKind.i64.wrap ((a : Int) + (y : Int)) = (a : Int) + (y : Int) := by rw [IntWalk.i64_in _ (by omega)]
      have e1 : ((a : Int) + (y : Int)) % (n : Int) = (z : Int) := by rw [← hstep]; push_cast; rfl
      have t1 : ((a : Int) + (y : Int)).tmod (n : Int) = (z : Int) := by rw [Int.tmod_eq_emod_of_nonneg (by omega), e1]
      have hn0 : ¬ (n : Int) = 0 := by omega
      by_cases hjR : j < R2
      · have e2 : j - R2 = 0 := by omega
        have e3 : j + 1 - R2 = 0 := by omega
        rw [e2] at ho
        have HS := Lib.hid (And.intro hz (And.intro hb (And.intro ho e3)))
        clear hc hx hv hz ha hvk hstep hml hb ho hbw hBx e2 e3
        go_wp2_with fail
        go_roundw
        case rel => exact ⟨j + 1, by omega, by go_num, by rw [HS.out.1], by rw [HS.out.2.2.2]; exact HS.out.2.2.1, HS.out.2.1⟩
        case measure => simp [intOf]; omega
      · obtain ⟨i, hi⟩ : ∃ i, j - R2 = i := ⟨_, rfl⟩
        have hiu : i < u := by have := H.out.2.2.2.2.2.2.2.2.2.2; omega
        have wji : IntKind.i64.wrap ((j : Int) - (R2 : Int)) = (i : Int) := by rw [IntWalk.i64_in _ (by omega)]; omega
        have hIi := H.out.2.2.2.2.2.2.1 i (by have := H.out.2.2.2.2.2.2.2.2.2.2; omega)
        have hwm := win_mod (k := k) (w := l) (i := i) (n := R2 + 1) H.out.2.2.2.2.2.2.2.2.2.1 (by omega)
        rw [show i + (R2 + 1) = j + 1 by omega, ← H.out.2.2.2.2.2.2.2.2.1, hz] at hwm
        rw [← hwm] at hIi
        have hzt : z < t.length := by have := H.out.2.1; omega
        have hg := ent_get hzt
        obtain ⟨b2, off2, rfl, hb2, hc2'⟩ := H.out.1.cell (by rintro rfl; simp at hzt)
        have hcz : wr.cell? ⟨b2, off2 + z, none⟩ = some (.int .i64 (ent t z)) := (hbw.cell (p := ⟨b2, off2 + z, none⟩) hb2).trans (hc2' _ _ hg)
        obtain ⟨f, hf⟩ : ∃ f, ent t z = f := ⟨_, rfl⟩
        rw [hf] at hcz hIi
        rw [hi] at ho
        have hput := put_next hIi hiu
        have hmid := mid_len (l := I) (j := i) (n := u) (by have := H.out.2.2.2.2.2.2.2.1; omega) (by omega)
        obtain ⟨xs, hxs⟩ : ∃ xs, I.take i ++ List.replicate (u - i) (0 : Int) = xs := ⟨_, rfl⟩
        rw [hxs] at ho hput hmid
        have hown : wr.ownsRow w1.heap.size 3 1 (.slice (some ⟨w1.heap.size, 0, none⟩) u u) u (cI xs) := by
          unfold IntO at ho
          rwa [hmid] at ho
        obtain ⟨y0, hy0⟩ := getI (l := xs) (k := i) (by omega)
        have hcy : wr.cell? ⟨w1.heap.size, i, none⟩ = some (.int .i64 y0) := (hown.cellAt i (by omega)).trans (cI_get hy0)
        have hfy : wr.frozen? ⟨w1.heap.size, i, none⟩ = false := hown.frozenAt i
        obtain ⟨s1, t1'⟩ := hown.stored i (.int .i64 f)
        rw [← cI_set, hput] at s1
        have hb1 : Below w1.heap.size w1 (wr.setCell ⟨w1.heap.size, i, none⟩ (.int .i64 f)) := hb.setCell (p := ⟨w1.heap.size, i, none⟩) (Nat.le_refl _) _
        have hmid1 := mid_len (l := I) (j := i + 1) (n := u) (by have := H.out.2.2.2.2.2.2.2.1; omega) (by omega)
        have hij : j + 1 - R2 = i + 1 := by omega
        have HS := Lib.hid (And.intro hz (And.intro hb1 (And.intro s1 (And.intro hmid1 hij))))
        have hzn : z < n := hv2
        clear hc hx hv hz ha hvk hstep hml hb ho hbw hBx hi hIi hwm hzt hg hf hput hmid hxs hown s1 t1' hb1 hmid1 hij hc2' hy0
        go_wp2_with fail
        go_region
        go_wp2_with fail
        go_roundw
        case rel => exact ⟨j + 1, by omega, by go_num, by rw [HS.out.1], by rw [HS.out.2.2.2.2]; unfold IntO; rw [HS.out.2.2.2.1]; exact HS.out.2.2.1, HS.out.2.1.drew⟩
        case measure => simp [intOf]; omega
    · obtain rfl : j = m := by omega
      have hju : j - R2 = u := H.out.2.2.2.2.2.2.2.2.2.2
      have hIu := H.out.2.2.2.2.2.2.2.1
      have he : I.take u ++ List.replicate (u - u) (0 : Int) = I := by rw [Nat.sub_self, List.replicate_zero, List.append_nil, ← hIu, List.take_length]
      rw [hju, he] at ho
      have HF := Lib.hid (And.intro (ho.base (Nat.le_of_lt hs01)) hbw)
      clear ho hb he hbw hBx hju hIu
      go_wp2_with fail
      go_ret2
      exact ⟨_, _, by rw [H.out.2.2.2.2.2.2.2.1]; rfl, HF.out.1, HF.out.2⟩
end Go.Proofs.YtgdjnohhofbcnaaDoor
end
section
namespace Go.Proofs.YtgdjnohhofbcnaaDoor
open Go.RowKit Go.Extern.Stop Go.Stop Go.Extern WordM RuleM

theorem IntO.apart {base : Nat} {w : World} {p : Option Addr} {c : Nat} {l : List Int} (h : IntO base w p c l) {g : Nat} (hg : g < base) : ∀ b off, p = some ⟨b, off, none⟩ → b ≠ g := by
  rintro b off rfl
  rcases own_shape h with ⟨hv, _⟩ | ⟨g', cap, hv, hg', _⟩
  · simp at hv
  · obtain ⟨⟨rfl, rfl⟩, rfl⟩ : (b = g' ∧ off = 0) ∧ c = cap := by simpa using hv
    omega
theorem turn_wrap (l : List Int) (R i : Nat) : F (turnW l (-(R : Int))) i = F l (i + wrapS l R) := F_rot _ _ _
def GStepRel (w0 : World) (k S m R2 b : Nat) (X T I : List Int) (v7 v23 : Value) (wr : World) : Prop :=
  ∃ j : Nat, j ≤ m + R2 ∧ v23 = .int .i64 (j : Int) ∧ v7 = .int .i64 ((valW k (X.take j) % S : Nat) : Int) ∧ IntO w0.heap.size wr (some ⟨w0.heap.size, 0, none⟩) m (I.take (j - R2) ++ List.replicate (m - (j - R2)) 0) ∧ (∀ i x, T[i]? = some x → wr.cell? ⟨b, i, none⟩ = some (.int .i64 x)) ∧ Below w0.heap.size w0 wr
set_option maxRecDepth 100000 in
set_option maxHeartbeats 4000000 in
theorem gstep_ok (k r : Nat) (p q : Option Addr) (n c m d : Nat) (t l : List Int) (w : World) (hn : n = t.length) (hm : m = l.length) (h : IntV w.heap.size w p c t) (hl : IntV w.heap.size w q d l) (ho : OkR k r t) (h0 : 0 < m) (hm4 : m ≤ 4096) (hw : okW k l) :
    Calls Tryd.prog 32 #[.agg #[.int .i64 (k : Int), .int .i64 (r : Int), .slice p n c], .slice q m d] w (IntPost w (ringW k r t l)) := by
  have ST := Lib.hid (box_rule w (.int .i64 (k : Int)) (.int .i64 (r : Int)) (.slice p n c))
  have h1 := ho.k1
  have h4 := ho.k4
  have h3 := ho.r3
  have hcap := hl.cap
  have hle := hl.le
  have hcap2 := h.cap
  have hle2 := h.le
  unfold maxLen at hcap hcap2
  have hmd : m ≤ d := by omega
  have hnc : n ≤ c := by omega
  have hn16 : n ≤ 16384 := by rw [hn, ho.len]; exact pow_le h4 h3
  have hn1 : 1 ≤ n := by rw [hn, ho.len]; exact pow_pos h1
  obtain ⟨R2, hR2⟩ : ∃ R2 : Nat, 2 * r = R2 := ⟨_, rfl⟩
  have hS : n = k ^ (R2 + 1) := by rw [hn, ho.len, hR2]
  have hXl := extW_length l r
  rw [← hm] at hXl
  have hXg := fun i => @extW_get l r i
  simp only [← hm] at hXg
  have hXo := extW_ok (w := l) (by omega) hw r
  have hIg : ∀ i, i < m → (ringW k r t l)[i]? = some (ent t (valW k (win (extW l r) i (R2 + 1)))) := fun i hi => by
    unfold ringW
    rw [imgW_get (by rw [extW_length]; omega), hR2]
  have hIl := ringW_length k r t l
  rw [hR2] at hXl hXg
  obtain ⟨X, hX⟩ : ∃ X, extW l r = X := ⟨_, rfl⟩
  rw [hX] at hXl hXo
  simp only [hX] at hXg hIg
  obtain ⟨I, hI⟩ : ∃ I, ringW k r t l = I := ⟨_, rfl⟩
  rw [hI] at hIl ⊢
  simp only [hI] at hIg
  have hTl := turnW_length l (-(r : Int))
  have hTg : ∀ i, (turnW l (-(r : Int)))[i % m]? = some (F l (i + wrapS l r)) := fun i => by
    have hi : i % m < (turnW l (-(r : Int))).length := by rw [hTl, ← hm]; exact Nat.mod_lt _ h0
    rw [F_get hi, turn_wrap]
    congr 1
    apply F_congr
    rw [hm, Nat.mod_add_mod]
  have hturn := fun W hW => turn_any q m d l (-(r : Int)) W hm hW (by omega)
  unfold IntPost at hturn
  obtain ⟨T, hT⟩ : ∃ T, turnW l (-(r : Int)) = T := ⟨_, rfl⟩
  rw [hT] at hTl
  simp only [hT] at hTg hturn
  have hTm : T.length = m := by omega
  simp only [hTm] at hturn
  have w2r : IntKind.i64.wrap (2 * (r : Int)) = (R2 : Int) := by rw [IntWalk.i64_in _ (by omega)]; omega
  have wneg : IntKind.i64.wrap (-(r : Int)) = -(r : Int) := by rw [IntWalk.i64_in _ (by omega)]
  obtain ⟨E, hE⟩ : ∃ E, m + R2 = E := ⟨_, rfl⟩
  have wE : IntKind.i64.wrap ((m : Int) + (R2 : Int)) = (E : Int) := by rw [IntWalk.i64_in _ (by omega)]; omega
  have hR6 : R2 ≤ 6 := by omega
  have hmk := makeI m (by omega)
  have hm0 : ¬ (m : Int) = 0 := by omega
  have hn0 : ¬ (n : Int) = 0 := by omega
  have H := Lib.hid (And.intro hn (And.intro h (And.intro hl (And.intro hS (And.intro hXl (And.intro hXg (And.intro hXo (And.intro hIg (And.intro (show I.length = m by omega) (And.intro hTg (And.intro hturn (And.intro hE hTm))))))))))))
  clear hn hm h hl ho hw hle hle2 hS hXl hXg hXo hIg hIl hX hI hT hTl hTg hTm hturn hR2 hE
  go_enter Tryd.func32, Tryd.ntmps32
  go_upto_region 1 with fail
  obtain ⟨w0, hw0⟩ : ∃ w0, w0 = w.alloc (.cells #[.int .i64 (k : Int), .int .i64 (r : Int), .slice p n c] 24) := ⟨_, rfl⟩
  rw [← hw0]
  obtain ⟨hb0, hE0⟩ := ST.out w0 hw0
  have HE := Lib.hid (And.intro hE0 hb0)
  clear hw0 hE0 hb0
  have hs0 : w.heap.size < w0.heap.size := HE.out.1.lt
  have hmk1 := hmk w0
  have ho0 := IntO.made w0 m (by omega)
  obtain ⟨w1, hw1⟩ : ∃ x, x = w0.alloc (.cells (madeCells #[.int .i64 0] m) 3) := ⟨_, rfl⟩
  have hb1 : Below w0.heap.size w0 w1 := by rw [hw1]; exact (Below.refl _ _).alloc (Nat.le_refl _) _
  have hs1 : w1.heap.size = w0.heap.size + 1 := by rw [hw1]; simp
  rw [← hw1] at hmk1 ho0
  have H1 := Lib.hid (And.intro ho0 (And.intro hb1 hs1))
  clear hmk ho0 hb1 hw1 hs1
  obtain ⟨_, hc0, hc1, hc2⟩ := (HE.out.1.next H1.out.2.1).facts
  go_wp2_with fail
  refine (H.out.2.2.2.2.2.2.2.2.2.2.1 w1 (H.out.2.2.1.next (HE.out.2.trans (H1.out.2.1.mono HE.out.2.size)))).mono ?_
  rintro e w2 ⟨pT, cT, rfl, hoT, hb2⟩
  clear hmk1 hc0 hc1 hc2
  obtain ⟨bT, rfl, hbT, hcT⟩ : ∃ bT, pT = some ⟨bT, 0, none⟩ ∧ w1.heap.size ≤ bT ∧ ∀ i x, T[i]? = some x → w2.cell? ⟨bT, i, none⟩ = some (.int .i64 x) := by
    have hTm := H.out.2.2.2.2.2.2.2.2.2.2.2.2
    rcases own_shape hoT with ⟨hv, hz, _⟩ | ⟨g, cap, hv, hg, hlt, hc, hmx, hcl, _⟩
    · omega
    · obtain ⟨rfl, rfl⟩ : pT = some ⟨g, 0, none⟩ ∧ cT = cap := by simpa using hv
      exact ⟨g, rfl, hg, fun i x hx => (hcl i (ltI hx)).trans (cI_get hx)⟩
  have hcTm : m ≤ cT := by
    have := hoT.toV.le
    have := H.out.2.2.2.2.2.2.2.2.2.2.2.2
    omega
  have hne : bT ≠ w0.heap.size := by have := H1.out.2.2; omega
  have H2 := Lib.hid (And.intro (H1.out.1.next hb2) (And.intro (H1.out.2.1.trans (hb2.mono H1.out.2.1.size)) hcT))
  have HBX := Lib.hid (HE.out.1.next H2.out.2.1)
  clear hoT hb2 hbT hcT
  obtain ⟨_, hc0, hc1, hc2⟩ := HBX.out.facts
  go_wp2_with fail
  go_loopw [7, 23] (fun v7 v23 wr => GStepRel w0 k n m R2 bT X T I v7 v23 wr) (fun _ v _ => E - (intOf v).toNat)
  case atStart => exact ⟨0, Nat.zero_le _, rfl, by simp [valW], by simpa using H2.out.1, H2.out.2.2, H2.out.2.1⟩
  case round =>
    obtain ⟨j, hj, rfl, rfl, ho, hcT, hb⟩ := hrel
    have hbw : Below w.heap.size w wr := HE.out.2.trans (hb.mono HE.out.2.size)
    have hBx := HE.out.1.next hb
    clear hc0 hc1 hc2
    obtain ⟨_, hc0, hc1, hc2⟩ := hBx.facts
    have hjE : j ≤ E := by have := H.out.2.2.2.2.2.2.2.2.2.2.2.1; omega
    by_cases hlt : j < E
    · have hx := H.out.2.2.2.2.2.1 j (by have := H.out.2.2.2.2.2.2.2.2.2.2.2.1; have := H.out.2.2.2.2.1; omega)
      obtain ⟨x, hxx⟩ : ∃ x, F l (j + wrapS l r) = x := ⟨_, rfl⟩
      rw [hxx] at hx
      obtain ⟨jm, hjm⟩ : ∃ jm, j % m = jm := ⟨_, rfl⟩
      have hjml : jm < m := by rw [← hjm]; exact Nat.mod_lt _ (by omega)
      have hcx : wr.cell? ⟨bT, jm, none⟩ = some (.int .i64 x) := hcT jm x (by rw [← hjm, H.out.2.2.2.2.2.2.2.2.2.1 j, hxx])
      have tj : ((j : Int)).tmod (m : Int) = (jm : Int) := by rw [Int.tmod_eq_emod_of_nonneg (by omega), ← hjm]; push_cast; rfl
      have hxo := H.out.2.2.2.2.2.2.1 x (List.mem_of_getElem? hx)
      have hstep := step_mod (k := k) (S := n) hx
      obtain ⟨y, rfl⟩ : ∃ y : Nat, x = (y : Int) := ⟨x.toNat, by omega⟩
      rw [Int.toNat_natCast] at hstep
      have hv1 : valW k (X.take j) % n < n := Nat.mod_lt _ (by omega)
      have hv2 : valW k (X.take (j + 1)) % n < n := Nat.mod_lt _ (by omega)
      obtain ⟨v, hv⟩ : ∃ v, valW k (X.take j) % n = v := ⟨_, rfl⟩
      obtain ⟨z, hz⟩ : ∃ z, valW k (X.take (j + 1)) % n = z := ⟨_, rfl⟩
      rw [hv] at hstep hv1 ⊢
      rw [hz] at hstep hv2
      obtain ⟨a, ha⟩ : ∃ a, v * k = a := ⟨_, rfl⟩
      have ha16 : a ≤ 16384 * 4 := by rw [← ha]; exact Nat.mul_le_mul (by omega) h4
      have hvk : ((v : Int) * (k : Int)) = (a : Int) := by rw [← ha]; push_cast; rfl
      rw [ha] at hstep
      have wvk : IntKind.i64.wrap ((v : Int) * (k : Int)) = (a : Int) := by rw [hvk, IntWalk.i64_in _ (by omega)]
      have wax : IntKind.i64.wrap ((a : Int) + (y : Int)) = (a : Int) + (y : Int) := by rw [IntWalk.i64_in _ (by omega)]
      have e1 : ((a : Int) + (y : Int)) % (n : Int) = (z : Int) := by rw [← hstep]; push_cast; rfl
      have t1 : ((a : Int) + (y : Int)).tmod (n : Int) = (z : Int) := by rw [Int.tmod_eq_emod_of_nonneg (by omega), e1]
      by_cases hjR : j < R2
      · have e2 : j - R2 = 0 := by omega
        have e3 : j + 1 - R2 = 0 := by omega
        rw [e2] at ho
        have HS := Lib.hid (And.intro hz (And.intro hb.drew (And.intro (show IntO w0.heap.size wr.drew _ _ _ from ho) (And.intro e3 (show ∀ i x, T[i]? = some x → wr.drew.cell? ⟨bT, i, none⟩ = some (.int .i64 x) from hcT)))))
        have hnR : ¬ R2 ≤ j := by omega
        clear hx hxx hjm hv hz ha hvk hstep hb ho hbw hBx e2 e3 hcT hj hjE hjR
        go_wp2_with fail
        go_region
        go_wp2_with fail
        go_roundw
        case rel => exact ⟨j + 1, by have := H.out.2.2.2.2.2.2.2.2.2.2.2.1; omega, by go_num, by rw [HS.out.1], by rw [HS.out.2.2.2.1]; exact HS.out.2.2.1, HS.out.2.2.2.2, HS.out.2.1⟩
        case measure => simp [intOf]; omega
      · obtain ⟨i, hi⟩ : ∃ i, j - R2 = i := ⟨_, rfl⟩
        have hiu : i < m := by have := H.out.2.2.2.2.2.2.2.2.2.2.2.1; omega
        have wji : IntKind.i64.wrap ((j : Int) - (R2 : Int)) = (i : Int) := by rw [IntWalk.i64_in _ (by omega)]; omega
        have hIi := H.out.2.2.2.2.2.2.2.1 i hiu
        have hwm := win_mod (k := k) (w := X) (i := i) (n := R2 + 1) H.out.2.2.2.2.2.2.1 (by have := H.out.2.2.2.2.1; omega)
        rw [show i + (R2 + 1) = j + 1 by omega, ← H.out.2.2.2.1, hz] at hwm
        rw [← hwm] at hIi
        have hzt : z < t.length := by have := H.out.1; omega
        have hg := ent_get hzt
        obtain ⟨b2, off2, rfl, hb2, hc2'⟩ := H.out.2.1.cell (by rintro rfl; simp at hzt)
        have hcz : wr.cell? ⟨b2, off2 + z, none⟩ = some (.int .i64 (ent t z)) := (hbw.cell (p := ⟨b2, off2 + z, none⟩) hb2).trans (hc2' _ _ hg)
        obtain ⟨f, hf⟩ : ∃ f, ent t z = f := ⟨_, rfl⟩
        rw [hf] at hcz hIi
        rw [hi] at ho
        have hIm := H.out.2.2.2.2.2.2.2.2.1
        have hput := put_next hIi hiu
        have hmid := mid_len (l := I) (j := i) (n := m) (by omega) (by omega)
        obtain ⟨xs, hxs⟩ : ∃ xs, I.take i ++ List.replicate (m - i) (0 : Int) = xs := ⟨_, rfl⟩
        rw [hxs] at ho hput hmid
        have hown : wr.ownsRow w0.heap.size 3 1 (.slice (some ⟨w0.heap.size, 0, none⟩) m m) m (cI xs) := by
          unfold IntO at ho
          rwa [hmid] at ho
        obtain ⟨y0, hy0⟩ := getI (l := xs) (k := i) (by omega)
        have hcy : wr.cell? ⟨w0.heap.size, i, none⟩ = some (.int .i64 y0) := (hown.cellAt i (by omega)).trans (cI_get hy0)
        have hfy : wr.frozen? ⟨w0.heap.size, i, none⟩ = false := hown.frozenAt i
        obtain ⟨s1, t1'⟩ := hown.stored i (.int .i64 f)
        rw [← cI_set, hput] at s1
        have hb1 : Below w0.heap.size w0 (wr.setCell ⟨w0.heap.size, i, none⟩ (.int .i64 f)) := hb.setCell (p := ⟨w0.heap.size, i, none⟩) (Nat.le_refl _) _
        have hcT1 : ∀ i' x, T[i']? = some x → (wr.setCell ⟨w0.heap.size, i, none⟩ (.int .i64 f)).cell? ⟨bT, i', none⟩ = some (.int .i64 x) := fun i' x hx => (World.cell?_setCell_far wr ⟨w0.heap.size, i, none⟩ ⟨bT, i', none⟩ _ (fun e => hne e.symm)).trans (hcT i' x hx)
        have hmid1 := mid_len (l := I) (j := i + 1) (n := m) (by omega) (by omega)
        have hij : j + 1 - R2 = i + 1 := by omega
        have hjj : j + 1 ≤ m + R2 ∧ j < E := by
          have := H.out.2.2.2.2.2.2.2.2.2.2.2.1
          omega
        have HS := Lib.hid (And.intro hz (And.intro hb1 (And.intro s1 (And.intro hmid1 (And.intro hij (And.intro hcT1 hjj))))))
        have hzn : z < n := hv2
        have hRj : R2 ≤ j := by omega
        have hcT' : wr.drew.cell? ⟨b2, off2 + z, none⟩ = some (.int .i64 f) := hcz
        have hcy' : wr.drew.cell? ⟨w0.heap.size, i, none⟩ = some (.int .i64 y0) := hcy
        have hfy' : wr.drew.frozen? ⟨w0.heap.size, i, none⟩ = false := hfy
        have hd0 : wr.drew.cell? ⟨w.heap.size, 0, none⟩ = some (.int .i64 (k : Int)) := hc0
        have hd1 : wr.drew.cell? ⟨w.heap.size, 1, none⟩ = some (.int .i64 (r : Int)) := hc1
        have hd2 : wr.drew.cell? ⟨w.heap.size, 2, none⟩ = some (.slice (some ⟨b2, off2, none⟩) n c) := hc2
        clear hx hxx hjm hv hz ha hvk hstep hb ho hbw hBx hi hIi hwm hzt hg hf hput hmid hxs hown s1 t1' hb1 hmid1 hij hc2' hy0 hcT hcT1 hIm hj hjE hjR
        go_wp2_with fail
        go_region
        go_wp2_with fail
        go_region
        go_wp2_with fail
        go_roundw
        case rel => exact ⟨j + 1, HS.out.2.2.2.2.2.2.1, by go_num, by rw [HS.out.1], by rw [HS.out.2.2.2.2.1]; unfold IntO; rw [HS.out.2.2.2.1]; exact HS.out.2.2.1, HS.out.2.2.2.2.2.1, HS.out.2.1.drew.drew⟩
        case measure => have := HS.out.2.2.2.2.2.2.2; simp [intOf]; omega
    · obtain rfl : j = E := by omega
      have hju : j - R2 = m := by have := H.out.2.2.2.2.2.2.2.2.2.2.2.1; omega
      have hIu := H.out.2.2.2.2.2.2.2.2.1
      have he : I.take m ++ List.replicate (m - m) (0 : Int) = I := by rw [Nat.sub_self, List.replicate_zero, List.append_nil, ← hIu, List.take_length]
      rw [hju, he] at ho
      have HF := Lib.hid (And.intro (ho.base (Nat.le_of_lt hs0)) hbw)
      clear ho hb he hbw hBx hju hIu hcT hj
      go_wp2_with fail
      go_ret
      exact ⟨some ⟨w0.heap.size, 0, none⟩, m, by rw [H.out.2.2.2.2.2.2.2.2.1]; rfl, HF.out.1, HF.out.2⟩
end Go.Proofs.YtgdjnohhofbcnaaDoor
end
section
namespace Go.Proofs.YtgdjnohhofbcnaaDoor
open Go.RowKit Go.Extern.Stop Go.Stop Go.Extern WordM RuleM

/-- the faults of so many steps -/
def chkA (k r : Int) (t l : List Int) (z : Int) : Option (List (ByteArray × Int) × Nat) := match chkG k r t l with
  | some y => some y
  | none => if z < 0 then some ([(ringOp, 1)], 3) else if ((262144 / l.length : Nat) : Int) < z then some ([(ringOp, 1)], 4) else none
theorem chkA_num {k r : Int} {t l : List Int} {z : Int} : ∀ y, chkA k r t l z = some y → 1 ≤ y.2 ∧ y.2 ≤ 11 := fun y h => by
  unfold chkA at h
  cases hk : chkG k r t l with
  | some x => rw [hk] at h; obtain rfl := Option.some.inj h; exact chkG_num _ hk
  | none =>
    rw [hk] at h
    simp only at h
    split at h
    · obtain rfl := Option.some.inj h; simp
    · split at h
      · obtain rfl := Option.some.inj h; simp
      · cases h
theorem chkA_none {k r : Int} {t l : List Int} {z : Int} (h : chkA k r t l z = none) : chkG k r t l = none ∧ ∃ N : Nat, z = N ∧ N ≤ 262144 / l.length := by
  unfold chkA at h
  cases hk : chkG k r t l with
  | some x => rw [hk] at h; cases h
  | none =>
    rw [hk] at h
    simp only at h
    split at h
    · cases h
    · split at h
      · cases h
      · exact ⟨rfl, z.toNat, by omega, by omega⟩
set_option maxRecDepth 100000 in
set_option maxHeartbeats 4000000 in
theorem gsteps_ok (K R N : Nat) (p q : Option Addr) (n c m d : Nat) (t l : List Int) (w : World) (hn : n = t.length) (hm : m = l.length) (h : IntV w.heap.size w p c t) (h' : IntV w.heap.size w q d l) (ho : OkR K R t) (h0 : 0 < l.length) (h4 : l.length ≤ 4096) (hw : okW K l) (hN : N ≤ 262144 / l.length) :
    Calls Tryd.prog 36 #[.agg #[.int .i64 (K : Int), .int .i64 (R : Int), .slice p n c], .slice q m d, .int .i64 (N : Int)] w (Tells .nilIface w) := by
  have ST := Lib.hid (box_rule w (.int .i64 (K : Int)) (.int .i64 (R : Int)) (.slice p n c))
  obtain ⟨Q, hQ⟩ : ∃ Q, 262144 / l.length = Q := ⟨_, rfl⟩
  have tQ : (262144 : Int).tdiv (m : Int) = (Q : Int) := by rw [Int.tdiv_eq_ediv_of_nonneg (by omega), ← hQ, hm]; rfl
  have hm0 : ¬ (m : Int) = 0 := by omega
  have hQ2 : Q ≤ 262144 := by rw [← hQ]; exact Nat.div_le_self _ _
  rw [hQ] at hN
  have H := Lib.hid (And.intro hn (And.intro hm (And.intro h (And.intro h' (And.intro ho (And.intro h0 (And.intro h4 hw)))))))
  clear hn hm h h' ho h0 h4 hw hQ
  go_enter Tryd.func36, Tryd.ntmps36
  go_upto_region 1 with fail
  obtain ⟨w0, hw0⟩ : ∃ w0, w0 = w.alloc (.cells #[.int .i64 (K : Int), .int .i64 (R : Int), .slice p n c] 24) := ⟨_, rfl⟩
  rw [← hw0]
  obtain ⟨hb0, hE0⟩ := ST.out w0 hw0
  have HE := Lib.hid (And.intro hE0 hb0)
  obtain ⟨_, hc0, hc1, hc2⟩ := hE0.facts
  clear hw0 hE0 hb0
  go_wp2_with fail
  refine (gcheck_ok K R p q n c m d t l w0 H.out.1 H.out.2.1 (H.out.2.2.1.next HE.out.2) (H.out.2.2.2.1.next HE.out.2) H.out.2.2.2.2.1 H.out.2.2.2.2.2.1 H.out.2.2.2.2.2.2.1 H.out.2.2.2.2.2.2.2).mono ?_
  rintro e w1 ⟨rfl, hb1⟩
  have H1 := Lib.hid (HE.out.2.trans (hb1.mono HE.out.2.size))
  clear hb1 hc0 hc1 hc2
  go_wp2_with fail
  go_ret
  exact ⟨rfl, H1.out⟩
set_option maxRecDepth 100000 in
set_option maxHeartbeats 8000000 in
theorem gsteps_bad (k r z : Int) (p q : Option Addr) (n c m d : Nat) (t l : List Int) (w : World) (A : Nat → Addr) (hr : Roots w A) (hT : TypeVar w) (hn : n = t.length) (hm : m = l.length) (h : IntV w.heap.size w p c t) (h' : IntV w.heap.size w q d l) (L : List (ByteArray × Int)) (M : Nat) (hc : chkA k r t l z = some (L, M)) :
    Calls Tryd.prog 36 #[.agg #[.int .i64 k, .int .i64 r, .slice p n c], .slice q m d, .int .i64 z] w (FErr1 w A L M) := by
  unfold chkA at hc
  cases hk : chkG k r t l with
  | some x =>
    rw [hk] at hc
    obtain rfl := Option.some.inj hc
    have ST := Lib.hid (box_rule w (.int .i64 k) (.int .i64 r) (.slice p n c))
    have H := Lib.hid (And.intro hn (And.intro hm (And.intro h (And.intro h' (And.intro hr (And.intro hT hk))))))
    clear hn hm h h' hr hT hk hc
    go_enter Tryd.func36, Tryd.ntmps36
    go_upto_region 1 with fail
    obtain ⟨w0, hw0⟩ : ∃ w0, w0 = w.alloc (.cells #[.int .i64 k, .int .i64 r, .slice p n c] 24) := ⟨_, rfl⟩
    rw [← hw0]
    obtain ⟨hb0, hE0⟩ := ST.out w0 hw0
    have HE := Lib.hid (And.intro hE0 hb0)
    obtain ⟨_, hc0, hc1, hc2⟩ := hE0.facts
    clear hw0 hE0 hb0
    go_wp2_with fail
    refine (gcheck_bad k r p q n c m d t l w0 A (H.out.2.2.2.2.1.below HE.out.2) (H.out.2.2.2.2.2.1.below HE.out.2) H.out.1 H.out.2.1 (H.out.2.2.1.next HE.out.2) (H.out.2.2.2.1.next HE.out.2) L M H.out.2.2.2.2.2.2).mono ?_
    rintro e w1 ⟨b, rfl, hl, hb1⟩
    have H1 := Lib.hid (And.intro hl (HE.out.2.trans (hb1.mono HE.out.2.size)))
    clear hb1 hc0 hc1 hc2 hl
    go_wp2_with fail
    go_ret
    exact ⟨b, rfl, H1.out.1, H1.out.2⟩
  | none =>
    rw [hk] at hc
    simp only at hc
    obtain ⟨K, R, rfl, rfl, ho, h0, h4, hw⟩ := chkG_none hk
    have ST := Lib.hid (box_rule w (.int .i64 (K : Int)) (.int .i64 (R : Int)) (.slice p n c))
    by_cases hz : z < 0
    · rw [if_pos hz] at hc
      obtain ⟨rfl, rfl⟩ := Prod.mk.inj (Option.some.inj hc)
      have H := Lib.hid (And.intro hn (And.intro hm (And.intro h (And.intro h' (And.intro ho (And.intro h0 (And.intro h4 (And.intro hw hr))))))))
      clear hn hm h h' ho h0 h4 hw hr hT hk hc
      go_enter Tryd.func36, Tryd.ntmps36
      go_upto_region 1 with fail
      obtain ⟨w0, hw0⟩ : ∃ w0, w0 = w.alloc (.cells #[.int .i64 (K : Int), .int .i64 (R : Int), .slice p n c] 24) := ⟨_, rfl⟩
      rw [← hw0]
      obtain ⟨hb0, hE0⟩ := ST.out w0 hw0
      have HE := Lib.hid (And.intro hE0 hb0)
      obtain ⟨_, hc0, hc1, hc2⟩ := hE0.facts
      clear hw0 hE0 hb0
      go_wp2_with fail
      refine (gcheck_ok K R p q n c m d t l w0 H.out.1 H.out.2.1 (H.out.2.2.1.next HE.out.2) (H.out.2.2.2.1.next HE.out.2) H.out.2.2.2.2.1 H.out.2.2.2.2.2.1 H.out.2.2.2.2.2.2.1 H.out.2.2.2.2.2.2.2.1).mono ?_
      rintro e w1 ⟨rfl, hb1⟩
      have H1 := Lib.hid (HE.out.2.trans (hb1.mono HE.out.2.size))
      clear hb1 hc0 hc1 hc2
      go_wp2_with fail
      refine (new_at ringOp 1 3 w1 A (H.out.2.2.2.2.2.2.2.2.below H1.out) (by decide)).mono ?_
      rintro e w2 ⟨b, rfl, hl, hb2⟩
      have H2 := Lib.hid (And.intro (Chn.one hl) (H1.out.trans (hb2.mono H1.out.size)))
      clear hb2 hl
      go_wp2_with fail
      go_ret
      exact ⟨b, rfl, H2.out.1, H2.out.2⟩
    · rw [if_neg hz] at hc
      obtain ⟨Q, hQ⟩ : ∃ Q, 262144 / l.length = Q := ⟨_, rfl⟩
      rw [hQ] at hc
      have tQ : (262144 : Int).tdiv (m : Int) = (Q : Int) := by rw [Int.tdiv_eq_ediv_of_nonneg (by omega), ← hQ, hm]; rfl
      have hm0 : ¬ (m : Int) = 0 := by omega
      have hQ2 : Q ≤ 262144 := by rw [← hQ]; exact Nat.div_le_self _ _
      by_cases hq : (Q : Int) < z
      · rw [if_pos hq] at hc
        obtain ⟨rfl, rfl⟩ := Prod.mk.inj (Option.some.inj hc)
        have H := Lib.hid (And.intro hn (And.intro hm (And.intro h (And.intro h' (And.intro ho (And.intro h0 (And.intro h4 (And.intro hw hr))))))))
        clear hn hm h h' ho h0 h4 hw hr hT hk hc hQ
        go_enter Tryd.func36, Tryd.ntmps36
        go_upto_region 1 with fail
        obtain ⟨w0, hw0⟩ : ∃ w0, w0 = w.alloc (.cells #[.int .i64 (K : Int), .int .i64 (R : Int), .slice p n c] 24) := ⟨_, rfl⟩
        rw [← hw0]
        obtain ⟨hb0, hE0⟩ := ST.out w0 hw0
        have HE := Lib.hid (And.intro hE0 hb0)
        obtain ⟨_, hc0, hc1, hc2⟩ := hE0.facts
        clear hw0 hE0 hb0
        go_wp2_with fail
        refine (gcheck_ok K R p q n c m d t l w0 H.out.1 H.out.2.1 (H.out.2.2.1.next HE.out.2) (H.out.2.2.2.1.next HE.out.2) H.out.2.2.2.2.1 H.out.2.2.2.2.2.1 H.out.2.2.2.2.2.2.1 H.out.2.2.2.2.2.2.2.1).mono ?_
        rintro e w1 ⟨rfl, hb1⟩
        have H1 := Lib.hid (HE.out.2.trans (hb1.mono HE.out.2.size))
        clear hb1 hc0 hc1 hc2
        go_wp2_with fail
        refine (new_at ringOp 1 4 w1 A (H.out.2.2.2.2.2.2.2.2.below H1.out) (by decide)).mono ?_
        rintro e w2 ⟨b, rfl, hl, hb2⟩
        have H2 := Lib.hid (And.intro (Chn.one hl) (H1.out.trans (hb2.mono H1.out.size)))
        clear hb2 hl
        go_wp2_with fail
        go_ret
        exact ⟨b, rfl, H2.out.1, H2.out.2⟩
      · rw [if_neg hq] at hc
        cases hc
set_option maxRecDepth 100000 in
set_option maxHeartbeats 4000000 in
theorem gStep_ok (K R : Nat) (p q : Option Addr) (n c m d : Nat) (t l : List Int) (w : World) (hn : n = t.length) (hm : m = l.length) (h : IntV w.heap.size w p c t) (h' : IntV w.heap.size w q d l) (ho : OkR K R t) (h0 : 0 < l.length) (h4 : l.length ≤ 4096) (hw : okW K l) :
    Calls Tryd.prog 12 #[.agg #[.int .i64 (K : Int), .int .i64 (R : Int), .slice p n c], .slice q m d] w (IntOk w (ringW K R t l)) := by
  have ST := Lib.hid (box_rule w (.int .i64 (K : Int)) (.int .i64 (R : Int)) (.slice p n c))
  have H := Lib.hid (And.intro hn (And.intro hm (And.intro h (And.intro h' (And.intro ho (And.intro h0 (And.intro h4 hw)))))))
  clear hn hm h h' ho h0 h4 hw
  go_enter Tryd.func12, Tryd.ntmps12
  go_upto_region 1 with fail
  obtain ⟨w0, hw0⟩ : ∃ w0, w0 = w.alloc (.cells #[.int .i64 (K : Int), .int .i64 (R : Int), .slice p n c] 24) := ⟨_, rfl⟩
  rw [← hw0]
  obtain ⟨hb0, hE0⟩ := ST.out w0 hw0
  have HE := Lib.hid (And.intro hE0 hb0)
  obtain ⟨_, hc0, hc1, hc2⟩ := hE0.facts
  clear hw0 hE0 hb0
  go_wp2_with fail
  refine (gcheck_ok K R p q n c m d t l w0 H.out.1 H.out.2.1 (H.out.2.2.1.next HE.out.2) (H.out.2.2.2.1.next HE.out.2) H.out.2.2.2.2.1 H.out.2.2.2.2.2.1 H.out.2.2.2.2.2.2.1 H.out.2.2.2.2.2.2.2).mono ?_
  rintro e w1 ⟨rfl, hb1⟩
  have H1 := Lib.hid (And.intro (HE.out.2.trans (hb1.mono HE.out.2.size)) (HE.out.1.next hb1))
  clear hb1 hc0 hc1 hc2
  obtain ⟨_, hc0, hc1, hc2⟩ := H1.out.2.facts
  go_wp2_with fail
  refine (gstep_ok K R p q n c m d t l w1 H.out.1 H.out.2.1 (H.out.2.2.1.next H1.out.1) (H.out.2.2.2.1.next H1.out.1) H.out.2.2.2.2.1 (by have := H.out.2.1; have := H.out.2.2.2.2.2.1; omega) (by have := H.out.2.1; have := H.out.2.2.2.2.2.2.1; omega) H.out.2.2.2.2.2.2.2).mono ?_
  rintro e w2 ⟨p2, c2, rfl, ho2, hb2⟩
  have H2 := Lib.hid (And.intro (ho2.base H1.out.1.size) (H1.out.1.trans (hb2.mono H1.out.1.size)))
  clear ho2 hb2 hc0 hc1 hc2
  obtain ⟨u, hu⟩ : ∃ u, (ringW K R t l).length = u := ⟨_, rfl⟩
  rw [hu]
  have HU := Lib.hid hu
  clear hu
  go_wp2_with fail
  go_ret2
  exact ⟨p2, c2, by rw [HU.out]; rfl, H2.out.1, H2.out.2⟩
set_option maxRecDepth 100000 in
set_option maxHeartbeats 4000000 in
theorem gStep_bad (k r : Int) (p q : Option Addr) (n c m d : Nat) (t l : List Int) (w : World) (A : Nat → Addr) (hr : Roots w A) (hT : TypeVar w) (hn : n = t.length) (hm : m = l.length) (h : IntV w.heap.size w p c t) (h' : IntV w.heap.size w q d l) (L : List (ByteArray × Int)) (M : Nat) (hc : chkG k r t l = some (L, M)) :
    Calls Tryd.prog 12 #[.agg #[.int .i64 k, .int .i64 r, .slice p n c], .slice q m d] w (FErr2 w A L M (.slice none 0 0)) := by
  have ST := Lib.hid (box_rule w (.int .i64 k) (.int .i64 r) (.slice p n c))
  have H := Lib.hid (And.intro hn (And.intro hm (And.intro h (And.intro h' (And.intro hr (And.intro hT hc))))))
  clear hn hm h h' hr hT hc
  go_enter Tryd.func12, Tryd.ntmps12
  go_upto_region 1 with fail
  obtain ⟨w0, hw0⟩ : ∃ w0, w0 = w.alloc (.cells #[.int .i64 k, .int .i64 r, .slice p n c] 24) := ⟨_, rfl⟩
  rw [← hw0]
  obtain ⟨hb0, hE0⟩ := ST.out w0 hw0
  have HE := Lib.hid (And.intro hE0 hb0)
  obtain ⟨_, hc0, hc1, hc2⟩ := hE0.facts
  clear hw0 hE0 hb0
  go_wp2_with fail
  refine (gcheck_bad k r p q n c m d t l w0 A (H.out.2.2.2.2.1.below HE.out.2) (H.out.2.2.2.2.2.1.below HE.out.2) H.out.1 H.out.2.1 (H.out.2.2.1.next HE.out.2) (H.out.2.2.2.1.next HE.out.2) L M H.out.2.2.2.2.2.2).mono ?_
  rintro e w1 ⟨b, rfl, hl, hb1⟩
  have H1 := Lib.hid (And.intro hl (HE.out.2.trans (hb1.mono HE.out.2.size)))
  clear hb1 hc0 hc1 hc2 hl
  go_wp2_with fail
  go_ret2
  exact ⟨b, rfl, H1.out.1, H1.out.2⟩
end Go.Proofs.YtgdjnohhofbcnaaDoor
end
section
namespace Go.Proofs.YtgdjnohhofbcnaaDoor.RuleM
open WordM
/-! ### the way into a cycle -/
/-- behind m steps comes what comes again behind p more; none of those ahead is one of the others -/
structure IsOrb (k r : Nat) (t l : List Int) (m p : Nat) : Prop where
  pos : 1 ≤ p
  again : stepsW k r t (m + p) l = stepsW k r t m l
  apart : ∀ i j, i < j → j < m + p → stepsW k r t i l ≠ stepsW k r t j l
theorem IsOrb.unique {k r : Nat} {t l : List Int} {m p m' p' : Nat} (h : IsOrb k r t l m p) (g : IsOrb k r t l m' p') : m = m' ∧ p = p' := by
  have h1 := h.pos
  have g1 := g.pos
  have e : m + p = m' + p' := by
    rcases Nat.lt_trichotomy (m + p) (m' + p') with c | c | c
    · exact absurd h.again.symm (g.apart _ _ (by omega) c)
    · exact c
    · exact absurd g.again.symm (h.apart _ _ (by omega) c)
  have e2 : stepsW k r t m l = stepsW k r t m' l := by rw [← h.again, e, g.again]
  rcases Nat.lt_trichotomy m m' with c | c | c
  · exact absurd e2 (h.apart _ _ c (by omega))
  · omega
  · exact absurd e2.symm (h.apart _ _ c (by omega))
/-- a cell's number as a byte -/
def kyL (l : List Int) : List Nat := l.map Int.toNat
theorem kyL_length (l : List Int) : (kyL l).length = l.length := by simp [kyL]
theorem kyL_get {l : List Int} {j : Nat} {x : Int} (h : l[j]? = some x) : (kyL l)[j]? = some x.toNat := by simp [kyL, h]
theorem kyL_inj {k : Nat} {a b : List Int} (ha : okW k a) (hb : okW k b) (h : kyL a = kyL b) : a = b := by
  have e : ∀ {l : List Int}, okW k l → (kyL l).map (fun (d : Nat) => (d : Int)) = l := fun {l} hl => by
    unfold kyL
    rw [List.map_map]
    conv => rhs; rw [← List.map_id l]
    apply List.map_congr_left
    intro x hx
    have := hl x hx
    simp
    omega
  rw [← e ha, ← e hb, h]
theorem kyL_lt {k : Nat} (hk : k ≤ 4) {l : List Int} (h : okW k l) : ∀ x ∈ kyL l, x < 256 := fun x hx => by
  obtain ⟨y, hy, rfl⟩ := List.mem_map.1 hx
  have := h y hy
  omega
end Go.Proofs.YtgdjnohhofbcnaaDoor.RuleM
end
section
namespace Go.Proofs.YtgdjnohhofbcnaaDoor
open Go.RowKit Go.Extern.Stop Go.Stop Go.Extern WordM NatM

theorem makeB (n : Nat) (hn : n ≤ 17592186044000) (w : World) :
    (Instr.makeSlice 99 (.int .i64 (n : Int)) (.int .i64 (n : Int))).run Tryd.prog w = .ok (.slice (some ⟨w.heap.size, 0, none⟩) n n) (w.alloc (.cells (madeCells #[.int .u8 0] n) 5)) := by
  obtain ⟨i0, hi, hz0, hz1, hz2⟩ := info_parts info8
  have h := run_make (P := Tryd.prog) w 99 5 i0 (.int .u8 0) Tryd.underlying99 hi hz0 .i64 .i64 n n (by omega) (by omega) (by rw [hz2]; omega) (by omega)
  rw [hz1] at h
  simpa [Value.cells] using h
/-- bytes in a block of the call's own -/
def ByteO (base : Nat) (w : World) (g n : Nat) (l : List Nat) : Prop := w.ownsRow base 5 1 (.slice (some ⟨g, 0, none⟩) n n) n (cells8 l)
theorem ByteO.made (w : World) (n : Nat) (hn : n ≤ 17592186044000) : ByteO w.heap.size (w.alloc (.cells (madeCells #[.int .u8 0] n) 5)) w.heap.size n (List.replicate n 0) := by
  refine ⟨by simp [cells8], Or.inr ⟨w.heap.size, n, madeCells #[.int .u8 0] n, rfl, Nat.le_refl _, heap_newN _ _, Nat.le_refl _, by unfold maxLen; omega, by rw [size_madeCells, Nat.mul_one], ?_⟩⟩
  rw [madeI_list, Nat.mul_one, List.take_of_length_le (by simp)]
  simp [cells8]

/-- the digits of a word's text -/
def txL (l : List Int) : List Nat := l.map fun x => 48 + x.toNat
def txW (l : List Int) : ByteArray := strOfNums ((txL l).map fun (d : Nat) => (d : Int))
theorem txL_length (l : List Int) : (txL l).length = l.length := by simp [txL]
theorem txL_get {l : List Int} {j : Nat} {x : Int} (h : l[j]? = some x) : (txL l)[j]? = some (48 + x.toNat) := by simp [txL, h]
theorem txW_size (l : List Int) : (txW l).size = l.length := by unfold txW; rw [strOfNums_size, List.length_map, txL_length]
/-- read back -/
theorem sW_txW {k : Nat} (hk : k ≤ 4) {l : List Int} (h : okW k l) : sW (txW l) = l := by
  unfold sW txW
  rw [bsOf_strOfNums]
  · unfold txL
    rw [List.map_map]
    conv => rhs; rw [← List.map_id l]
    apply List.map_congr_left
    intro x hx
    have := h x hx
    simp
    omega
  · intro x hx
    unfold txL at hx
    obtain ⟨y, hy, rfl⟩ := List.mem_map.1 hx
    have := h y hy
    omega
/-- written again -/
theorem txW_sW {k : Nat} {s : ByteArray} (h : okW k (sW s)) : txW (sW s) = s := by
  unfold txW
  have e : txL (sW s) = bsOf s := by
    unfold txL
    unfold sW at h ⊢
    rw [List.map_map]
    conv => rhs; rw [← List.map_id (bsOf s)]
    apply List.map_congr_left
    intro x hx
    have := h ((x : Int) - 48) (List.mem_map.2 ⟨x, hx, rfl⟩)
    simp
    omega
  rw [e, strOfNums_bsOf]
theorem put_nextB {l : List Nat} {j n x : Nat} (h : l[j]? = some x) (hj : j < n) : (l.take j ++ List.replicate (n - j) 0).set j x = l.take (j + 1) ++ List.replicate (n - (j + 1)) 0 := by
  have hl := (List.getElem?_eq_some_iff.1 h).1
  rw [List.set_append_right _ _ (by rw [List.length_take]; omega), List.length_take, Nat.min_eq_left (by omega), Nat.sub_self, List.take_add_one, h]
  obtain ⟨m, hm⟩ : ∃ m, n - j = m + 1 := ⟨n - j - 1, by omega⟩
  rw [hm, show n - (j + 1) = m by omega, List.replicate_succ]
  simp

/-- a text, and no error -/
def StrOk (w : World) (s : ByteArray) (e : Ending) (w' : World) : Prop := e = .returned (.tuple #[.string s, .nilIface]) ∧ Below w.heap.size w w'
def TextWRel (w : World) (n g : Nat) (l : List Int) (v : Value) (wr : World) : Prop :=
  ∃ j : Nat, j ≤ n ∧ v = .int .i64 (j : Int) ∧ ByteO w.heap.size wr g n ((txL l).take j ++ List.replicate (n - j) 0) ∧ Below w.heap.size w wr
end Go.Proofs.YtgdjnohhofbcnaaDoor
end
section
namespace Go.Proofs.YtgdjnohhofbcnaaDoor
open Go.RowKit Go.Extern.Stop Go.Stop Go.Extern WordM RuleM NatM

/-- the cells as a string -/
def kyW (l : List Int) : ByteArray := strOfNums ((kyL l).map fun (d : Nat) => (d : Int))
theorem kyW_size (l : List Int) : (kyW l).size = l.length := by unfold kyW; rw [strOfNums_size, List.length_map, kyL_length]
theorem kyW_inj {k : Nat} (hk : k ≤ 4) {a b : List Int} (ha : okW k a) (hb : okW k b) (h : kyW a = kyW b) : a = b := by
  apply kyL_inj ha hb
  rw [← bsOf_strOfNums (kyL_lt hk ha), ← bsOf_strOfNums (kyL_lt hk hb)]
  exact congrArg bsOf h
def KeyRel (w : World) (n g : Nat) (l : List Int) (v : Value) (wr : World) : Prop :=
  ∃ j : Nat, j ≤ n ∧ v = .int .i64 (j : Int) ∧ ByteO w.heap.size wr g n ((kyL l).take j ++ List.replicate (n - j) 0) ∧ Below w.heap.size w wr
set_option maxRecDepth 100000 in
set_option maxHeartbeats 4000000 in
theorem gkey_ok (k : Nat) (p : Option Addr) (n c : Nat) (l : List Int) (w : World) (hn : n = l.length) (h : IntV w.heap.size w p c l) (h4 : k ≤ 4) (hn4 : n ≤ 4096) (ho : okW k l) :
    Calls Tryd.prog 43 #[.slice p n c] w (Tells (.string (kyW l)) w) := by
  have hle := h.le
  have hcap := h.cap
  unfold maxLen at hcap
  have hnc : n ≤ c := by omega
  have H := Lib.hid (And.intro h (And.intro ho hn))
  clear h ho hn hle
  have hmk := makeB n (by omega) w
  have ho0 := ByteO.made w n (by omega)
  have hb0 : Below w.heap.size w (w.alloc (.cells (madeCells #[.int .u8 0] n) 5)) := (Below.refl _ _).alloc (Nat.le_refl _) _
  have HO := Lib.hid (And.intro ho0 hb0)
  clear ho0 hb0
  go_enter Tryd.func43, Tryd.ntmps43
  go_wp2_with fail
  clear hmk
  go_loopw [11] (fun v wr => KeyRel w n w.heap.size l v wr) (fun v _ => n - (intOf v).toNat)
  case atStart => exact ⟨0, Nat.zero_le _, rfl, by rw [List.take_zero, List.nil_append, Nat.sub_zero]; exact HO.out.1, HO.out.2⟩
  case round =>
    obtain ⟨j, hj, rfl, ho, hb⟩ := hrel
    obtain ⟨g, hg⟩ : ∃ g, g = w.heap.size := ⟨_, rfl⟩
    have hgB : w.heap.size ≤ g := by omega
    have ho : ByteO w.heap.size wr g n ((kyL l).take j ++ List.replicate (n - j) 0) := by rw [hg]; exact ho
    by_cases hlt : j < n
    · have hnl := H.out.2.2
      obtain ⟨b, off, rfl, hbb, hcc⟩ := (H.out.1.next hb).cell (by rintro rfl; simp at hnl; omega)
      obtain ⟨x, hx⟩ := getI (l := l) (k := j) (by omega)
      have hxo := H.out.2.1 x (List.mem_of_getElem? hx)
      obtain ⟨y, rfl⟩ : ∃ y : Nat, x = (y : Int) := ⟨x.toNat, by omega⟩
      have hy4 : y ≤ 4 := by omega
      have hcx := hcc j _ hx
      have hput := put_nextB (n := n) (kyL_get hx) hlt
      rw [Int.toNat_natCast] at hput
      obtain ⟨xs, hxs⟩ : ∃ xs, (kyL l).take j ++ List.replicate (n - j) 0 = xs := ⟨_, rfl⟩
      have hlx : xs.length = n := by rw [← hxs, List.length_append, List.length_take, kyL_length, List.length_replicate]; omega
      rw [hxs] at ho hput
      have hown : wr.ownsRow w.heap.size 5 1 (.slice (some ⟨g, 0, none⟩) n n) n (cells8 xs) := ho
      rw [hg] at hown
      obtain ⟨z, hz⟩ : ∃ z, xs[j]? = some z := ⟨_, List.getElem?_eq_getElem (by omega)⟩
      have hcz : wr.cell? ⟨w.heap.size, j, none⟩ = some (.int .u8 (z : Int)) := (hown.cellAt j (by omega)).trans (cells8_get hz)
      have hfz : wr.frozen? ⟨w.heap.size, j, none⟩ = false := hown.frozenAt j
      obtain ⟨s1, t1⟩ := hown.stored j (.int .u8 (y : Int))
      have hcs : (cells8 xs).set j (.int .u8 (y : Int)) = cells8 (xs.set j y) := by rw [cells8_set]
      rw [hcs, hput] at s1
      have hb1 : Below w.heap.size w (wr.setCell ⟨w.heap.size, j, none⟩ (.int .u8 (y : Int))) := hb.setCell (p := ⟨w.heap.size, j, none⟩) (Nat.le_refl _) _
      have HS := Lib.hid (And.intro s1 hb1)
      have wy : IntKind.u8.wrap (y : Int) = (y : Int) := IntWalk.u8_in _ (by omega)
      clear ho hown hput hxs s1 t1 hb1 hb hz hx hlx hxo hcs hcc hnl hg hgB
      go_wp2_with fail
      go_roundw
      case rel => exact ⟨j + 1, by omega, by go_num, HS.out.1, HS.out.2⟩
      case measure => simp [intOf]; omega
    · obtain rfl : j = n := by omega
      have he : (kyL l).take j ++ List.replicate (j - j) 0 = kyL l := by
        rw [Nat.sub_self, List.replicate_zero, List.append_nil, H.out.2.2, ← kyL_length, List.take_length]
      rw [he, hg] at ho
      have hown : wr.ownsRow w.heap.size 5 1 (.slice (some ⟨w.heap.size, 0, none⟩) j j) j (cells8 (kyL l)) := ho
      have htl : (kyL l).length = j := by rw [kyL_length, H.out.2.2]
      have hcv := run_convert_bytes_arg (P := Tryd.prog) wr 99 5 Tryd.underlying99 Tryd.underlying5 w.heap.size 0 j j ((kyL l).map fun (b : Nat) => (b : Int)) (by simp [htl]) (fun i hi => by
        rw [Nat.zero_add]
        have hir : i < (kyL l).length := by omega
        rw [hown.cellAt i (by omega), cells8_get (List.getElem?_eq_getElem hir)]
        simp [List.getD_eq_getElem?_getD, hir]) 9 Tryd.underlying9
      have HB := Lib.hid hb
      clear ho hown he htl hb hg hgB
      go_wp2_with fail
      go_ret
      exact ⟨rfl, HB.out⟩
end Go.Proofs.YtgdjnohhofbcnaaDoor
end
section
namespace Go.Proofs.YtgdjnohhofbcnaaDoor
open Go.RowKit Go.Extern.Stop Go.Stop Go.Extern WordM RuleM NatM

theorem IntV.grown {B : Nat} {w w' : World} {p : Option Addr} {c g : Nat} {l : List Int} (h : IntV B w p c l) (hg : w.grownBy w' (some g)) (hp : ∀ b off, p = some ⟨b, off, none⟩ → b ≠ g) : IntV B w' p c l :=
  ⟨h.le, h.cap, h.nil, fun hn => by
    obtain ⟨b, off, he, hlt, hc⟩ := h.cell hn
    exact ⟨b, off, he, hlt, fun j x hx => hg.cell (hc j x hx) (by simp; exact hp b off he)⟩⟩
theorem lawKey : Go.Maps.Keyed Tryd.prog 9 := Go.Maps.string_keyed Tryd.underlying9
theorem zeroInt (w : World) : (zeroValue 3).run Tryd.prog w = .ok (.int .i64 0) w := by kernel_rfl
/-- a key as it is read -/
def kyK (X : List Int) : Lit := .string (kyW X).data.toList
theorem kyK_inj {k : Nat} (hk : k ≤ 4) {a b : List Int} (ha : okW k a) (hb : okW k b) (h : kyK a = kyK b) : a = b := by
  apply kyW_inj hk ha hb
  unfold kyK at h
  have h1 := Lit.string.inj h
  have h2 : (kyW a).data = (kyW b).data := Array.toList_inj.1 h1
  cases ha' : kyW a
  cases hb' : kyW b
  rw [ha', hb'] at h2
  exact congrArg ByteArray.mk h2
theorem kyK_of {X : List Int} (h : X.length ≤ 4096) : keyOf Tryd.prog 9 (.string (kyW X)) = some (kyK X) :=
  Go.WideMaps.keyOf_string_mk Tryd.underlying9 (by rw [kyW_size]; unfold maxLen; omega)
theorem wf_small {j : Nat} (h : j ≤ 9223372036854775807) : (Lit.int .i64 (j : Int)).wf = true := by
  have h1 := Go.RowKit.wrap64_wf (j : Int)
  rwa [show Go.RowKit.wrap64 (j : Int) = (j : Int) by unfold Go.RowKit.wrap64; omega] at h1
/-- what the map holds behind so many rounds -/
structure OrbHeld (K R : Nat) (t l : List Int) (j : Nat) (D : DataW Unit) : Prop where
  isMap : Go.Maps.IsMap D
  there : ∀ i, i < j → Go.Maps.has D (kyK (stepsW K R t i l)) = true ∧ D.atKey (kyK (stepsW K R t i l)) (.lit (.int .i64 0)) = .lit (.int .i64 (i : Int))
  only : ∀ X, okW K X → Go.Maps.has D (kyK X) = true → ∃ i, i < j ∧ X = stepsW K R t i l
  apart : ∀ i i', i < i' → i' < j → stepsW K R t i l ≠ stepsW K R t i' l
theorem OrbHeld.start (K R : Nat) (t l : List Int) : OrbHeld K R t l 0 (.map []) :=
  ⟨Go.Maps.isMap_empty, fun i h => absurd h (Nat.not_lt_zero _), fun X _ h => by simp [Go.Maps.has] at h, fun i i' _ h => absurd h (Nat.not_lt_zero _)⟩
theorem OrbHeld.next {K R : Nat} {t l : List Int} {j : Nat} {D : DataW Unit} (h : OrbHeld K R t l j D) (hk : K ≤ 4) (ho : ∀ i, okW K (stepsW K R t i l)) (hn : ∀ i, i < j → stepsW K R t i l ≠ stepsW K R t j l) :
    OrbHeld K R t l (j + 1) (D.put (kyK (stepsW K R t j l)) (.lit (.int .i64 (j : Int)))) := by
  refine ⟨h.isMap.put _ _, fun i hi => ?_, fun X hX hh => ?_, fun i i' hi hi' => ?_⟩
  · by_cases hij : i = j
    · subst hij
      exact ⟨Go.Maps.has_put_same h.isMap (show Go.WideAt.IsKeyLit (kyK _) from trivial) _, Go.Maps.atKey_put_same h.isMap (show Go.WideAt.IsKeyLit (kyK _) from trivial) _ _⟩
    · have hne : kyK (stepsW K R t i l) ≠ kyK (stepsW K R t j l) := fun e => hn i (by omega) (kyK_inj hk (ho i) (ho j) e)
      rw [Go.Maps.has_put_other hne, Go.Maps.atKey_put_other hne]
      exact h.there i (by omega)
  · by_cases he : X = stepsW K R t j l
    · exact ⟨j, by omega, he⟩
    · have hne : kyK X ≠ kyK (stepsW K R t j l) := fun e => he (kyK_inj hk hX (ho j) e)
      rw [Go.Maps.has_put_other hne] at hh
      obtain ⟨i, hi, hx⟩ := h.only X hX hh
      exact ⟨i, by omega, hx⟩
  · by_cases hij : i' = j
    · subst hij
      exact hn i hi
    · exact h.apart i i' hi (by omega)
/-- the way into a cycle and its length, or too much -/
def OrbPost (w : World) (A : Nat → Addr) (K R : Nat) (t l : List Int) (e : Ending) (w' : World) : Prop :=
  (∃ m p : Nat, IsOrb K R t l m p ∧ m + p ≤ 4096 ∧ e = .returned (.tuple #[.int .i64 (m : Int), .int .i64 (p : Int), .nilIface]) ∧ Below w.heap.size w w') ∨
  ((∀ i j, i < j → j ≤ 4096 → stepsW K R t i l ≠ stepsW K R t j l) ∧ ∃ b, e = .returned (.tuple #[.int .i64 0, .int .i64 0, .iface 61 (.pointer (some ⟨b, 0, none⟩))]) ∧ Chn w' A b [(ringOp, 1)] 4 ∧ Below w.heap.size w w')
def OrbRel (w1 : World) (K R m : Nat) (t l : List Int) (v1 v24 : Value) (wr : World) : Prop :=
  ∃ (j : Nat) (p' : Option Addr) (c' : Nat) (D : DataW Unit), j ≤ 4097 ∧ v24 = .int .i64 (j : Int) ∧ v1 = .slice p' m c' ∧ IntV wr.heap.size wr p' c' (stepsW K R t j l) ∧ (∀ b off, p' = some ⟨b, off, none⟩ → b ≠ w1.heap.size) ∧ wr.ownsMap Tryd.prog 9 (plainElem Tryd.prog 3) w1.heap.size j D ∧ OrbHeld K R t l j D ∧ Below w1.heap.size w1 wr
set_option maxRecDepth 100000 in
set_option maxHeartbeats 8000000 in
theorem gOrbit_ok (K R : Nat) (p q : Option Addr) (n c m d : Nat) (t l : List Int) (w : World) (A : Nat → Addr) (hr : Roots w A) (hn : n = t.length) (hm : m = l.length) (h : IntV w.heap.size w p c t) (h' : IntV w.heap.size w q d l) (ho : OkR K R t) (h0 : 0 < l.length) (h64 : l.length ≤ 64) (hw : okW K l) :
    Calls Tryd.prog 22 #[.agg #[.int .i64 (K : Int), .int .i64 (R : Int), .slice p n c], .slice q m d] w (OrbPost w A K R t l) := by
  have ST := Lib.hid (box_rule w (.int .i64 (K : Int)) (.int .i64 (R : Int)) (.slice p n c))
  have hm0 : 0 < m := by omega
  have hm64 : m ≤ 64 := by omega
  have hsl : ∀ i, (stepsW K R t i l).length = m := fun i => by rw [stepsW_length]; exact hm.symm
  have hso : ∀ i, okW K (stepsW K R t i l) := fun i => stepsW_ok ho i l h0 hw
  have hk4 := ho.k4
  have hmm := @run_makeMap Tryd.prog
  have H := Lib.hid (And.intro hn (And.intro hm (And.intro h (And.intro h' (And.intro ho (And.intro h0 (And.intro hw (And.intro hr (And.intro hsl (And.intro hso (show l.length ≤ 4096 by omega)))))))))))
  clear hn hm h h' ho h0 h64 hw hr hsl hso
  go_enter Tryd.func22, Tryd.ntmps22
  go_upto_region 1 with fail
  obtain ⟨w0, hw0⟩ : ∃ w0, w0 = w.alloc (.cells #[.int .i64 (K : Int), .int .i64 (R : Int), .slice p n c] 24) := ⟨_, rfl⟩
  rw [← hw0]
  obtain ⟨hb0, hE0⟩ := ST.out w0 hw0
  have HE := Lib.hid (And.intro hE0 hb0)
  obtain ⟨_, hc0, hc1, hc2⟩ := hE0.facts
  clear hw0 hE0 hb0
  go_wp2_with fail
  refine (gcheck_ok K R p q n c m d t l w0 H.out.1 H.out.2.1 (H.out.2.2.1.next HE.out.2) (H.out.2.2.2.1.next HE.out.2) H.out.2.2.2.2.1 H.out.2.2.2.2.2.1 H.out.2.2.2.2.2.2.2.2.2.2 H.out.2.2.2.2.2.2.1).mono ?_
  rintro e w1 ⟨rfl, hb1⟩
  have H1 := Lib.hid (And.intro (HE.out.2.trans (hb1.mono HE.out.2.size)) (HE.out.1.next hb1))
  clear hb1 hc0 hc1 hc2
  go_wp2_with fail
  have hmade := World.ownsMap_made w1 Tryd.prog 9 (plainElem (H := Unit) Tryd.prog 3)
  have hb2 : Below w1.heap.size w1 (w1.alloc (.map #[] 0)) := (Below.refl _ _).alloc (Nat.le_refl _) _
  have H2 := Lib.hid (And.intro hmade hb2)
  clear hmade hb2 hmm
  go_loopw [1, 24] (fun v1 v24 wr => OrbRel w1 K R m t l v1 v24 wr) (fun _ v _ => 4097 - (intOf v).toNat)
  case atStart =>
    refine ⟨0, q, d, _, Nat.zero_le _, rfl, rfl, (H.out.2.2.2.1.next H1.out.1).next H2.out.2, ?_, H2.out.1, OrbHeld.start K R t l, H2.out.2⟩
    rintro b off rfl
    obtain ⟨b', off', hp, hlt, _⟩ := H.out.2.2.2.1.cell (by have := H.out.2.2.2.2.2.1; rintro rfl; simp at this)
    obtain ⟨rfl, rfl⟩ : b = b' ∧ off = off' := by simpa using hp
    have := H1.out.1.size
    omega
  case round =>
    obtain ⟨j, p', c', D, hj, rfl, rfl, hv, hap, hown, hD, hb⟩ := hrel
    have hbw := H1.out.1.trans (hb.mono H1.out.1.size)
    by_cases hlt : j < 4097
    · have hgk := gkey_ok K p' m c' (stepsW K R t j l) wr (H.out.2.2.2.2.2.2.2.2.1 j).symm hv hk4 (by omega) (H.out.2.2.2.2.2.2.2.2.2.1 j)
      have HR := Lib.hid (And.intro hv (And.intro hap (And.intro hown (And.intro hD (And.intro hb hbw)))))
      have HGK := Lib.hid hgk
      clear hv hap hown hD hb hbw hgk
      go_upto_region 11 with fail
      refine HGK.out.mono ?_
      rintro e w2 ⟨rfl, hb2⟩
      have hown2 := HR.out.2.2.1.kept (row := none) ⟨hb2.os, hb2.tape, hb2.output, hb2.size, fun k hk _ => hb2.block k hk⟩ (by simp)
      have hkey := kyK_of (X := stepsW K R t j l) (by have := H.out.2.2.2.2.2.2.2.2.1 j; omega)
      have H3 := Lib.hid (And.intro (HR.out.1.next hb2) (And.intro (HR.out.2.2.2.2.1.trans (hb2.mono HR.out.2.2.2.2.1.size)) (HR.out.2.2.2.2.2.trans (hb2.mono HR.out.2.2.2.2.2.size))))
      clear hb2
      by_cases hrep : ∃ i, i < j ∧ stepsW K R t i l = stepsW K R t j l
      · obtain ⟨i, hi, he⟩ := hrep
        have hth := HR.out.2.2.2.1.there i hi
        rw [he] at hth
        have hhas := hth.1
        have HAT := Lib.hid (And.intro hth.2 he)
        clear hth he
        go_wp2_with (at_lookup; refine wpList_lookup_own_ok_int _ rfl _ _ 68 rfl 9 3 .i64 lawKey Tryd.underlying68 Tryd.underlying3 (zeroInt _) w1.heap.size j D rfl hown2 _ _ rfl hkey ?_; intro cv hat hwc; rw [hhas]; have hci : cv = (i : Int) := (by have := HAT.out.1.symm.trans hat; simpa using this.symm); clear hat hwc)
        go_ret3
        refine Or.inl ⟨i, j - i, ⟨by omega, by rw [show i + (j - i) = j by omega]; exact HAT.out.2.symm, fun a b hab hb' => HR.out.2.2.2.1.apart a b hab (by omega)⟩, by omega, ?_, H3.out.2.2⟩
        rw [show ((j - i : Nat) : Int) = (j : Int) - (i : Int) by omega]
        rfl
      · have hne : ∀ i, i < j → stepsW K R t i l ≠ stepsW K R t j l := fun i hi he => hrep ⟨i, hi, he⟩
        have hhas : Go.Maps.has D (kyK (stepsW K R t j l)) = false := by
          cases hh : Go.Maps.has D (kyK (stepsW K R t j l)) with
          | false => rfl
          | true =>
            obtain ⟨i, hi, he⟩ := HR.out.2.2.2.1.only _ (H.out.2.2.2.2.2.2.2.2.2.1 j) hh
            exact absurd he.symm (hne i hi)
        have HNE := Lib.hid hne
        clear hrep hne
        go_upto_region 15 with (first | (at_lookup; refine wpList_lookup_own_ok_int _ rfl _ _ 68 rfl 9 3 .i64 lawKey Tryd.underlying68 Tryd.underlying3 (zeroInt _) w1.heap.size j D rfl hown2 _ _ rfl hkey ?_; intro cv hat hwc; rw [hhas]; clear hat hwc) | (at_mapUpdate; refine wpList_mapUpdate_own _ rfl _ _ _ 68 rfl 9 3 lawKey Tryd.underlying68 _ w1.heap.size j D rfl hown2 (by unfold maxLen; omega) _ _ _ rfl rfl hkey _ [] (plainElem_int Tryd.underlying3 (wf_small (by omega))) ?_; intro w3 hown3 hgrow3))
        have hb3 : Below w1.heap.size w1 w3 := H3.out.2.1.grown hgrow3 H3.out.2.1.size (fun j hj => by cases hj; exact Nat.le_refl _)
        have hv3 := (H3.out.1.grown hgrow3 HR.out.2.1).mono hgrow3.size
        have H4 := Lib.hid (And.intro hv3 (And.intro hown3 (And.intro hb3 (H1.out.1.trans (hb3.mono H1.out.1.size)))))
        obtain ⟨_, hc0, hc1, hc2⟩ := (H1.out.2.next hb3).facts
        clear hb3 hv3 hown3 hgrow3 hown2 hkey hhas
        go_wp2_with fail
        refine (gstep_ok K R p p' n c m c' t (stepsW K R t j l) w3 H.out.1 (H.out.2.2.2.2.2.2.2.2.1 j).symm (H.out.2.2.1.next H4.out.2.2.2) H4.out.1 H.out.2.2.2.2.1 hm0 (by omega) (H.out.2.2.2.2.2.2.2.2.2.1 j)).mono ?_
        rintro e w4 ⟨p4, c4, rfl, ho4, hb4⟩
        rw [ringW_length, H.out.2.2.2.2.2.2.2.2.1 j]
        rw [← stepsW_succ] at ho4
        have hown4 := H4.out.2.1.kept (row := none) ⟨hb4.os, hb4.tape, hb4.output, hb4.size, fun k hk _ => hb4.block k hk⟩ (by simp)
        have hB := H4.out.2.1.lt
        have H5 := Lib.hid (And.intro ho4.toV (And.intro (ho4.apart hB) (And.intro hown4 (H4.out.2.2.1.trans (hb4.mono H4.out.2.2.1.size)))))
        clear ho4 hb4 hown4 hB hc0 hc1 hc2
        go_wp2_with fail
        go_roundw
        case rel => exact ⟨j + 1, p4, c4, _, by omega, by go_num, rfl, H5.out.1, H5.out.2.1, H5.out.2.2.1, HR.out.2.2.2.1.next hk4 H.out.2.2.2.2.2.2.2.2.2.1 HNE.out, H5.out.2.2.2⟩
        case measure => simp [intOf]; omega
    · obtain rfl : j = 4097 := by omega
      have HF := Lib.hid (And.intro hD.apart hbw)
      clear hv hap hown hD hb hbw
      go_wp2_with fail
      refine (new_at ringOp 1 4 wr A (H.out.2.2.2.2.2.2.2.1.below HF.out.2) (by decide)).mono ?_
      rintro e w2 ⟨b, rfl, hl, hb2⟩
      have H3 := Lib.hid (And.intro (Chn.one hl) (HF.out.2.trans (hb2.mono HF.out.2.size)))
      clear hl hb2
      go_wp2_with fail
      go_ret3
      exact Or.inr ⟨fun i j hij hj4 => HF.out.1 i j hij (by omega), b, rfl, H3.out.1, H3.out.2⟩
end Go.Proofs.YtgdjnohhofbcnaaDoor
end
section
namespace Go.Proofs
open Go.Shelf
def Tryd.lays264_ren : Go.Shelf.Ren := ⟨fun | 264 => 79 | n => n, fun | 53 => 129 | 46 => 100 | n => n, fun | n => n⟩
theorem Tryd.lays264 : Go.Proofs.Lays.n264 Tryd.prog Tryd.lays264_ren := {
  mixed := by kernel_rfl
  f264 := Tryd.func79.trans (congrArg some (by kernel_rfl))
  t46 := Tryd.underlying100
  a46 := Tryd.isAgg100
  z46 := Tryd.sizeOf100
  v46 := Tryd.zeroValue100
  t53 := Tryd.underlying129
  a53 := Tryd.isAgg129
  z53 := Tryd.sizeOf129
  v53 := Tryd.zeroValue129 }
open Go.RowKit Go.Lib in
theorem Tryd.bits_Mul64 (x y : Nat) (hx : x < 18446744073709551616) (hy : y < 18446744073709551616) (w : World) :
    Calls Tryd.prog 79 #[.int .u64 x, .int .u64 y] w fun e w' => e = .returned (.tuple #[.int .u64 ((x * y / 18446744073709551616 : Nat) : Int), .int .u64 ((x * y % 18446744073709551616 : Nat) : Int)]) ∧ w' = w := Any.bits_Mul64 Tryd.lays264 x y hx hy w
def Tryd.lays212_ren : Go.Shelf.Ren := ⟨fun | 212 => 67 | 263 => 78 | 264 => 79 | n => n, fun | 46 => 100 | 51 => 126 | 146 => 127 | 53 => 129 | 148 => 130 | n => n, fun | n => n⟩
theorem Tryd.lays212 : Go.Proofs.Lays.n212 Tryd.prog Tryd.lays212_ren := {
  mixed := by kernel_rfl
  f212 := Tryd.func67.trans (congrArg some (by kernel_rfl))
  f263 := Tryd.func78.trans (congrArg some (by kernel_rfl))
  f264 := Tryd.func79.trans (congrArg some (by kernel_rfl))
  t46 := Tryd.underlying100
  a46 := Tryd.isAgg100
  z46 := Tryd.sizeOf100
  v46 := Tryd.zeroValue100
  t51 := Tryd.underlying126
  a51 := Tryd.isAgg126
  z51 := Tryd.sizeOf126
  v51 := Tryd.zeroValue126
  t53 := Tryd.underlying129
  a53 := Tryd.isAgg129
  z53 := Tryd.sizeOf129
  v53 := Tryd.zeroValue129
  t146 := Tryd.underlying127
  a146 := Tryd.isAgg127
  z146 := Tryd.sizeOf127
  v146 := Tryd.zeroValue127
  t148 := Tryd.underlying130
  a148 := Tryd.isAgg130
  z148 := Tryd.sizeOf130
  v148 := Tryd.zeroValue130 }
open Go.RowKit Go.Lib in
theorem Tryd.bits_Mul (x y : Nat) (hx : x < 18446744073709551616) (hy : y < 18446744073709551616) (w : World) :
    Calls Tryd.prog 67 #[.int .u64 x, .int .u64 y] w fun e w' => e = .returned (.tuple #[.int .u64 ((x * y / 18446744073709551616 : Nat) : Int), .int .u64 ((x * y % 18446744073709551616 : Nat) : Int)]) ∧ w' = w := Any.bits_Mul Tryd.lays212 x y hx hy w
def Tryd.laysNm215_ren : Go.Shelf.Ren := ⟨fun | 15 => 37 | n => n, fun | 22 => 22 | 3 => 3 | 4 => 4 | n => n, fun | n => n⟩
theorem Tryd.laysNm215 : Go.Proofs.Lays2.n15 Tryd.prog Tryd.laysNm215_ren := {
  mixed := by kernel_rfl
  f15 := Tryd.func37.trans (congrArg some (by kernel_rfl))
  t3 := Tryd.underlying3
  a3 := Tryd.isAgg3
  z3 := Tryd.sizeOf3
  v3 := Tryd.zeroValue3
  t4 := Tryd.underlying4
  a4 := Tryd.isAgg4
  z4 := Tryd.sizeOf4
  v4 := Tryd.zeroValue4
  t22 := Tryd.underlying22
  a22 := Tryd.isAgg22
  z22 := Tryd.sizeOf22
  v22 := Tryd.zeroValue22
  i3 := by kernel_rfl }
open Go.RowKit Go.Lib in
theorem Tryd.slices_Clone_int (b off n c : Nat) (zs : List Int) (w : World) (hz : n ≤ zs.length) (hbig : n * 8 ≤ 140737488355328) (hc : ∀ j, j < zs.length → w.cell? ⟨b, off + j, none⟩ = some (.int .i64 (zs.getD j 0))) :
    Calls Tryd.prog 37 #[.slice (some ⟨b, off, none⟩) n c] w fun e w' => ∃ v', e = .returned v' ∧ w'.ownsRow w.heap.size 3 1 v' n ((zs.take n).map (Value.int .i64)) ∧ v' ≠ .slice none 0 0 ∧ Below w.heap.size w w' := Any.slices_Clone_int Tryd.laysNm215 b off n c zs w hz hbig hc
open Go.RowKit Go.Lib in
theorem Tryd.slices_Clone_int_nil (n c : Nat) (w : World) :
    Calls Tryd.prog 37 #[.slice none n c] w fun e w' => e = .returned (.slice none 0 0) ∧ w' = w := Any.slices_Clone_int_nil Tryd.laysNm215 n c w
open Go.RowKit Go.Lib in
theorem Tryd.slices_Clone_int_zero (a : Addr) (c : Nat) (w : World) :
    Calls Tryd.prog 37 #[.slice (some a) 0 c] w fun e w' => ∃ v', e = .returned v' ∧ w'.ownsRow w.heap.size 3 1 v' 0 [] ∧ v' ≠ .slice none 0 0 ∧ Below w.heap.size w w' := Any.slices_Clone_int_zero Tryd.laysNm215 a c w
def Tryd.laysNm237_ren : Go.Shelf.Ren := ⟨fun | 37 => 80 | n => n, fun | 3 => 3 | 4 => 4 | n => n, fun | n => n⟩
theorem Tryd.laysNm237 : Go.Proofs.Lays2.n37 Tryd.prog Tryd.laysNm237_ren := {
  mixed := by kernel_rfl
  f37 := Tryd.func80.trans (congrArg some (by kernel_rfl))
  t3 := Tryd.underlying3
  a3 := Tryd.isAgg3
  z3 := Tryd.sizeOf3
  v3 := Tryd.zeroValue3
  t4 := Tryd.underlying4
  a4 := Tryd.isAgg4
  z4 := Tryd.sizeOf4
  v4 := Tryd.zeroValue4 }
open Go.RowKit Go.Lib in
theorem Tryd.cmp_isNaN_int2 (x : Int) (w : World) :
    Calls Tryd.prog 80 #[.int .i64 x] w fun e w' => e = .returned (.bool false) ∧ w' = w := Any.cmp_isNaN_int2 Tryd.laysNm237 x w
def Tryd.laysSlE041_f37_ren : Go.Shelf.Ren := ⟨fun | 41 => 37 | n => n, fun | 22 => 22 | 23 => 3 | 4 => 4 | n => n, fun | n => n⟩
theorem Tryd.laysSlE041_f37 : Go.Proofs.SlLaysE0.n41 Tryd.prog Tryd.laysSlE041_f37_ren := {
  mixed := by kernel_rfl
  f41 := ⟨Tryd.f37.name, by decide, Tryd.func37.trans (congrArg some (by kernel_rfl))⟩
  t4 := Tryd.underlying4
  a4 := Tryd.isAgg4
  z4 := Tryd.sizeOf4
  v4 := Tryd.zeroValue4
  t22 := Tryd.underlying22
  a22 := Tryd.isAgg22
  z22 := Tryd.sizeOf22
  v22 := Tryd.zeroValue22 }
open Go.RowKit Go.Lib in
theorem Tryd.slices_Clone (i0 : TypeInfo) (z : Value) (size bytes : Nat) (hi : Tryd.prog.info? 3 = some i0) (hz0 : i0.zero = some z) (hz1 : i0.size = size) (hz2 : i0.bytes = bytes) (hzs : z.cells.size = size) (hsz : 0 < size) (z23 : ∀ w, (Go.sizeOf 3).run Tryd.prog w = .ok size w) (b off n c : Nat) (news : List Value) (w : World) (hl : news.length = n * size) (hn : n ≤ maxLen) (hbig : n * bytes ≤ 140737488355328) (hc : ∀ j u, news[j]? = some u → w.cell? ⟨b, off + j, none⟩ = some u) (h1 : ∀ u ∈ news, u.oneCell' = true) :
    Calls Tryd.prog 37 #[.slice (some ⟨b, off, none⟩) n c] w fun e w' => ∃ v', e = .returned v' ∧ w'.ownsRow w.heap.size 3 size v' n news ∧ v' ≠ .slice none 0 0 ∧ Below w.heap.size w w' := AnyE.slices_Clone Tryd.laysSlE041_f37 i0 z size bytes hi hz0 hz1 hz2 hzs hsz z23 b off n c news w hl hn hbig hc h1
open Go.RowKit Go.Lib in
theorem Tryd.slices_Clone_nil (n c : Nat) (w : World) :
    Calls Tryd.prog 37 #[.slice none n c] w fun e w' => e = .returned (.slice none 0 0) ∧ w' = w := AnyE.slices_Clone_nil Tryd.laysSlE041_f37 n c w
end Go.Proofs
end
section
namespace Go.Proofs.YtgdjnohhofbcnaaDoor
open Go.RowKit WordM

theorem sizeI : (Tryd.prog.info? 3).map (·.size) = some 1 := by kernel_rfl
theorem mulU (L m T : Nat) (hT : L * m = T) (hT2 : T ≤ 4611686018427387904) (hL : L < 18446744073709551616) (hm : m < 18446744073709551616) (w : World) :
    Calls Tryd.prog 67 #[.int .u64 (L : Int), .int .u64 (m : Int)] w fun e w' => e = .returned (.tuple #[.int .u64 0, .int .u64 (T : Int)]) ∧ w = w' := by
  refine (Tryd.bits_Mul L m hL hm w).mono fun e w' ⟨h1, h2⟩ => ⟨?_, h2.symm⟩
  rw [h1, hT, Nat.div_eq_of_lt (by omega), Nat.mod_eq_of_lt (by omega)]
  rfl
theorem cI_one {l : List Int} {v : Value} (h : v ∈ cI l) : v.oneCell' = true := by
  unfold cI at h
  obtain ⟨x, _, rfl⟩ := List.mem_map.1 h
  rfl
/-- the first k of them, the rest 0 -/
def fillW (X : List Int) (k : Nat) : List Int := X.take k ++ List.replicate (X.length - k) 0
theorem fillW_length {X : List Int} {k : Nat} (hk : k ≤ X.length) : (fillW X k).length = X.length := by simp [fillW]; omega
theorem fillW_zero (X : List Int) : fillW X 0 = List.replicate X.length 0 := by simp [fillW]
theorem fillW_all (X : List Int) : fillW X X.length = X := by simp [fillW]
theorem splice_fill {X cs : List Int} {k : Nat} (hk : k + cs.length ≤ X.length) (hcs : ∀ j, j < cs.length → cs[j]? = X[k + j]?) : splice (cI (fillW X k)) k (cI cs) = cI (fillW X (k + cs.length)) := by
  have e : cs = (X.drop k).take cs.length := by
    apply List.ext_getElem?
    intro j
    rw [List.getElem?_take, List.getElem?_drop]
    by_cases hj : j < cs.length
    · rw [if_pos hj, hcs j hj]
    · rw [if_neg hj, List.getElem?_eq_none (by omega)]
  have e2 : X.take (k + cs.length) = X.take k ++ cs := by
    rw [List.take_add]
    congr 1
    exact e.symm
  unfold splice fillW
  rw [e2]
  simp only [cI_app]
  have hl : (cI (X.take k)).length = k := by rw [cI_length, List.length_take]; omega
  rw [List.take_append_of_le_length (by rw [hl]; exact Nat.le_refl _), List.take_of_length_le (by rw [hl]; exact Nat.le_refl _), cI_length, List.drop_append, hl]
  have h0 : (cI (X.take k)).drop (k + cs.length) = [] := List.drop_eq_nil_of_le (by omega)
  rw [h0, List.nil_append, List.append_assoc]
  congr 2
  unfold cI
  rw [← List.map_drop, List.drop_replicate]
  congr 2
  omega
theorem times_shift {l : List Int} {m k j : Nat} (hd : l.length ∣ k) (hj : k + j < m * l.length) : (timesW l m)[j]? = (timesW l m)[k + j]? := by
  rw [timesW_get l m _ hj, timesW_get l m _ (by omega)]
  congr 1
  obtain ⟨q, rfl⟩ := hd
  unfold F
  rw [Nat.mul_add_mod]
theorem times_front {l : List Int} {m j : Nat} (hj : j < l.length) (hm : 1 ≤ m) : l[j]? = (timesW l m)[0 + j]? := by
  rw [Nat.zero_add, timesW_get l m _ (by have := Nat.mul_le_mul_right l.length hm; omega), F_get hj]
/-- block g is a whole list of ints -/
def BlockI (w : World) (g : Nat) (l : List Int) : Prop := w.heap[g]? = some (.cells (cI l).toArray 3 (0, 0))
theorem BlockI.eq {w : World} {g : Nat} {l : List Int} (h : BlockI w g l) : w.heap[g]? = some (.cells (cI l).toArray 3 (0, 0)) := h
theorem BlockI.cell {w : World} {g : Nat} {l : List Int} (h : BlockI w g l) {j : Nat} {x : Int} (hx : l[j]? = some x) : w.cell? ⟨g, j, none⟩ = some (.int .i64 x) := by
  rw [cell_of_row w g j _ _ _ h, List.getElem?_toArray]
  exact cI_get hx
def RepRel (w : World) (l X : List Int) (g : Nat) (v : Value) (wr : World) : Prop :=
  ∃ k : Nat, k ≤ X.length ∧ (0 < X.length → 0 < k) ∧ l.length ∣ k ∧ v = .int .i64 (k : Int) ∧ BlockI wr g (fillW X k) ∧ Below w.heap.size w wr

set_option maxRecDepth 100000 in
set_option maxHeartbeats 4000000 in
theorem repeatI (p : Option Addr) (n c m : Nat) (l : List Int) (w : World) (hn : n = l.length) (h : IntV w.heap.size w p c l) (hm : m ≤ 9223372036854775807) (hT : n * m ≤ 1000000) :
    Calls Tryd.prog 46 #[.slice p n c, .int .i64 (m : Int)] w (IntPost w (timesW l m)) := by
  have hle := h.le
  have hcap := h.cap
  unfold maxLen at hcap
  have hnc : n ≤ c := by omega
  obtain ⟨T, hTe⟩ : ∃ T, n * m = T := ⟨_, rfl⟩
  have hTl : T ≤ 1000000 := by omega
  have hX : (timesW l m).length = T := by rw [timesW_length, ← hn, Nat.mul_comm]; exact hTe
  have hmul := mulU n m T hTe (by omega) (by omega) (by omega) w
  have H := Lib.hid (And.intro h (And.intro hn (And.intro hTe hX)))
  have hmk := makeI T (by omega) w
  have HM := Lib.hid hmul
  have hd1 : decide ((m : Int) < 0) = false := by rw [decide_eq_false_iff_not]; omega
  have hd2 : decide ((9223372036854775807 : Int) < (T : Int)) = false := by rw [decide_eq_false_iff_not]; omega
  clear h hn hT hTe hX hmul hle
  go_enter Tryd.func46, Tryd.ntmps46
  go_wp2_with fail
  refine HM.out.mono ?_
  rintro e w' ⟨rfl, rfl⟩
  have hB1 : Below w.heap.size w (w.alloc (.cells (madeCells #[.int .i64 0] T) 3)) := (Below.refl _ _).alloc (Nat.le_refl _) _
  have HB1 := Lib.hid hB1
  have hh : BlockI (w.alloc (.cells (madeCells #[.int .i64 0] T) 3)) w.heap.size (fillW (timesW l m) 0) := by
    unfold BlockI
    rw [heap_newN, fillW_zero, H.out.2.2.2]
    congr 2
    rw [← Array.toList_inj, madeI_list, List.toList_toArray]
    unfold cI
    rw [List.map_replicate]
  have HHH := Lib.hid hh
  obtain ⟨k0, hk0⟩ : ∃ k0, k0 = Nat.min n T := ⟨_, rfl⟩
  have hk0c : k0 = 0 ∧ T = 0 ∨ k0 = n ∧ 1 ≤ m := by
    rcases Nat.eq_zero_or_pos m with h0 | h0
    · left
      have : T = 0 := by rw [← H.out.2.2.1, h0, Nat.mul_zero]
      exact ⟨by rw [hk0, this]; exact Nat.min_eq_right (Nat.zero_le _), this⟩
    · right
      refine ⟨?_, h0⟩
      have : n * 1 ≤ n * m := Nat.mul_le_mul_left _ h0
      rw [hk0]
      exact Nat.min_eq_left (by have := H.out.2.2.1; omega)
  have HK := Lib.hid (And.intro hk0 hk0c)
  have hk0n : k0 ≤ n := by rw [hk0]; exact Nat.min_le_left _ _
  have hk0T : k0 ≤ T := by rw [hk0]; exact Nat.min_le_right _ _
  clear hB1 hh hk0 hk0c
  have hh1 : ¬ ((0 : Int) < 0) := by omega
  go_wp2_with (with_reducible refine wpList_copy_splice rfl (.tmp 31) (.tmp 32) 22 22 rfl 3 Tryd.underlying22 sizeI (some ⟨w.heap.size, 0, none⟩) p T T n c rfl rfl w.heap.size 0 (cI (fillW (timesW l m) 0)) 3 (BlockI.eq HHH.out) (cI (l.take k0)) ?k1 ?k2 ?k3 ?k4 w.heap.size w HB1.out (Nat.le_refl _) ?_)
  case k1 => rw [cI_length, List.length_take, ← H.out.2.1, Nat.min_eq_left hk0n]; exact HK.out.1
  case k2 =>
    intro hpos
    rw [cI_length, List.length_take] at hpos
    obtain ⟨b, off, rfl, hb, hc⟩ := H.out.1.cell (by rintro rfl; simp at hpos)
    refine ⟨_, rfl, fun j v hv => ?_⟩
    rw [add_off]
    unfold cI at hv
    rw [List.getElem?_map] at hv
    obtain ⟨x, hx, rfl⟩ := Option.map_eq_some_iff.1 hv
    rw [List.getElem?_take] at hx
    split at hx
    · exact (HB1.out.cell (p := ⟨b, off + j, none⟩) hb).trans (hc j x hx)
    · cases hx
  case k3 => rw [cI_length, cI_length, List.length_take, fillW_length (Nat.zero_le _), H.out.2.2.2]; have := H.out.2.1; omega
  case k4 =>
    intro v hv
    unfold cI at hv
    obtain ⟨x, _, rfl⟩ := List.mem_map.1 hv
    rfl
  intro w1 hw1 hb1
  have hlk : (l.take k0).length = k0 := by rw [List.length_take, ← H.out.2.1]; omega
  have hlk2 : (cI (l.take k0)).length = k0 := by rw [cI_length, hlk]
  have hw2 : BlockI w1 w.heap.size (fillW (timesW l m) k0) := by
    have h := hw1.out
    rw [splice_fill (X := timesW l m) (k := 0) (cs := l.take k0) (by rw [hlk, H.out.2.2.2]; omega) (fun j hj => ?_), hlk, Nat.zero_add] at h
    · exact h
    · rw [hlk] at hj
      rw [List.getElem?_take, if_pos hj]
      rcases HK.out.2 with ⟨h1, _⟩ | ⟨h1, h2⟩
      · omega
      · exact times_front (by have := H.out.2.1; omega) h2
  have HW := Lib.hid (And.intro hw2 hb1)
  clear hw1 hb1 hlk hw2 hmk HB1 HHH
  rw [hlk2]
  clear hlk2
  go_wp2_with fail
  go_loopw [8] (fun v wr => RepRel w l (timesW l m) w.heap.size v wr) (fun v _ => T - (intOf v).toNat)
  case atStart =>
    refine ⟨k0, by rw [H.out.2.2.2]; exact hk0T, ?_, ?_, rfl, HW.out.1, HW.out.2⟩
    · intro hpos
      rw [H.out.2.2.2] at hpos
      rcases HK.out.2 with ⟨h1, h2⟩ | ⟨h1, h2⟩
      · omega
      · rcases Nat.eq_zero_or_pos n with h3 | h3
        · have := H.out.2.2.1; rw [h3, Nat.zero_mul] at this; omega
        · omega
    · rcases HK.out.2 with ⟨h1, h2⟩ | ⟨h1, h2⟩
      · rw [h1]; exact ⟨0, rfl⟩
      · rw [h1, H.out.2.1]; exact Nat.dvd_refl _
  case round =>
    obtain ⟨k, hk, hk0, hd, rfl, hbl, hb⟩ := hrel
    have hkT : k ≤ T := by rw [H.out.2.2.2] at hk; exact hk
    by_cases hlt : k < T
    · have hkp : 0 < k := hk0 (by rw [H.out.2.2.2]; omega)
      have HR := Lib.hid (And.intro hd (And.intro hbl hb))
      have hkX : ∃ kk, kk = Nat.min k (T - k) := ⟨_, rfl⟩
      obtain ⟨kk, hkk⟩ := hkX
      have hkk1 : kk ≤ k := by rw [hkk]; exact Nat.min_le_left _ _
      have hkk2 : k + kk ≤ T := by have : kk ≤ T - k := by rw [hkk]; exact Nat.min_le_right _ _
                                   omega
      have hkk3 : 0 < kk := by rw [hkk]; exact Nat.lt_min.2 ⟨hkp, by omega⟩
      have hkk4 : k + kk = T ∨ kk = k := by
        rcases Nat.le_total k (T - k) with h1 | h1
        · right; rw [hkk]; exact Nat.min_eq_left h1
        · left; have : kk = T - k := by rw [hkk]; exact Nat.min_eq_right h1
          omega
      have hcl : (cI ((timesW l m).take kk)).length = kk := by rw [cI_length, List.length_take, H.out.2.2.2]; omega
      have hcl2 : ((timesW l m).take kk).length = kk := by rw [← cI_length, hcl]
      have hspl : splice (cI (fillW (timesW l m) k)) k (cI ((timesW l m).take kk)) = cI (fillW (timesW l m) (k + kk)) := by
        have := splice_fill (X := timesW l m) (k := k) (cs := (timesW l m).take kk) (by rw [hcl2, H.out.2.2.2]; exact hkk2) (fun j hj => by
          rw [hcl2] at hj
          rw [List.getElem?_take, if_pos hj]
          exact times_shift HR.out.1 (by rw [← timesW_length, H.out.2.2.2]; omega))
        rwa [hcl2] at this
      have hsrc : ∀ j v, (cI ((timesW l m).take kk))[j]? = some v → wr.cell? ⟨w.heap.size, j, none⟩ = some v := fun j v hv => by
        unfold cI at hv
        rw [List.getElem?_map] at hv
        obtain ⟨x, hx, rfl⟩ := Option.map_eq_some_iff.1 hv
        rw [List.getElem?_take] at hx
        split at hx
        · rename_i hj
          refine HR.out.2.1.cell ?_
          unfold fillW
          rw [List.getElem?_append_left (by rw [List.length_take, H.out.2.2.2]; omega), List.getElem?_take, if_pos (by omega)]
          exact hx
        · cases hx
      have hlenf : (cI (fillW (timesW l m) k)).length = T := by rw [cI_length, fillW_length (by rw [H.out.2.2.2]; exact hkT), H.out.2.2.2]
      have HZ := Lib.hid (And.intro hcl (And.intro hspl (And.intro hsrc (And.intro hlenf hkk))))
      have hi0 : (0 : Int) ≤ (k : Int) := by omega
      have hi1 : (k : Int) ≤ (T : Int) := by omega
      have hkT2 : ¬ T = k := by omega
      have hwk : IntKind.i64.wrap ((k : Int) + (kk : Int)) = (k : Int) + (kk : Int) := by rw [IntWalk.i64_in _ (by omega)]
      clear hd hbl hb hk0 hk hcl hcl2 hspl hsrc hlenf hkk
      go_wp2_with fail
      go_region_law ((refine step_copy_splice rfl (.tmp 41) (.tmp 44) 22 22 rfl 3 Tryd.underlying22 sizeI (some ⟨w.heap.size, k, none⟩) (some ⟨w.heap.size, 0, none⟩) (T - k) (T - k) k T (by simp [Act.eval, Act.put]) (by simp [Act.eval, Act.put]) w.heap.size k (cI (fillW (timesW l m) k)) 3 (BlockI.eq HR.out.2.1) (cI ((timesW l m).take kk)) (by rw [HZ.out.1]; exact HZ.out.2.2.2.2) (fun _ => ⟨rfl, _, rfl, fun j v hv => by rw [add_off, Nat.zero_add]; exact HZ.out.2.2.1 j v hv⟩) (by rw [HZ.out.1, HZ.out.2.2.2.1]; exact hkk2) (fun v hv => cI_one hv) w.heap.size w (by repeat' (first | exact HR.out.2.2 | refine Below.drew ?_ | refine below_drewN ?_ _)) (Nat.le_refl _) ?_; intro w2 hw2 hb2))
      all_goals
        have hbk : BlockI w2 w.heap.size (fillW (timesW l m) (k + kk)) := by
          have h := hw2.out
          rw [HZ.out.2.1] at h
          exact h
        have HF := Lib.hid (And.intro hbk hb2)
        clear hw2 hb2 hbk
        rw [HZ.out.1]
        simp only [List.getElem_toArray, List.getElem_cons_succ, List.getElem_cons_zero, hwk]
        go_frame
        go_wp2_with fail
        go_roundw
        case rel =>
          refine ⟨k + kk, by rw [H.out.2.2.2]; exact hkk2, fun _ => by omega, ?_, by go_num, HF.out.1, HF.out.2⟩
          rcases hkk4 with h1 | h1
          · rw [h1, ← H.out.2.2.2, timesW_length]
            exact Nat.dvd_mul_left _ _
          · rw [h1]
            exact Nat.dvd_add HR.out.1 HR.out.1
        case measure => simp [intOf]; omega
    · obtain rfl : k = T := by omega
      have he : fillW (timesW l m) k = timesW l m := by rw [← H.out.2.2.2, fillW_all]
      rw [he] at hbl
      have hO := IntO.of_block (base := w.heap.size) (Nat.le_refl _) (by rw [H.out.2.2.2]; unfold maxLen; omega) hbl
      rw [H.out.2.2.2] at hO
      have HF := Lib.hid (And.intro hO hb)
      clear hd hbl hb hk0 hk he hO
      go_wp2_with fail
      go_ret
      exact ⟨_, _, by rw [H.out.2.2.2]; rfl, HF.out.1, HF.out.2⟩
end Go.Proofs.YtgdjnohhofbcnaaDoor
end
section
namespace Go.Proofs.YtgdjnohhofbcnaaDoor
open Go.RowKit Go.Extern.Stop Go.Stop Go.Extern WordM NatM

set_option maxRecDepth 100000 in
set_option maxHeartbeats 4000000 in
theorem times_ok (p : Option Addr) (n c m : Nat) (l : List Int) (w : World) (hn : n = l.length) (h : IntV w.heap.size w p c l) (hm : m ≤ 9223372036854775807) (hT : n = 0 ∨ m ≤ 4096 / n) :
    Calls Tryd.prog 25 #[.slice p n c, .int .i64 (m : Int)] w (IntOk w (timesW l m)) := by
  have hle := h.le
  have hcap := h.cap
  unfold maxLen at hcap
  have hnm : n * m ≤ 1000000 := by
    rcases hT with h0 | h0
    · rw [h0, Nat.zero_mul]; omega
    · have := Nat.mul_le_mul_left n h0
      have := Nat.mul_div_le 4096 n
      omega
  have hrep := repeatI p n c m l w hn h hm hnm
  have HR := Lib.hid hrep
  clear hrep h hn hle hnm
  rcases Nat.eq_zero_or_pos n with h0 | h0
  · subst h0
    have hd0 : decide ((0 : Int) < 0) = false := by decide
    go_enter Tryd.func25, Tryd.ntmps25
    go_wp2_with fail
    refine HR.out.mono ?_
    rintro e w1 ⟨p1, c1, rfl, ho1, hb1⟩
    have HO := Lib.hid (And.intro ho1 hb1)
    clear ho1 hb1
    go_wp2_with fail
    go_ret2
    exact ⟨p1, c1, rfl, HO.out.1, HO.out.2⟩
  · have hmq : m ≤ 4096 / n := by omega
    obtain ⟨q, hq⟩ : ∃ q, 4096 / n = q := ⟨_, rfl⟩
    have hq4 : q ≤ 4096 := by rw [← hq]; exact Nat.div_le_self _ _
    have hqi : (4096 : Int) / (n : Int) = (q : Int) := by rw [← hq]; rfl
    have hqi2 : (4096 : Int).tdiv (n : Int) = (q : Int) := by rw [Int.tdiv_eq_ediv_of_nonneg (by omega), hqi]
    have hmq2 : ¬ ((q : Int) < (m : Int)) := by omega
    have hmq3 : decide ((q : Int) < (m : Int)) = false := by rw [decide_eq_false_iff_not]; omega
    have hmq4 : decide (q < m) = false := by rw [decide_eq_false_iff_not]; omega
    have hn0 : ¬ ((n : Int) == 0) = true := by rw [beq_iff_eq]; omega
    clear hq hT hmq
    go_enter Tryd.func25, Tryd.ntmps25
    go_wp2_with fail
    refine HR.out.mono ?_
    rintro e w1 ⟨p1, c1, rfl, ho1, hb1⟩
    have HO := Lib.hid (And.intro ho1 hb1)
    clear ho1 hb1
    go_wp2_with fail
    go_ret2
    exact ⟨p1, c1, rfl, HO.out.1, HO.out.2⟩
set_option maxRecDepth 100000 in
theorem times_neg (p : Option Addr) (n c : Nat) (z : Int) (w : World) (A : Nat → Addr) (hr : Roots w A) (hz : z < 0) :
    Calls Tryd.prog 25 #[.slice p n c, .int .i64 z] w (Err2 w A wordOp 0 3 (.slice none 0 0)) := by
  have HR := Lib.hid hr
  clear hr
  go_enter Tryd.func25, Tryd.ntmps25
  go_wp2_with fail
  refine (new_at wordOp 0 3 _ A HR.out (by omega)).mono ?_
  rintro e w1 ⟨b, rfl, hl1, hb1⟩
  have H := Lib.hid (And.intro hl1 hb1)
  clear hl1 hb1
  go_wp2_with fail
  go_ret2
  exact ⟨_, rfl, H.out.1, H.out.2⟩
set_option maxRecDepth 100000 in
theorem times_big (p : Option Addr) (n c m : Nat) (w : World) (A : Nat → Addr) (hr : Roots w A) (hn : n ≤ 9223372036854775807) (h0 : 0 < n) (hm : 4096 / n < m) :
    Calls Tryd.prog 25 #[.slice p n c, .int .i64 (m : Int)] w (Err2 w A wordOp 0 4 (.slice none 0 0)) := by
  have HR := Lib.hid hr
  obtain ⟨q, hq⟩ : ∃ q, 4096 / n = q := ⟨_, rfl⟩
  have hq4 : q ≤ 4096 := by rw [← hq]; exact Nat.div_le_self _ _
  have hqi : (4096 : Int) / (n : Int) = (q : Int) := by rw [← hq]; rfl
  have hqi2 : (4096 : Int).tdiv (n : Int) = (q : Int) := by rw [Int.tdiv_eq_ediv_of_nonneg (by omega), hqi]
  have hmq2 : ((q : Int) < (m : Int)) := by omega
  have hmq4 : decide (q < m) = true := by rw [decide_eq_true_iff]; omega
  clear hr hq hm
  go_enter Tryd.func25, Tryd.ntmps25
  go_wp2_with fail
  refine (new_at wordOp 0 4 _ A HR.out (by omega)).mono ?_
  rintro e w1 ⟨b, rfl, hl1, hb1⟩
  have H := Lib.hid (And.intro hl1 hb1)
  clear hl1 hb1
  go_wp2_with fail
  go_ret2
  exact ⟨_, rfl, H.out.1, H.out.2⟩
end Go.Proofs.YtgdjnohhofbcnaaDoor
end
section
namespace Go.Proofs.YtgdjnohhofbcnaaDoor
open Go.RowKit Go.Extern.Stop Go.Stop Go.Extern WordM NatM

/-- a number and no error, both new -/
def NumOk (w : World) (n : Nat) (e : Ending) (w' : World) : Prop :=
  ∃ p c, e = .returned (.tuple #[.slice p (D32 n).length c, .nilIface]) ∧ NatO w.heap.size w' p c (D32 n) ∧ Below w.heap.size w w'
theorem valW_len {k : Nat} {l : List Int} (h4 : k ≤ 4) (h : okW k l) : (D32 (valW k l)).length ≤ l.length := by
  apply D32_len
  exact Nat.lt_of_lt_of_le (valW_lt h) (Nat.pow_le_pow_left (by omega) _)
theorem valW_take {k : Nat} {l : List Int} {j : Nat} {x : Int} (h : l[j]? = some x) : valW k (l.take (j + 1)) = valW k (l.take j) * k + x.toNat := by
  rw [List.take_add_one, h]
  exact valW_snoc k _ x
def IndexRel (w : World) (k : Nat) (l : List Int) (v8 v26 : Value) (wr : World) : Prop :=
  ∃ (j : Nat) (p : Option Addr) (c : Nat), j ≤ l.length ∧ v26 = .int .i64 (j : Int) ∧ v8 = .slice p (D32 (valW k (l.take j))).length c ∧ NatO w.heap.size wr p c (D32 (valW k (l.take j))) ∧ Below w.heap.size w wr
end Go.Proofs.YtgdjnohhofbcnaaDoor
end
section
namespace Go.Proofs.YtgdjnohhofbcnaaDoor
open Go.RowKit Go.Extern.Stop Go.Stop Go.Extern WordM NatM

/-- the word of n symbols with this number, and no error -/
def AtOk (w : World) (k n i : Nat) (e : Ending) (w' : World) : Prop := ∃ x : List Int, x.length = n ∧ okW k x ∧ valW k x = i ∧ IntOk w x e w'
def AtRel (w : World) (k n i : Nat) (g : Nat) (v2 v11 : Value) (wr : World) : Prop :=
  ∃ (j R : Nat) (x : List Int) (q : Option Addr) (cq : Nat) (b : List Nat), j ≤ n ∧ v11 = .int .i64 ((j : Int) - 1) ∧ v2 = .slice q b.length cq ∧ V32 b = R ∧ NatV wr.heap.size wr q cq b ∧ b.length ≤ 100000 ∧
    x.length = n - j ∧ okW k x ∧ valW k x + k ^ (n - j) * R = i ∧ IntO w.heap.size wr (some ⟨g, 0, none⟩) n (List.replicate j 0 ++ x) ∧ w.heap.size ≤ g ∧ Below w.heap.size w wr
def OverIs (w : World) (q d : Nat) (e : Ending) (w' : World) : Prop :=
  ∃ p c, e = .returned (.tuple #[.slice p (D32 q).length c, .int .u32 (d : Int), .nilIface]) ∧ NatO w.heap.size w' p c (D32 q) ∧ Below w.heap.size w w'
theorem over_is {w : World} {n d q r : Nat} {e : Ending} {w' : World} (hq : n / d = q) (hr : n % d = r) (h : OverPost w n d e w') : OverIs w q r e w' := by
  subst hq hr
  exact h
theorem set_front {x : List Int} {j : Nat} {v : Int} : (List.replicate (j + 1) (0 : Int) ++ x).set j v = List.replicate j 0 ++ v :: x := by
  rw [List.replicate_succ', List.append_assoc, List.set_append_right _ _ (by simp), List.length_replicate, Nat.sub_self]
  rfl
end Go.Proofs.YtgdjnohhofbcnaaDoor
end
section
namespace Go.Proofs.YtgdjnohhofbcnaaDoor
open Go.RowKit Go.Extern.Stop Go.Stop Go.Extern WordM NatM


/-- whatever Pow tells -/
def PowSome (w : World) (e : Ending) (w' : World) : Prop := ∃ p n c v, e = .returned (.tuple #[.slice p n c, v]) ∧ Below w.heap.size w w'
end Go.Proofs.YtgdjnohhofbcnaaDoor
end
section
namespace Go.Proofs.YtgdjnohhofbcnaaDoor
open Go.RowKit Go.Extern.Stop Go.Stop Go.Extern WordM RuleM NatM
attribute [local go_sem ↓] Go.wp_at_zero Go.wp_at_succ

set_option maxRecDepth 100000 in
set_option maxHeartbeats 2000000 in
theorem step_bad (k r : Int) (p q : Option Addr) (n c m d : Nat) (t l : List Int) (w : World) (A : Nat → Addr) (hr : Roots w A) (hn : n = t.length) (hm : m = l.length) (h : IntV w.heap.size w p c t) (hl : IntV w.heap.size w q d l) (i a : Nat) (hc : chkT k r t l = some (i, a)) :
    Calls Tryd.prog 26 #[.agg #[.int .i64 k, .int .i64 r, .slice p n c], .slice q m d] w (Err2 w A ruleOp i a (.slice none 0 0)) := by
  have start : ∀ (w0 : World), w0 = w.alloc (.cells #[.int .i64 k, .int .i64 r, .slice p n c] 24) → Below w.heap.size w w0 ∧ Rul3 w0 w.heap.size (.int .i64 k) (.int .i64 r) (.slice p n c) := fun w0 hw0 =>
    ⟨by rw [hw0]; exact (Below.refl _ _).alloc (Nat.le_refl _) _, by rw [hw0]; exact Rul3.new w _ _ _⟩
  have ST := Lib.hid start
  clear start
  unfold chkT at hc
  split at hc
  · obtain ⟨rfl, rfl⟩ := Prod.mk.inj (Option.some.inj hc)
    rename_i hcr
    have H := Lib.hid (And.intro h (And.intro hn (And.intro hr hcr)))
    clear h hn hr hcr hc hm hl
    go_enter Tryd.func26, Tryd.ntmps26
    go_wp2_with fail
    obtain ⟨w0, hw0⟩ : ∃ w0, w0 = w.alloc (.cells #[.int .i64 k, .int .i64 r, .slice p n c] 24) := ⟨_, rfl⟩
    rw [← hw0]
    obtain ⟨hb0, hE0⟩ := ST.out w0 hw0
    obtain ⟨⟨hf0, hf1, hf2⟩, hc0, hc1, hc2⟩ := hE0.facts
    have HE := Lib.hid (And.intro hE0 hb0)
    clear hw0 hE0 hb0
    go_wp2_with fail
    refine (rcheck_bad k r p n c t w0 A (H.out.2.2.1.below HE.out.2) H.out.2.1 (H.out.1.next HE.out.2) _ H.out.2.2.2).mono ?_
    rintro e w1 ⟨b, rfl, hl1, hb1⟩
    have HF := Lib.hid (And.intro hl1 (HE.out.2.trans (hb1.mono HE.out.2.size)))
    clear hl1 hb1
    go_wp2_with fail
    go_ret2
    exact ⟨_, rfl, HF.out.1, HF.out.2⟩
  · rename_i hcr
    obtain ⟨K, R, rfl, rfl, ho⟩ := chkR_none hcr
    have h4 := ho.k4
    have hle := hl.le
    have hcap := hl.cap
    unfold maxLen at hcap
    have hmx : m ≤ 9223372036854775807 := by omega
    split at hc
    · obtain ⟨rfl, rfl⟩ := Prod.mk.inj (Option.some.inj hc)
      rename_i hne
      have hne' : 4096 < m := by omega
      have H := Lib.hid (And.intro h (And.intro hn (And.intro hr ho)))
      clear h hn hr hcr hc hm hl ho hne hle hcap
      go_enter Tryd.func26, Tryd.ntmps26
      go_wp2_with fail
      obtain ⟨w0, hw0⟩ : ∃ w0, w0 = w.alloc (.cells #[.int .i64 (K : Int), .int .i64 (R : Int), .slice p n c] 24) := ⟨_, rfl⟩
      rw [← hw0]
      obtain ⟨hb0, hE0⟩ := ST.out w0 hw0
      obtain ⟨⟨hf0, hf1, hf2⟩, hc0, hc1, hc2⟩ := hE0.facts
      have HE := Lib.hid (And.intro hE0 hb0)
      clear hw0 hE0 hb0
      go_wp2_with fail
      refine (rcheck_ok K R p n c t w0 H.out.2.1 (H.out.1.next HE.out.2) H.out.2.2.2).mono ?_
      rintro e w1 ⟨rfl, hb1⟩
      have H1 := Lib.hid (And.intro (HE.out.1.next hb1) (HE.out.2.trans (hb1.mono HE.out.2.size)))
      clear hb1 hf0 hf1 hf2 hc0 hc1 hc2
      obtain ⟨⟨hf0, hf1, hf2⟩, hc0, hc1, hc2⟩ := H1.out.1.facts
      go_wp2_with fail
      refine (new_at ruleOp 0 4 w1 A (H.out.2.2.1.below H1.out.2) (by omega)).mono ?_
      rintro e w2 ⟨b, rfl, hl2, hb2⟩
      have HF := Lib.hid (And.intro hl2 (H1.out.2.trans (hb2.mono H1.out.2.size)))
      clear hl2 hb2
      go_wp2_with fail
      go_ret2
      exact ⟨_, rfl, HF.out.1, HF.out.2⟩
    · rename_i hlen
      obtain ⟨j, hj, he⟩ := Option.map_eq_some_iff.1 hc
      obtain ⟨rfl, rfl⟩ := Prod.mk.inj he
      have hjl := strayN_lt hj
      have hst := strayN_bad hj
      have hjm : j < m := by omega
      have hm4 : ¬ 4096 < m := by omega
      have H := Lib.hid (And.intro h (And.intro hn (And.intro hr (And.intro ho (And.intro hst (And.intro hl hm))))))
      clear h hn hr hcr hc hm hl ho hle hcap hst hjl hj hlen he
      go_enter Tryd.func26, Tryd.ntmps26
      go_wp2_with fail
      obtain ⟨w0, hw0⟩ : ∃ w0, w0 = w.alloc (.cells #[.int .i64 (K : Int), .int .i64 (R : Int), .slice p n c] 24) := ⟨_, rfl⟩
      rw [← hw0]
      obtain ⟨hb0, hE0⟩ := ST.out w0 hw0
      obtain ⟨⟨hf0, hf1, hf2⟩, hc0, hc1, hc2⟩ := hE0.facts
      have HE := Lib.hid (And.intro hE0 hb0)
      clear hw0 hE0 hb0
      go_wp2_with fail
      refine (rcheck_ok K R p n c t w0 H.out.2.1 (H.out.1.next HE.out.2) H.out.2.2.2.1).mono ?_
      rintro e w1 ⟨rfl, hb1⟩
      have H1 := Lib.hid (And.intro (HE.out.1.next hb1) (HE.out.2.trans (hb1.mono HE.out.2.size)))
      clear hb1 hf0 hf1 hf2 hc0 hc1 hc2
      obtain ⟨⟨hf0, hf1, hf2⟩, hc0, hc1, hc2⟩ := H1.out.1.facts
      go_wp2_with fail
      refine (stray_any (K : Int) q m d l w1 H.out.2.2.2.2.2.2 (H.out.2.2.2.2.2.1.next H1.out.2)).mono ?_
      rintro e w2 ⟨rfl, rfl⟩
      rw [H.out.2.2.2.2.1]
      go_wp2_with fail
      refine (new_at ruleOp j 2 w1 A (H.out.2.2.1.below H1.out.2) (by omega)).mono ?_
      rintro e w2 ⟨b, rfl, hl2, hb2⟩
      have HF := Lib.hid (And.intro hl2 (H1.out.2.trans (hb2.mono H1.out.2.size)))
      clear hl2 hb2
      go_wp2_with fail
      go_ret2
      exact ⟨_, rfl, HF.out.1, HF.out.2⟩
/-- Step, whatever is asked that it does not refuse -/
theorem step_ok (k r : Int) (p q : Option Addr) (n c m d : Nat) (t l : List Int) (w : World) (hn : n = t.length) (hm : m = l.length) (h : IntV w.heap.size w p c t) (hl : IntV w.heap.size w q d l) (hc : chkT k r t l = none) :
    Calls Tryd.prog 26 #[.agg #[.int .i64 k, .int .i64 r, .slice p n c], .slice q m d] w (IntOk w (imgW k.toNat r.toNat t l)) := by
  obtain ⟨K, R, rfl, rfl, ho, hl4, hw⟩ := chkT_none hc
  rw [Int.toNat_natCast, Int.toNat_natCast]
  rcases Nat.lt_or_ge (2 * R) m with h1 | h1
  · exact step_long K R p q n c m d t l w hn hm h hl ho h1 (by omega) hw
  · exact step_short K R p q n c m d t l w hn hm h hl ho h1 hw

end Go.Proofs.YtgdjnohhofbcnaaDoor
end
section
namespace Go.Proofs.YtgdjnohhofbcnaaDoor
open Go.RowKit Go.Extern.Stop Go.Stop Go.Extern WordM RuleM NatM

theorem setCell_same {w : World} {h i : Nat} {cs : Array Value} {T : TypeId} {v : Value} (hh : w.heap[h]? = some (.cells cs T (0, 0))) (hv : cs[i]? = some v) : w.setCell ⟨h, i, none⟩ v = w := by
  have hm : (w.heap.modify h fun
      | .cells c elem frozen => .cells (if (none : Option (Nat × Nat)).isSome then c else c.setIfInBounds i v) elem frozen
      | o => o) = w.heap := by
    apply Array.ext_getElem?
    intro j
    rw [Array.getElem?_modify]
    split
    · rename_i e
      subst e
      rw [hh]
      have : cs.setIfInBounds i v = cs := by
        apply Array.ext_getElem?
        intro z
        rw [Array.getElem?_setIfInBounds]
        split
        · rename_i e; subst e
          split
          · exact hv.symm
          · rename_i hz; rw [Array.getElem?_eq_none (by omega)]
        · rfl
      simp [this]
    · rfl
  exact congrArg (fun h => ({ w with heap := h } : World)) hm
theorem put3_same {w : World} {h : Nat} {a b c : Value} (k : Rul3 w h a b c) : put3 w h a b c = w := by
  unfold put3
  rw [setCell_same k.heap rfl, setCell_same k.heap rfl, setCell_same k.heap rfl]
theorem IntO.put3 {base h : Nat} {w : World} {p : Option Addr} {c : Nat} {l : List Int} (ho : IntO base w p c l) (hh : h < base) (a b d : Value) : IntO base (put3 w h a b d) p c l :=
  ownsRow_setCell_below (ownsRow_setCell_below (ownsRow_setCell_below ho (a := ⟨h, 0, none⟩) hh a) (a := ⟨h, 1, none⟩) hh b) (a := ⟨h, 2, none⟩) hh d

theorem Rul3.setOther {w : World} {h : Nat} {a b c : Value} (k : Rul3 w h a b c) (g i : Nat) (hg : g ≠ h) (v : Value) : Rul3 (w.setCell ⟨g, i, none⟩ v) h a b c := ⟨by
  show (w.heap.modify g _)[h]? = _
  rw [Array.getElem?_modify, if_neg hg]
  exact k.heap⟩
theorem Rul3.putOther {w : World} {h : Nat} {a b c : Value} (k : Rul3 w h a b c) (g : Nat) (hg : g ≠ h) (x y z : Value) : Rul3 (put3 w g x y z) h a b c := ((k.setOther g 0 hg x).setOther g 1 hg y).setOther g 2 hg z

/-- no rule -/
def noRule : Value := .agg #[.int .i64 0, .int .i64 0, .slice none 0 0]
/-- a new rule, and no error -/
def RuleOk (w : World) (k r : Nat) (t : List Int) (e : Ending) (w' : World) : Prop :=
  ∃ p c, e = .returned (.tuple #[.agg #[.int .i64 (k : Int), .int .i64 (r : Int), .slice p t.length c], .nilIface]) ∧ IntO w.heap.size w' p c t ∧ Below w.heap.size w w'
/-- the rule with this number, and no error -/
def FromOk (w : World) (k r i : Nat) (e : Ending) (w' : World) : Prop := ∃ t, OkR k r t ∧ codeR k t = i ∧ RuleOk w k r t e w'


/-- where From refuses: the place and the number -/
def chkF (k r : Int) (i : Nat) : Option (Nat × Nat) :=
  if (k < 1 ∨ 4 < k) ∨ r < 0 ∨ 3 < r then some (0, 3) else if 256 < k.toNat ^ (2 * r.toNat + 1) then some (0, 4) else if k.toNat ^ (k.toNat ^ (2 * r.toNat + 1)) ≤ i then some (1, 3) else none
end Go.Proofs.YtgdjnohhofbcnaaDoor
end
section
namespace Go.Proofs.YtgdjnohhofbcnaaDoor
open Go.RowKit Go.Extern.Stop Go.Stop Go.Extern WordM RuleM NatM

/-- the first byte that begins no rule's text, of a text of n bytes that begins with these -/
def fwS (n a b c d : Nat) : Nat :=
  if n = 0 ∨ a < 49 ∨ 52 < a then 0 else if n = 1 ∨ b ≠ 46 then 1 else if n = 2 ∨ c < 48 ∨ 51 < c then 2 else if n = 3 ∨ d ≠ 46 then 3 else 4
def byteS (s : ByteArray) (i : Nat) : Nat := (bsOf s).getD i 0
theorem byteS_get {s : ByteArray} {i : Nat} (h : i < s.size) : byteS s i = (s[i]).toNat := by
  unfold byteS
  rw [List.getD_eq_getElem?_getD, bsOf_get h]; rfl
/-- the same of a text -/
def fwT (s : ByteArray) : Nat := fwS s.size (byteS s 0) (byteS s 1) (byteS s 2) (byteS s 3)
theorem fwT_le (s : ByteArray) : fwT s ≤ 4 := by
  unfold fwT fwS
  split <;> (try split) <;> (try split) <;> (try split) <;> omega
def FwPost (w : World) (s : ByteArray) (e : Ending) (w' : World) : Prop := e = .returned (.int .i64 (fwT s : Int)) ∧ w = w'
theorem fw_post {w : World} {s : ByteArray} {n : Nat} (h : fwT s = n) : FwPost w s (.returned (.int .i64 (n : Int))) w := ⟨by rw [h], rfl⟩

theorem fw_size {s : ByteArray} {n : Nat} (h : min s.size 4 = n) : fwT s = fwS n (byteS s 0) (byteS s 1) (byteS s 2) (byteS s 3) := by
  unfold fwT fwS
  split <;> split <;> (try split) <;> (try split) <;> (try split) <;> (try split) <;> (try split) <;> (try split) <;> omega

end Go.Proofs.YtgdjnohhofbcnaaDoor
end
section
namespace Go.Proofs.YtgdjnohhofbcnaaDoor
open Go.RowKit Go.Extern.Stop Go.Stop Go.Extern WordM RuleM NatM

theorem Rul3.put {w : World} {h : Nat} {a b c : Value} (k : Rul3 w h a b c) (a' b' c' : Value) : Rul3 (put3 w h a' b' c') h a' b' c' := by
  have set : ∀ {w : World} {cs : Array Value} {T : TypeId} (i : Nat) (v : Value), w.heap[h]? = some (.cells cs T (0, 0)) → (w.setCell ⟨h, i, none⟩ v).heap[h]? = some (.cells (cs.setIfInBounds i v) T (0, 0)) := fun {w cs T} i v hh => by
    show (w.heap.modify h _)[h]? = _
    rw [Array.getElem?_modify, if_pos rfl, hh]; rfl
  exact ⟨set 2 c' (set 1 b' (set 0 a' k.heap))⟩
theorem fwT_four {s : ByteArray} (h : fwT s = 4) : 4 ≤ s.size ∧ (49 ≤ byteS s 0 ∧ byteS s 0 ≤ 52) ∧ byteS s 1 = 46 ∧ (48 ≤ byteS s 2 ∧ byteS s 2 ≤ 51) ∧ byteS s 3 = 46 := by
  unfold fwT fwS at h
  split at h
  · omega
  · split at h
    · omega
    · split at h
      · omega
      · split at h
        · omega
        · omega
/-- what a rule's text says of symbols and radius, and the rest -/
def symK (s : ByteArray) : Nat := byteS s 0 - 48
def symR (s : ByteArray) : Nat := byteS s 2 - 48
def restS (s : ByteArray) : ByteArray := s.extract 4 s.size
theorem sym_range {s : ByteArray} (h : fwT s = 4) : 1 ≤ symK s ∧ symK s ≤ 4 ∧ symR s ≤ 3 := by
  have := fwT_four h
  unfold symK symR
  omega


/-- refused by nat.Parse: rule's Fault over nat's -/
def ErrU (w : World) (A : Nat → Addr) (i m : Nat) (e : Ending) (w' : World) : Prop :=
  ∃ b b', e = .returned (.tuple #[noRule, .iface 61 (.pointer (some ⟨b, 0, none⟩))]) ∧ (Tree.fault b ruleOp 4 (.fault b' natOp i (.leaf (A m)))).lies w' ∧ Below w.heap.size w w'
end Go.Proofs.YtgdjnohhofbcnaaDoor
end
section
namespace Go.Proofs.YtgdjnohhofbcnaaDoor
open Go.RowKit

/-- a lent list: its block holds it, and the two marks behind -/
def LentI (w : World) (g : Nat) (l : List Int) : Prop := w.heap[g]? = some (.cells (cI (l ++ [7001, 7002])).toArray 3 (0, 0))
theorem LentI.lt {w : World} {g : Nat} {l : List Int} (h : LentI w g l) : g < w.heap.size := heap_ltN h
theorem LentI.cell {w : World} {g : Nat} {l : List Int} (h : LentI w g l) {j : Nat} {x : Int} (hx : (l ++ [7001, 7002])[j]? = some x) : w.cell? ⟨g, j, none⟩ = some (.int .i64 x) := by
  rw [cell_of_row w g j _ _ _ h, List.getElem?_toArray]
  exact cI_get hx
theorem LentI.block {w w' : World} {g : Nat} {l : List Int} (hb : w'.heap[g]? = w.heap[g]?) (h : LentI w g l) : LentI w' g l := hb.trans h
theorem LentI.below {w w' : World} {g : Nat} {l : List Int} (hb : Below w.heap.size w w') (h : LentI w g l) : LentI w' g l := h.block (hb.block g h.lt)
theorem LentI.own {w : World} {g base : Nat} {l : List Int} (hB : base ≤ g) (hl : l.length ≤ 17592186043904) (h : LentI w g l) : IntO base w (some ⟨g, 0, none⟩) (l.length + 2) l := by
  refine ⟨by rw [cI_length, Nat.mul_one], Or.inr ⟨g, l.length + 2, _, rfl, hB, h, by omega, by unfold maxLen; omega, by simp [cI], ?_⟩⟩
  rw [List.toList_toArray, Nat.mul_one]
  unfold cI
  rw [List.map_append, List.take_left' (by simp)]
theorem LentI.of_own {w : World} {g base : Nat} {l : List Int} (h : IntO base w (some ⟨g, 0, none⟩) l.length l) (hfull : ∃ m, l = m ++ [7001, 7002]) : ∃ m, l = m ++ [7001, 7002] ∧ LentI w g m := by
  obtain ⟨m, rfl⟩ := hfull
  refine ⟨m, rfl, ?_⟩
  obtain ⟨hx, h1 | ⟨g', cap, cur, hv, hg, hh, hc, hm, hs, ht⟩⟩ := h
  · simp at h1
  · obtain ⟨rfl, rfl⟩ : g = g' ∧ (m ++ [7001, 7002]).length = cap := by simpa using hv
    unfold LentI
    rw [hh]
    congr 2
    rw [← Array.toList_inj, List.toList_toArray, ← ht, Nat.mul_one, List.take_of_length_le (by rw [Array.length_toList]; omega)]

def LentPostI (w : World) (l : List Int) (e : Ending) (w' : World) : Prop :=
  e = .returned (.slice (some ⟨w.heap.size, 0, none⟩) l.length (l.length + 2)) ∧ LentI w' w.heap.size l ∧ Below w.heap.size w w'
theorem splice_zeroI (cs : List Value) (n : Nat) (v : Value) : splice (List.replicate n v) 0 cs = cs ++ List.replicate (n - cs.length) v := by
  unfold splice
  simp

set_option maxRecDepth 100000 in
set_option maxHeartbeats 1000000 in
theorem lentI_any (p : Option Addr) (cap : Nat) (l : List Int) (w : World) (h : IntV w.heap.size w p cap l) (hl : l.length ≤ 17592186043904) :
    Calls Tryd.prog 11 #[.slice p l.length cap] w (LentPostI w l) := by
  obtain ⟨n, hn⟩ : ∃ n, n = l.length + 2 := ⟨_, rfl⟩
  have hmk := makeI n (by omega)
  have hn2 : (l.length : Int) + 2 = (n : Int) := by omega
  have H := Lib.hid (And.intro h hn)
  have hln : l.length < n := by omega
  have hln1 : l.length + 1 < n := by omega
  have hnb : n ≤ 17592186043906 := by omega
  clear h hn
  go_enter Tryd.func11, Tryd.ntmps11
  have hB1 : Below w.heap.size w (w.alloc (.cells (madeCells #[.int .i64 0] n) 3)) := (Below.refl _ _).alloc (Nat.le_refl _) _
  have HB1 := Lib.hid hB1
  have hh : (w.alloc (.cells (madeCells #[.int .i64 0] n) 3)).heap[w.heap.size]? = some (.cells (List.replicate n (Value.int .i64 0)).toArray 3 (0, 0)) := by
    rw [heap_newN, ← madeI_list]
  have HHH := Lib.hid hh
  clear hB1 hh
  go_wp2_with (with_reducible refine wpList_copy_splice rfl (.tmp 8) (.tmp 9) 22 22 rfl 3 Tryd.underlying22 sizeI (some ⟨w.heap.size, 0, none⟩) p n n l.length cap rfl rfl w.heap.size 0 (List.replicate n (Value.int .i64 0)) 3 HHH.out (cI l) ?k1 ?k2 ?k3 ?k4 w.heap.size w HB1.out (Nat.le_refl _) ?_)
  case k1 => rw [cI_length]; exact (Nat.min_eq_left (by omega)).symm
  case k2 =>
    intro hpos
    rw [cI_length] at hpos
    obtain ⟨b, off, rfl, hb, hc⟩ := H.out.1.cell (List.length_pos_iff.1 hpos)
    refine ⟨_, rfl, fun j v hv => ?_⟩
    rw [add_off]
    unfold cI at hv
    rw [List.getElem?_map] at hv
    obtain ⟨x, hx, rfl⟩ := Option.map_eq_some_iff.1 hv
    exact (HB1.out.cell (p := ⟨b, off + j, none⟩) hb).trans (hc j x hx)
  case k3 => rw [cI_length, List.length_replicate]; omega
  case k4 =>
    intro v hv
    unfold cI at hv
    obtain ⟨x, _, rfl⟩ := List.mem_map.1 hv
    rfl
  intro w1 hw1 hb1
  have hn0 : n = l.length + 2 := H.out.2
  have hw2 : w1.heap[w.heap.size]? = some (.cells (cI l ++ [Value.int .i64 0, Value.int .i64 0]).toArray 3 (0, 0)) := by
    have h := hw1.out
    rw [splice_zeroI, cI_length, show n - l.length = 2 by omega] at h
    exact h
  have hc1 : w1.cell? ⟨w.heap.size, l.length, none⟩ = some (.int .i64 0) := by
    rw [cell_of_row w1 _ _ _ _ _ hw2, List.getElem?_toArray, List.getElem?_append_right (by rw [cI_length]; exact Nat.le_refl _), cI_length, Nat.sub_self]
    rfl
  have hc2 : w1.cell? ⟨w.heap.size, l.length + 1, none⟩ = some (.int .i64 0) := by
    rw [cell_of_row w1 _ _ _ _ _ hw2, List.getElem?_toArray, List.getElem?_append_right (by rw [cI_length]; omega), cI_length, show l.length + 1 - l.length = 1 by omega]
    rfl
  have hf1 : ∀ j, w1.frozen? ⟨w.heap.size, j, none⟩ = false := fun j => frozen_of_row w1 w.heap.size j _ _ hw2
  have hff1 := hf1 l.length
  have hff2 := hf1 (l.length + 1)
  have hnn : n ≤ l.length + 2 := by omega
  have hB2 : Below w.heap.size w ((w1.setCell ⟨w.heap.size, l.length, none⟩ (.int .i64 7001)).setCell ⟨w.heap.size, l.length + 1, none⟩ (.int .i64 7002)) := (hb1.setCell (p := ⟨w.heap.size, l.length, none⟩) (Nat.le_refl _) _).setCell (p := ⟨w.heap.size, l.length + 1, none⟩) (Nat.le_refl _) _
  have hL : LentI ((w1.setCell ⟨w.heap.size, l.length, none⟩ (.int .i64 7001)).setCell ⟨w.heap.size, l.length + 1, none⟩ (.int .i64 7002)) w.heap.size l := by
    unfold LentI
    rw [heap_setCell_same _ w.heap.size (l.length + 1) _ _ _ (heap_setCell_same w1 w.heap.size l.length _ _ _ hw2)]
    congr 2
    rw [← Array.toList_inj]
    simp only [Array.toList_setIfInBounds]
    rw [List.set_append_right _ _ (by rw [cI_length]; exact Nat.le_refl _), List.set_append_right _ _ (by rw [cI_length]; omega), cI_length, Nat.sub_self, show l.length + 1 - l.length = 1 by omega]
    simp [cI]
  have HF := Lib.hid (And.intro hL hB2)
  clear hw1 hb1 hw2 hf1 hn0 hL hB2 hmk HB1 HHH
  go_wp2_with fail
  go_ret
  exact ⟨by rw [H.out.2]; rfl, HF.out.1, HF.out.2⟩
set_option maxRecDepth 100000 in
set_option maxHeartbeats 1000000 in
theorem keptI_any (g : Nat) (p : Option Addr) (n m c : Nat) (l : List Int) (w : World) (hg : LentI w g l) (h : IntV w.heap.size w p c l) (hl : l.length ≤ 17592186043904) (hn : n = l.length) (hm : m = l.length + 2) :
    Calls Tryd.prog 21 #[.slice (some ⟨g, 0, none⟩) n m, .slice p l.length c] w (Tells (.bool true) w) := by
  subst hn hm
  have hcap := h.cap
  unfold maxLen at hcap
  have hle := h.le
  have hsame := ints_any (some ⟨g, 0, none⟩) p l.length l.length (l.length + 2) c l l w rfl rfl ((LentI.own (base := 0) (Nat.zero_le _) (by omega) hg).toV) h
  rw [sameI_self] at hsame
  have HG := Lib.hid hg
  clear hg h
  go_enter Tryd.func21, Tryd.ntmps21
  go_wp2_with fail
  refine hsame.mono ?_
  clear hsame
  rintro e w1 ⟨rfl, hb1⟩
  have hc1 : w1.cell? ⟨g, l.length, none⟩ = some (.int .i64 7001) := (HG.out.below hb1).cell (by simp)
  have hc2 : w1.cell? ⟨g, l.length + 1, none⟩ = some (.int .i64 7002) := (HG.out.below hb1).cell (by rw [List.getElem?_append_right (by omega), show l.length + 1 - l.length = 1 by omega]; rfl)
  have HB := Lib.hid hb1
  clear hb1
  go_wp2_with fail
  go_ret
  exact ⟨rfl, HB.out⟩

def CopyPostI (w : World) (l : List Int) (e : Ending) (w' : World) : Prop :=
  ∃ p c, e = .returned (.slice p l.length c) ∧ IntO w.heap.size w' p c l ∧ Below w.heap.size w w'
set_option maxRecDepth 100000 in
set_option maxHeartbeats 1000000 in
theorem copyI_any (p : Option Addr) (n cap : Nat) (l : List Int) (w : World) (hn : n = l.length) (h : IntV w.heap.size w p cap l) (hl : l.length ≤ 17592186043904) :
    Calls Tryd.prog 27 #[.slice p n cap] w (CopyPostI w l) := by
  subst hn
  obtain ⟨i0, hi, hz0, hz1, hz2⟩ := info_parts infoI
  have H := Lib.hid h
  have hle := h.le
  rcases p with _ | a
  · have hc := h.nil rfl
    subst hc
    obtain rfl : l = [] := List.eq_nil_of_length_eq_zero (by omega)
    clear h
    show Calls Tryd.prog 27 #[.slice none 0 0] w (CopyPostI w [])
    go_enter Tryd.func27, Tryd.ntmps27
    go_wp2_with (at_builtin; refine wpList_append_own_none rfl _ _ 22 rfl w.heap.size 3 i0 1 Tryd.underlying22 hi _ 0 [] rfl (World.ownsRow_made w #[] 0 (Nat.le_refl _) (Nat.zero_le _) rfl) rfl ?_)
    go_ret
    have ho : IntO w.heap.size (w.alloc (.cells #[] 3)) (some ⟨w.heap.size, 0, none⟩) 0 [] := IntO.of_block (l := []) (Nat.le_refl _) (Nat.zero_le _) (heap_newN _ _)
    exact ⟨_, _, rfl, ho, (Below.refl _ _).alloc (Nat.le_refl _) _⟩
  rcases Nat.eq_zero_or_pos l.length with hl0 | hl0
  · obtain rfl : l = [] := List.eq_nil_of_length_eq_zero hl0
    clear h
    show Calls Tryd.prog 27 #[.slice (some a) 0 cap] w (CopyPostI w [])
    go_enter Tryd.func27, Tryd.ntmps27
    go_wp2_with (at_builtin; refine wpList_append_own _ rfl _ _ 22 rfl w.heap.size 3 i0 (.int .i64 0) 1 8 Tryd.underlying22 hi hz0 hz1 hz2 rfl (by decide) _ 0 [] rfl (World.ownsRow_made w #[] 0 (Nat.le_refl _) (Nat.zero_le _) rfl) a 0 cap [] rfl rfl ?c1 ?c2 ?c3 ?c4 ?c5 ?_)
    case c1 => intro j u hj; simp at hj
    case c2 => intro u hu; simp at hu
    case c3 => unfold maxLen; omega
    case c4 => omega
    case c5 => simp
    intro v' w1 hown' hgrow _
    obtain ⟨p1, c1, rfl, ho1⟩ := IntO.slice_own (l := []) hown'
    have hb1 : Below w.heap.size w w1 := ((Below.refl _ _).alloc (Nat.le_refl _) _).grown hgrow (by simp) (fun j hj => by have := Option.some.inj hj; simp at this; omega)
    have HO := Lib.hid (And.intro ho1 hb1)
    clear hown' hgrow ho1 hb1
    go_wp2_with fail
    go_ret
    exact ⟨p1, c1, rfl, HO.out.1, HO.out.2⟩
  · obtain ⟨b, off, ha, hb, hc⟩ := h.cell (List.length_pos_iff.1 hl0)
    obtain rfl : a = ⟨b, off, none⟩ := by simpa using ha
    have HC := Lib.hid hc
    clear h hc ha
    go_enter Tryd.func27, Tryd.ntmps27
    go_wp2_with (at_builtin; refine wpList_append_own _ rfl _ _ 22 rfl w.heap.size 3 i0 (.int .i64 0) 1 8 Tryd.underlying22 hi hz0 hz1 hz2 rfl (by decide) _ 0 [] rfl (World.ownsRow_made w #[] 0 (Nat.le_refl _) (Nat.zero_le _) rfl) ⟨b, off, none⟩ l.length cap (cI l) rfl ?d0 ?d1 ?d2 ?d3 ?d4 ?d5 ?_)
    case d0 => simp [cI]
    case d1 =>
      intro j u hj
      unfold cI at hj
      rw [List.getElem?_map] at hj
      obtain ⟨x, hx, rfl⟩ := Option.map_eq_some_iff.1 hj
      rw [add_off]
      exact (((Below.refl w.heap.size w).alloc (Nat.le_refl _) _).cell (p := ⟨b, off + j, none⟩) hb).trans (HC.out j x hx)
    case d2 =>
      intro u hu
      unfold cI at hu
      obtain ⟨x, _, rfl⟩ := List.mem_map.1 hu
      rfl
    case d3 => unfold maxLen; omega
    case d4 => omega
    case d5 => simp
    intro v' w1 hown' hgrow _
    obtain ⟨p1, c1, rfl, ho1⟩ := IntO.slice_own (l := l) (by simpa using hown')
    have hb1 : Below w.heap.size w w1 := ((Below.refl _ _).alloc (Nat.le_refl _) _).grown hgrow (by simp) (fun j hj => by have := Option.some.inj hj; simp at this; omega)
    have HO := Lib.hid (And.intro ho1 hb1)
    clear hown' hgrow ho1 hb1
    go_wp2_with fail
    go_ret
    exact ⟨p1, c1, by simp, HO.out.1, HO.out.2⟩
end Go.Proofs.YtgdjnohhofbcnaaDoor
end
