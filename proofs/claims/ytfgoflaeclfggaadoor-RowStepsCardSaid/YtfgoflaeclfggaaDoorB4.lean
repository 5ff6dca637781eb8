/- Package row by its contracts, fourth part: checkPosition, Cell, Cut.
Package row by its contracts, fifth part: Same.
Package word by its contracts, sixth part: Text.
Contracts of library functions, laid at this program's numbers by the kit's lay-plain.mjs: what each says stands in its type.
Lists of ints: slices.Repeat.
Package word by its contracts, seventh part: Times.
Package word by its contracts, eighth part: Index, At.
Package word by its contracts, ninth part: At.
Package word by its contracts, tenth part: At where it is refused; nat.Pow whatever it is asked.
Package rule by its contracts, fifth part: Step where it is refused, Code, From.
Package rule by its contracts, sixth part: From.
Package row by its contracts, sixth part: Step.
Package rule by its contracts, seventh part: firstWrong.
Package rule by its contracts, eighth part: Parse.
edenraw.Lent, Kept and Copy, by contracts.
What the rows' lists of package-level variables give the walks: api's twelve errors and errors' own handle; and one world that meets the lists.
How a law's row is closed from its walk: where the law answers true and only new memory was written, each argument reads as it did.
Package word by its contracts, third part: Period, Least.
What the statements of layer 3 share: lists that are known, awake.
What the statements of layer 4 share: rules that are held against each other, lent rules, awake.
An argument that is a rule, opened. -/
import Derived.Test.YtfgoflaeclfggaaDoorB3
import Derived.Test.YtfgoflaeclfggaaDoorB1
import Derived.Lib.MinMax
import Derived.Deep.RegionHeld3
import Derived.Deep.DrawnRows
import Derived.Shelf.Slices.Equal
import Derived.Shelf.Slices.Empties2
import Derived.Test.YtfgoflaeclfggaaDoorProg
import Derived.Laws.CopyOwn
import Derived.Deep.RegionLaw
import Derived.Test.YtfgoflaeclfggaaDoorB2
import Derived.Laws.AppendOwnNone
import Derived.Test.YtfgoflaeclfggaaDoorCards
import Derived.Test.YtfgoflaeclfggaaDoorTie
import Derived.ProofKit
import Derived.OpenShut
import Derived.Deep.DeepHandedRow
import Derived.Deep.DeepWitnessRowRef
import Derived.LaidHandle
import Derived.LaidLaws
import Derived.Stop.LaidErr
import Derived.Carry
import Derived.SliceStrings
import Derived.ChangeSlices
import Derived.Deep.RegionWith
import Derived.Lib.SmallJoins
section
namespace Go.Proofs.YtfgoflaeclfggaaDoor
open Go.RowKit Go.Extern.Stop Go.Stop Go.Extern WordM RuleM

/-- the fault of a row, or that of a position -/
def chkP (k a : Int) (L C R : List Int) (i : Int) : Option (Nat × Nat) := match chkRw k a L C R with
  | some y => some y
  | none => if i < -1048576 ∨ 1048576 < i then some (5, 3) else none
theorem chkP_none {k a : Int} {L C R : List Int} {i : Int} (h : chkP k a L C R i = none) : chkRw k a L C R = none ∧ -1048576 ≤ i ∧ i ≤ 1048576 := by
  unfold chkP at h
  cases hk : chkRw k a L C R with
  | some y => rw [hk] at h; cases h
  | none =>
    rw [hk] at h
    simp only at h
    split at h
    · cases h
    · exact ⟨rfl, by omega, by omega⟩
theorem chkP_num {k a : Int} {L C R : List Int} {i : Int} : ∀ y, chkP k a L C R i = some y → 2 ≤ y.2 ∧ y.2 ≤ 4 := fun y h => by
  unfold chkP at h
  cases hk : chkRw k a L C R with
  | some z => rw [hk] at h; obtain rfl := Option.some.inj h; exact chkRw_num _ hk
  | none =>
    rw [hk] at h
    simp only at h
    split at h
    · obtain rfl := Option.some.inj h; simp
    · cases h
/-- the fault of a piece -/
def chkC (k a : Int) (L C R : List Int) (i n : Int) : Option (Nat × Nat) := match chkP k a L C R i with
  | some y => some y
  | none => if n < 0 then some (6, 3) else if 4096 < n then some (6, 4) else none
theorem chkC_none {k a : Int} {L C R : List Int} {i n : Int} (h : chkC k a L C R i n = none) : chkP k a L C R i = none ∧ ∃ N : Nat, n = N ∧ N ≤ 4096 := by
  unfold chkC at h
  cases hk : chkP k a L C R i with
  | some y => rw [hk] at h; cases h
  | none =>
    rw [hk] at h
    simp only at h
    split at h
    · cases h
    · split at h
      · cases h
      · exact ⟨rfl, n.toNat, by omega, by omega⟩
theorem chkC_num {k a : Int} {L C R : List Int} {i n : Int} : ∀ y, chkC k a L C R i n = some y → 2 ≤ y.2 ∧ y.2 ≤ 4 := fun y h => by
  unfold chkC at h
  cases hk : chkP k a L C R i with
  | some z => rw [hk] at h; obtain rfl := Option.some.inj h; exact chkP_num _ hk
  | none =>
    rw [hk] at h
    simp only at h
    split at h
    · obtain rfl := Option.some.inj h; simp
    · split at h
      · obtain rfl := Option.some.inj h; simp
      · cases h
theorem rsz_of {k : Nat} {a : Int} {p q s : Option Addr} {n c m d u e : Nat} {L C R : List Int} {w : World} (h : RowV w p q s n c m d u e L C R) (hw : OkRw k a L C R) : Rsz a n m u :=
  ⟨by have := hw.a1; omega, by have := hw.a2; omega, by have := hw.l0; have := h.hn; omega, by have := hw.r0; have := h.hu; omega, by have := hw.l1; have := h.hn; omega, by have := hw.c1; have := h.hm; omega, by have := hw.r1; have := h.hu; omega⟩
set_option maxRecDepth 100000 in
set_option maxHeartbeats 4000000 in
theorem rpos_ok (k : Nat) (a i : Int) (p q s : Option Addr) (n c m d u e : Nat) (L C R : List Int) (w : World) (h : RowV w p q s n c m d u e L C R) (hw : OkRw k a L C R) (hi1 : -1048576 ≤ i) (hi2 : i ≤ 1048576) :
    Calls Tryd.prog 32 #[.int .i64 (k : Int), .agg #[.int .i64 a, .slice p n c, .slice q m d, .slice s u e], .int .i64 i] w (Tells .nilIface w) := by
  have ST := Lib.hid (box_row w (.int .i64 a) (.slice p n c) (.slice q m d) (.slice s u e))
  have hi3 : ¬ i < -1048576 := by omega
  have hi4 : ¬ 1048576 < i := by omega
  have H := Lib.hid (And.intro h hw)
  clear h hw
  go_enter Tryd.func32, Tryd.ntmps32
  go_upto_region 1 with fail
  obtain ⟨w0, hw0⟩ : ∃ w0, w0 = w.alloc (.cells #[.int .i64 a, .slice p n c, .slice q m d, .slice s u e] 24) := ⟨_, rfl⟩
  rw [← hw0]
  obtain ⟨hb0, hE0⟩ := ST.out w0 hw0
  have HE := Lib.hid (And.intro hE0 hb0)
  obtain ⟨hc0, hc1, hc2, hc3⟩ := hE0.facts
  clear hw0 hE0 hb0
  go_wp2_with fail
  refine (rrcheck_ok k a p q s n c m d u e L C R w0 (H.out.1.next HE.out.2) H.out.2).mono ?_
  rintro e' w1 ⟨rfl, hb1⟩
  have H1 := Lib.hid (And.intro (HE.out.1.next hb1) (HE.out.2.trans (hb1.mono HE.out.2.size)))
  clear hb1 hc0 hc1 hc2 hc3
  obtain ⟨hc0, hc1, hc2, hc3⟩ := H1.out.1.facts
  go_wp2_with fail
  go_ret
  exact ⟨rfl, H1.out.2⟩
set_option maxRecDepth 100000 in
set_option maxHeartbeats 4000000 in
theorem rpos_bad (k a i : Int) (p q s : Option Addr) (n c m d u e : Nat) (L C R : List Int) (w : World) (A : Nat → Addr) (hr : Roots w A) (h : RowV w p q s n c m d u e L C R) (hn : n ≤ 17592186043904) (hm : m ≤ 17592186043904) (hu : u ≤ 17592186043904) (j z : Nat) (hc : chkP k a L C R i = some (j, z)) :
    Calls Tryd.prog 32 #[.int .i64 k, .agg #[.int .i64 a, .slice p n c, .slice q m d, .slice s u e], .int .i64 i] w (Err1 w A rowOp j z) := by
  have ST := Lib.hid (box_row w (.int .i64 a) (.slice p n c) (.slice q m d) (.slice s u e))
  unfold chkP at hc
  cases hk : chkRw k a L C R with
  | some y =>
    rw [hk] at hc
    obtain rfl := Option.some.inj hc
    have HC := Lib.hid (fun W hr h => rrcheck_bad k a p q s n c m d u e L C R W A hr h hn hm hu j z hk)
    have H := Lib.hid (And.intro h hr)
    clear h hr hn hm hu hc hk
    go_enter Tryd.func32, Tryd.ntmps32
    go_upto_region 1 with fail
    obtain ⟨w0, hw0⟩ : ∃ w0, w0 = w.alloc (.cells #[.int .i64 a, .slice p n c, .slice q m d, .slice s u e] 24) := ⟨_, rfl⟩
    rw [← hw0]
    obtain ⟨hb0, hE0⟩ := ST.out w0 hw0
    have HE := Lib.hid (And.intro hE0 hb0)
    obtain ⟨hc0, hc1, hc2, hc3⟩ := hE0.facts
    clear hw0 hE0 hb0
    go_wp2_with fail
    refine (HC.out w0 (H.out.2.below HE.out.2) (H.out.1.next HE.out.2)).mono ?_
    rintro e' w1 ⟨b, rfl, hl1, hb1⟩
    have H2 := Lib.hid (And.intro hl1 (HE.out.2.trans (hb1.mono HE.out.2.size)))
    clear hl1 hb1 hc0 hc1 hc2 hc3
    go_wp2_with fail
    go_ret
    exact ⟨b, rfl, H2.out.1, H2.out.2⟩
  | none =>
    rw [hk] at hc
    simp only at hc
    split at hc
    · obtain ⟨rfl, rfl⟩ := Prod.mk.inj (Option.some.inj hc)
      rename_i hi
      obtain ⟨K, rfl, hw⟩ := chkRw_none hk
      have H := Lib.hid (And.intro h (And.intro hw hr))
      clear h hr hn hm hu hc hk hw
      rcases (by omega : i < -1048576 ∨ (¬ i < -1048576 ∧ 1048576 < i)) with h1 | ⟨h1, h2⟩
      all_goals
        clear hi
        go_enter Tryd.func32, Tryd.ntmps32
        go_upto_region 1 with fail
        obtain ⟨w0, hw0⟩ : ∃ w0, w0 = w.alloc (.cells #[.int .i64 a, .slice p n c, .slice q m d, .slice s u e] 24) := ⟨_, rfl⟩
        rw [← hw0]
        obtain ⟨hb0, hE0⟩ := ST.out w0 hw0
        have HE := Lib.hid (And.intro hE0 hb0)
        obtain ⟨hc0, hc1, hc2, hc3⟩ := hE0.facts
        clear hw0 hE0 hb0
        go_wp2_with fail
        refine (rrcheck_ok K a p q s n c m d u e L C R w0 (H.out.1.next HE.out.2) H.out.2.1).mono ?_
        rintro e' w1 ⟨rfl, hb1⟩
        have H1 := Lib.hid (And.intro (HE.out.1.next hb1) (HE.out.2.trans (hb1.mono HE.out.2.size)))
        clear hb1 hc0 hc1 hc2 hc3
        obtain ⟨hc0, hc1, hc2, hc3⟩ := H1.out.1.facts
        go_wp2_with fail
        refine (new_at rowOp 5 3 w1 A (H.out.2.2.below H1.out.2) (by omega)).mono ?_
        rintro e' w2 ⟨b, rfl, hl2, hb2⟩
        have H2 := Lib.hid (And.intro hl2 (H1.out.2.trans (hb2.mono H1.out.2.size)))
        clear hl2 hb2
        go_wp2_with fail
        go_ret
        exact ⟨b, rfl, H2.out.1, H2.out.2⟩
    · cases hc
set_option maxRecDepth 100000 in
set_option maxHeartbeats 4000000 in
theorem rCell_ok (k : Nat) (a i : Int) (p q s : Option Addr) (n c m d u e : Nat) (L C R : List Int) (w : World) (h : RowV w p q s n c m d u e L C R) (hw : OkRw k a L C R) (hi1 : -1048576 ≤ i) (hi2 : i ≤ 1048576) :
    Calls Tryd.prog 11 #[.int .i64 (k : Int), .agg #[.int .i64 a, .slice p n c, .slice q m d, .slice s u e], .int .i64 i] w (Tells (.tuple #[.int .i64 (rwAt a L C R i), .nilIface]) w) := by
  have ST := Lib.hid (box_row w (.int .i64 a) (.slice p n c) (.slice q m d) (.slice s u e))
  have hzs : Rsz a n m u := rsz_of h hw
  obtain ⟨X, hX⟩ : ∃ X, rwAt a L C R i = X := ⟨_, rfl⟩
  have hsym := fun W hW => rsym_any a i p q s n c m d u e L C R W hW hzs (by omega) (by omega)
  rw [hX] at hsym ⊢
  have H := Lib.hid (And.intro h (And.intro hw hsym))
  clear h hw hzs hsym hX
  go_enter Tryd.func11, Tryd.ntmps11
  go_upto_region 1 with fail
  obtain ⟨w0, hw0⟩ : ∃ w0, w0 = w.alloc (.cells #[.int .i64 a, .slice p n c, .slice q m d, .slice s u e] 24) := ⟨_, rfl⟩
  rw [← hw0]
  obtain ⟨hb0, hE0⟩ := ST.out w0 hw0
  have HE := Lib.hid (And.intro hE0 hb0)
  obtain ⟨hc0, hc1, hc2, hc3⟩ := hE0.facts
  clear hw0 hE0 hb0
  go_wp2_with fail
  refine (rpos_ok k a i p q s n c m d u e L C R w0 (H.out.1.next HE.out.2) H.out.2.1 hi1 hi2).mono ?_
  rintro e' w1 ⟨rfl, hb1⟩
  have H1 := Lib.hid (And.intro (HE.out.1.next hb1) (HE.out.2.trans (hb1.mono HE.out.2.size)))
  clear hb1 hc0 hc1 hc2 hc3
  obtain ⟨hc0, hc1, hc2, hc3⟩ := H1.out.1.facts
  go_wp2_with fail
  refine (H.out.2.2 w1 (H.out.1.next H1.out.2)).mono ?_
  rintro e' w2 ⟨rfl, hb2⟩
  have H2 := Lib.hid (H1.out.2.trans (hb2.mono H1.out.2.size))
  clear hb2 hc0 hc1 hc2 hc3
  go_wp2_with fail
  go_ret2
  exact ⟨rfl, H2.out⟩
set_option maxRecDepth 100000 in
set_option maxHeartbeats 4000000 in
theorem rCell_bad (k a i : Int) (p q s : Option Addr) (n c m d u e : Nat) (L C R : List Int) (w : World) (A : Nat → Addr) (hr : Roots w A) (h : RowV w p q s n c m d u e L C R) (hn : n ≤ 17592186043904) (hm : m ≤ 17592186043904) (hu : u ≤ 17592186043904) (j z : Nat) (hc : chkP k a L C R i = some (j, z)) :
    Calls Tryd.prog 11 #[.int .i64 k, .agg #[.int .i64 a, .slice p n c, .slice q m d, .slice s u e], .int .i64 i] w (Err2 w A rowOp j z (.int .i64 0)) := by
  have ST := Lib.hid (box_row w (.int .i64 a) (.slice p n c) (.slice q m d) (.slice s u e))
  have HC := Lib.hid (fun W hr h => rpos_bad k a i p q s n c m d u e L C R W A hr h hn hm hu j z hc)
  have H := Lib.hid (And.intro h hr)
  clear h hr hn hm hu hc
  go_enter Tryd.func11, Tryd.ntmps11
  go_upto_region 1 with fail
  obtain ⟨w0, hw0⟩ : ∃ w0, w0 = w.alloc (.cells #[.int .i64 a, .slice p n c, .slice q m d, .slice s u e] 24) := ⟨_, rfl⟩
  rw [← hw0]
  obtain ⟨hb0, hE0⟩ := ST.out w0 hw0
  have HE := Lib.hid (And.intro hE0 hb0)
  obtain ⟨hc0, hc1, hc2, hc3⟩ := hE0.facts
  clear hw0 hE0 hb0
  go_wp2_with fail
  refine (HC.out w0 (H.out.2.below HE.out.2) (H.out.1.next HE.out.2)).mono ?_
  rintro e' w1 ⟨b, rfl, hl1, hb1⟩
  have H2 := Lib.hid (And.intro hl1 (HE.out.2.trans (hb1.mono HE.out.2.size)))
  clear hl1 hb1 hc0 hc1 hc2 hc3
  go_wp2_with fail
  go_ret2
  exact ⟨b, rfl, H2.out.1, H2.out.2⟩
set_option maxRecDepth 100000 in
set_option maxHeartbeats 4000000 in
theorem rCut_ok (k : Nat) (a i : Int) (N : Nat) (p q s : Option Addr) (n c m d u e : Nat) (L C R : List Int) (w : World) (h : RowV w p q s n c m d u e L C R) (hw : OkRw k a L C R) (hi1 : -1048576 ≤ i) (hi2 : i ≤ 1048576) (hN : N ≤ 4096) :
    Calls Tryd.prog 13 #[.int .i64 (k : Int), .agg #[.int .i64 a, .slice p n c, .slice q m d, .slice s u e], .int .i64 i, .int .i64 (N : Int)] w (IntOk w (pieceR a L C R i N)) := by
  have ST := Lib.hid (box_row w (.int .i64 a) (.slice p n c) (.slice q m d) (.slice s u e))
  have hzs : Rsz a n m u := rsz_of h hw
  have hN4 : ¬ 4096 < N := by omega
  have wiN : IntKind.i64.wrap (i + (N : Int)) = i + (N : Int) := by rw [IntWalk.i64_in _ (by omega)]
  have hPl := pieceR_length a L C R i N
  have hcells := fun W hW => rcells_any a i (i + (N : Int)) N p q s n c m d u e L C R W hW hzs (by omega) (by omega) (by omega) (by omega)
  obtain ⟨Q, hQ⟩ : ∃ Q, pieceR a L C R i N = Q := ⟨_, rfl⟩
  rw [hQ] at hPl hcells ⊢
  unfold IntPost at hcells
  simp only [hPl] at hcells
  have H := Lib.hid (And.intro h (And.intro hw (And.intro hcells hPl)))
  clear h hw hzs hcells hQ hPl
  go_enter Tryd.func13, Tryd.ntmps13
  go_upto_region 1 with fail
  obtain ⟨w0, hw0⟩ : ∃ w0, w0 = w.alloc (.cells #[.int .i64 a, .slice p n c, .slice q m d, .slice s u e] 24) := ⟨_, rfl⟩
  rw [← hw0]
  obtain ⟨hb0, hE0⟩ := ST.out w0 hw0
  have HE := Lib.hid (And.intro hE0 hb0)
  obtain ⟨hc0, hc1, hc2, hc3⟩ := hE0.facts
  clear hw0 hE0 hb0
  go_wp2_with fail
  refine (rpos_ok k a i p q s n c m d u e L C R w0 (H.out.1.next HE.out.2) H.out.2.1 hi1 hi2).mono ?_
  rintro e' w1 ⟨rfl, hb1⟩
  have H1 := Lib.hid (And.intro (HE.out.1.next hb1) (HE.out.2.trans (hb1.mono HE.out.2.size)))
  clear hb1 hc0 hc1 hc2 hc3
  obtain ⟨hc0, hc1, hc2, hc3⟩ := H1.out.1.facts
  go_wp2_with fail
  refine (H.out.2.2.1 w1 (H.out.1.next H1.out.2)).mono ?_
  rintro e' w2 ⟨p2, c2, rfl, ho2, hb2⟩
  have H2 := Lib.hid (And.intro (ho2.base H1.out.2.size) (H1.out.2.trans (hb2.mono H1.out.2.size)))
  clear ho2 hb2 hc0 hc1 hc2 hc3
  go_wp2_with fail
  go_ret2
  exact ⟨p2, c2, by rw [H.out.2.2.2]; rfl, H2.out.1, H2.out.2⟩
set_option maxRecDepth 100000 in
set_option maxHeartbeats 4000000 in
theorem rCut_bad (k a i x : Int) (p q s : Option Addr) (n c m d u e : Nat) (L C R : List Int) (w : World) (A : Nat → Addr) (hr : Roots w A) (h : RowV w p q s n c m d u e L C R) (hn : n ≤ 17592186043904) (hm : m ≤ 17592186043904) (hu : u ≤ 17592186043904) (j z : Nat) (hc : chkC k a L C R i x = some (j, z)) :
    Calls Tryd.prog 13 #[.int .i64 k, .agg #[.int .i64 a, .slice p n c, .slice q m d, .slice s u e], .int .i64 i, .int .i64 x] w (Err2 w A rowOp j z (.slice none 0 0)) := by
  have ST := Lib.hid (box_row w (.int .i64 a) (.slice p n c) (.slice q m d) (.slice s u e))
  unfold chkC at hc
  cases hk : chkP k a L C R i with
  | some y =>
    rw [hk] at hc
    obtain rfl := Option.some.inj hc
    have HC := Lib.hid (fun W hr h => rpos_bad k a i p q s n c m d u e L C R W A hr h hn hm hu j z hk)
    have H := Lib.hid (And.intro h hr)
    clear h hr hn hm hu hc hk
    go_enter Tryd.func13, Tryd.ntmps13
    go_upto_region 1 with fail
    obtain ⟨w0, hw0⟩ : ∃ w0, w0 = w.alloc (.cells #[.int .i64 a, .slice p n c, .slice q m d, .slice s u e] 24) := ⟨_, rfl⟩
    rw [← hw0]
    obtain ⟨hb0, hE0⟩ := ST.out w0 hw0
    have HE := Lib.hid (And.intro hE0 hb0)
    obtain ⟨hc0, hc1, hc2, hc3⟩ := hE0.facts
    clear hw0 hE0 hb0
    go_wp2_with fail
    refine (HC.out w0 (H.out.2.below HE.out.2) (H.out.1.next HE.out.2)).mono ?_
    rintro e' w1 ⟨b, rfl, hl1, hb1⟩
    have H2 := Lib.hid (And.intro hl1 (HE.out.2.trans (hb1.mono HE.out.2.size)))
    clear hl1 hb1 hc0 hc1 hc2 hc3
    go_wp2_with fail
    go_ret2
    exact ⟨b, rfl, H2.out.1, H2.out.2⟩
  | none =>
    rw [hk] at hc
    simp only at hc
    obtain ⟨hkr, hi1, hi2⟩ := chkP_none hk
    obtain ⟨K, rfl, hw⟩ := chkRw_none hkr
    have H := Lib.hid (And.intro h (And.intro hw hr))
    clear h hr hn hm hu hk hw hkr
    by_cases hx : x < 0
    · rw [if_pos hx] at hc
      obtain ⟨rfl, rfl⟩ := Prod.mk.inj (Option.some.inj hc)
      clear hc
      go_enter Tryd.func13, Tryd.ntmps13
      go_upto_region 1 with fail
      obtain ⟨w0, hw0⟩ : ∃ w0, w0 = w.alloc (.cells #[.int .i64 a, .slice p n c, .slice q m d, .slice s u e] 24) := ⟨_, rfl⟩
      rw [← hw0]
      obtain ⟨hb0, hE0⟩ := ST.out w0 hw0
      have HE := Lib.hid (And.intro hE0 hb0)
      obtain ⟨hc0, hc1, hc2, hc3⟩ := hE0.facts
      clear hw0 hE0 hb0
      go_wp2_with fail
      refine (rpos_ok K a i p q s n c m d u e L C R w0 (H.out.1.next HE.out.2) H.out.2.1 hi1 hi2).mono ?_
      rintro e' w1 ⟨rfl, hb1⟩
      have H1 := Lib.hid (And.intro (HE.out.1.next hb1) (HE.out.2.trans (hb1.mono HE.out.2.size)))
      clear hb1 hc0 hc1 hc2 hc3
      obtain ⟨hc0, hc1, hc2, hc3⟩ := H1.out.1.facts
      go_wp2_with fail
      refine (new_at rowOp 6 3 w1 A (H.out.2.2.below H1.out.2) (by omega)).mono ?_
      rintro e' w2 ⟨b, rfl, hl2, hb2⟩
      have H2 := Lib.hid (And.intro hl2 (H1.out.2.trans (hb2.mono H1.out.2.size)))
      clear hl2 hb2
      go_wp2_with fail
      go_ret2
      exact ⟨b, rfl, H2.out.1, H2.out.2⟩
    · rw [if_neg hx] at hc
      by_cases hx4 : 4096 < x
      · rw [if_pos hx4] at hc
        obtain ⟨rfl, rfl⟩ := Prod.mk.inj (Option.some.inj hc)
        clear hc
        go_enter Tryd.func13, Tryd.ntmps13
        go_upto_region 1 with fail
        obtain ⟨w0, hw0⟩ : ∃ w0, w0 = w.alloc (.cells #[.int .i64 a, .slice p n c, .slice q m d, .slice s u e] 24) := ⟨_, rfl⟩
        rw [← hw0]
        obtain ⟨hb0, hE0⟩ := ST.out w0 hw0
        have HE := Lib.hid (And.intro hE0 hb0)
        obtain ⟨hc0, hc1, hc2, hc3⟩ := hE0.facts
        clear hw0 hE0 hb0
        go_wp2_with fail
        refine (rpos_ok K a i p q s n c m d u e L C R w0 (H.out.1.next HE.out.2) H.out.2.1 hi1 hi2).mono ?_
        rintro e' w1 ⟨rfl, hb1⟩
        have H1 := Lib.hid (And.intro (HE.out.1.next hb1) (HE.out.2.trans (hb1.mono HE.out.2.size)))
        clear hb1 hc0 hc1 hc2 hc3
        obtain ⟨hc0, hc1, hc2, hc3⟩ := H1.out.1.facts
        go_wp2_with fail
        refine (new_at rowOp 6 4 w1 A (H.out.2.2.below H1.out.2) (by omega)).mono ?_
        rintro e' w2 ⟨b, rfl, hl2, hb2⟩
        have H2 := Lib.hid (And.intro hl2 (H1.out.2.trans (hb2.mono H1.out.2.size)))
        clear hl2 hb2
        go_wp2_with fail
        go_ret2
        exact ⟨b, rfl, H2.out.1, H2.out.2⟩
      · rw [if_neg hx4] at hc
        cases hc
end Go.Proofs.YtfgoflaeclfggaaDoor
end
section
namespace Go.Proofs.YtfgoflaeclfggaaDoor
open Go.RowKit Go.Extern.Stop Go.Stop Go.Extern WordM RuleM

attribute [local go_sem ↓] Go.wp_at_zero Go.wp_at_succ
theorem two_rows (w : World) (a b c d a' b' c' d' : Value) (w0 : World) (hw0 : w0 = (w.alloc (.cells #[a, b, c, d] 24)).alloc (.cells #[a', b', c', d'] 24)) :
    Below w.heap.size w w0 ∧ Row4 w0 w.heap.size a b c d ∧ Row4 w0 (w.heap.size + 1) a' b' c' d' := by
  obtain ⟨h1, h2⟩ := box_row w a b c d _ rfl
  obtain ⟨h3, h4⟩ := box_row (w.alloc (.cells #[a, b, c, d] 24)) a' b' c' d' w0 hw0
  have hs : (w.alloc (.cells #[a, b, c, d] 24)).heap.size = w.heap.size + 1 := by simp
  rw [hs] at h4
  exact ⟨h1.trans (h3.mono h1.size), h2.next h3, h4⟩
/-- the fault of the first row, or that of the second -/
def chkE (k a : Int) (L C R : List Int) (a' : Int) (L' C' R' : List Int) : Option (Nat × Nat) := match chkRw k a L C R with
  | some y => some y
  | none => chkRw k a' L' C' R'
theorem chkE_none {k a a' : Int} {L C R L' C' R' : List Int} (h : chkE k a L C R a' L' C' R' = none) : chkRw k a L C R = none ∧ chkRw k a' L' C' R' = none := by
  unfold chkE at h
  cases hk : chkRw k a L C R with
  | some y => rw [hk] at h; cases h
  | none => rw [hk] at h; exact ⟨rfl, h⟩
theorem chkE_num {k a a' : Int} {L C R L' C' R' : List Int} : ∀ y, chkE k a L C R a' L' C' R' = some y → 2 ≤ y.2 ∧ y.2 ≤ 4 := fun y h => by
  unfold chkE at h
  cases hk : chkRw k a L C R with
  | some z => rw [hk] at h; obtain rfl := Option.some.inj h; exact chkRw_num _ hk
  | none => rw [hk] at h; exact chkRw_num _ h
set_option maxRecDepth 100000 in
set_option maxHeartbeats 8000000 in
theorem rSame_bad (k : Int) (a a' : Int) (p q s p' q' s' : Option Addr) (n c m d u e n' c' m' d' u' e' : Nat) (L C R L' C' R' : List Int) (w : World) (A : Nat → Addr) (hr : Roots w A) (h : RowV w p q s n c m d u e L C R) (h' : RowV w p' q' s' n' c' m' d' u' e' L' C' R') (hn : n ≤ 17592186043904) (hm : m ≤ 17592186043904) (hu : u ≤ 17592186043904) (hn' : n' ≤ 17592186043904) (hm' : m' ≤ 17592186043904) (hu' : u' ≤ 17592186043904) (j z : Nat) (hc : chkE k a L C R a' L' C' R' = some (j, z)) :
    Calls Tryd.prog 20 #[.int .i64 k, .agg #[.int .i64 a, .slice p n c, .slice q m d, .slice s u e], .agg #[.int .i64 a', .slice p' n' c', .slice q' m' d', .slice s' u' e']] w (Err2 w A rowOp j z (.bool false)) := by
  have ST := Lib.hid (two_rows w (.int .i64 a) (.slice p n c) (.slice q m d) (.slice s u e) (.int .i64 a') (.slice p' n' c') (.slice q' m' d') (.slice s' u' e'))
  unfold chkE at hc
  cases hk : chkRw k a L C R with
  | some y =>
    rw [hk] at hc
    obtain rfl := Option.some.inj hc
    have HC := Lib.hid (fun W hr h => rrcheck_bad k a p q s n c m d u e L C R W A hr h hn hm hu j z hk)
    have H := Lib.hid (And.intro h hr)
    clear h h' hr hn hm hu hn' hm' hu' hc hk
    go_enter Tryd.func20, Tryd.ntmps20
    go_upto_region 1 with fail
    obtain ⟨w0, hw0⟩ : ∃ w0, w0 = (w.alloc (.cells #[.int .i64 a, .slice p n c, .slice q m d, .slice s u e] 24)).alloc (.cells #[.int .i64 a', .slice p' n' c', .slice q' m' d', .slice s' u' e'] 24) := ⟨_, rfl⟩
    rw [← hw0]
    obtain ⟨hb0, hE0, hF0⟩ := ST.out w0 hw0
    have HE := Lib.hid (And.intro hE0 (And.intro hF0 hb0))
    obtain ⟨hc0, hc1, hc2, hc3⟩ := hE0.facts
    obtain ⟨hd0, hd1, hd2, hd3⟩ := hF0.facts
    clear hw0 hE0 hF0 hb0
    go_wp2_with fail
    refine (HC.out w0 (H.out.2.below HE.out.2.2) (H.out.1.next HE.out.2.2)).mono ?_
    rintro e' w9 ⟨b, rfl, hl1, hb1⟩
    have H9 := Lib.hid (And.intro hl1 (HE.out.2.2.trans (hb1.mono HE.out.2.2.size)))
    clear hl1 hb1 hc0 hc1 hc2 hc3 hd0 hd1 hd2 hd3
    go_wp2_with fail
    go_ret2
    exact ⟨b, rfl, H9.out.1, H9.out.2⟩
  | none =>
    rw [hk] at hc
    simp only at hc
    obtain ⟨K, rfl, hw⟩ := chkRw_none hk
    have HC := Lib.hid (And.intro (fun W h => rrcheck_ok K a p q s n c m d u e L C R W h hw) (fun W hr h => rrcheck_bad K a' p' q' s' n' c' m' d' u' e' L' C' R' W A hr h hn' hm' hu' j z hc))
    have H := Lib.hid (And.intro h (And.intro h' hr))
    clear h h' hr hn hm hu hn' hm' hu' hc hk hw
    go_enter Tryd.func20, Tryd.ntmps20
    go_upto_region 1 with fail
    obtain ⟨w0, hw0⟩ : ∃ w0, w0 = (w.alloc (.cells #[.int .i64 a, .slice p n c, .slice q m d, .slice s u e] 24)).alloc (.cells #[.int .i64 a', .slice p' n' c', .slice q' m' d', .slice s' u' e'] 24) := ⟨_, rfl⟩
    rw [← hw0]
    obtain ⟨hb0, hE0, hF0⟩ := ST.out w0 hw0
    have HE := Lib.hid (And.intro hE0 (And.intro hF0 hb0))
    obtain ⟨hc0, hc1, hc2, hc3⟩ := hE0.facts
    obtain ⟨hd0, hd1, hd2, hd3⟩ := hF0.facts
    clear hw0 hE0 hF0 hb0
    go_wp2_with fail
    refine (HC.out.1 w0 (H.out.1.next HE.out.2.2)).mono ?_
    rintro e' w1 ⟨rfl, hb1⟩
    have H1 := Lib.hid (And.intro (HE.out.1.next hb1) (And.intro (HE.out.2.1.next hb1) (HE.out.2.2.trans (hb1.mono HE.out.2.2.size))))
    clear hb1 hc0 hc1 hc2 hc3 hd0 hd1 hd2 hd3
    obtain ⟨hc0, hc1, hc2, hc3⟩ := H1.out.1.facts
    obtain ⟨hd0, hd1, hd2, hd3⟩ := H1.out.2.1.facts
    go_wp2_with fail
    refine (HC.out.2 w1 (H.out.2.2.below H1.out.2.2) (H.out.2.1.next H1.out.2.2)).mono ?_
    rintro e' w9 ⟨b, rfl, hl1, hb1⟩
    have H9 := Lib.hid (And.intro hl1 (H1.out.2.2.trans (hb1.mono H1.out.2.2.size)))
    clear hl1 hb1 hc0 hc1 hc2 hc3 hd0 hd1 hd2 hd3
    go_wp2_with fail
    go_ret2
    exact ⟨b, rfl, H9.out.1, H9.out.2⟩
set_option maxRecDepth 100000 in
set_option maxHeartbeats 32000000 in
theorem rSame_ok (k : Nat) (a a' : Int) (p q s p' q' s' : Option Addr) (n c m d u e n' c' m' d' u' e' : Nat) (L C R L' C' R' : List Int) (w : World) (h : RowV w p q s n c m d u e L C R) (h' : RowV w p' q' s' n' c' m' d' u' e' L' C' R') (hw : OkRw k a L C R) (hw' : OkRw k a' L' C' R') (B : Bool) (hB : B = true ↔ OneR a L C R a' L' C' R') :
    Calls Tryd.prog 20 #[.int .i64 (k : Int), .agg #[.int .i64 a, .slice p n c, .slice q m d, .slice s u e], .agg #[.int .i64 a', .slice p' n' c', .slice q' m' d', .slice s' u' e']] w (Tells (.tuple #[.bool B, .nilIface]) w) := by
  have ST := Lib.hid (two_rows w (.int .i64 a) (.slice p n c) (.slice q m d) (.slice s u e) (.int .i64 a') (.slice p' n' c') (.slice q' m' d') (.slice s' u' e'))
  have hzs := rsz_of h hw
  have hzs' := rsz_of h' hw'
  have hn1 := hw.l1
  have hn2 := hw'.l1
  have hu1 := hw.r1
  have hu2 := hw'.r1
  have hm1 := hw.c1
  have hm2 := hw'.c1
  rw [← h.hn] at hn1
  rw [← h'.hn] at hn2
  rw [← h.hu] at hu1
  rw [← h'.hu] at hu2
  rw [← h.hm] at hm1
  rw [← h'.hm] at hm2
  have a1 := hw.a1
  have a2 := hw.a2
  have b1 := hw'.a1
  have b2 := hw'.a2
  obtain ⟨lo0, hlo0⟩ : ∃ x, min a a' = x := ⟨_, rfl⟩
  obtain ⟨lo, hlo⟩ : ∃ x, lo0 - (n : Int) - (n' : Int) = x := ⟨_, rfl⟩
  obtain ⟨hi0, hhi0⟩ : ∃ x, max (a + (m : Int)) (a' + (m' : Int)) = x := ⟨_, rfl⟩
  obtain ⟨hi, hhi⟩ : ∃ x, hi0 + (u : Int) + (u' : Int) = x := ⟨_, rfl⟩
  obtain ⟨N, hN⟩ : ∃ N : Nat, hi - lo = (N : Int) := ⟨(hi - lo).toNat, by omega⟩
  have hN2 : N ≤ 100000 := by omega
  have hl1 : -100000 ≤ lo := by omega
  have hl2 : lo ≤ 100000 := by omega
  have w1 : IntKind.i64.wrap (lo0 - (n : Int)) = lo0 - (n : Int) := by rw [IntWalk.i64_in _ (by omega)]
  have w2 : IntKind.i64.wrap (lo0 - (n : Int) - (n' : Int)) = lo := by rw [IntWalk.i64_in _ (by omega)]; exact hlo
  have w3 : IntKind.i64.wrap (hi0 + (u : Int)) = hi0 + (u : Int) := by rw [IntWalk.i64_in _ (by omega)]
  have w4 : IntKind.i64.wrap (hi0 + (u : Int) + (u' : Int)) = hi := by rw [IntWalk.i64_in _ (by omega)]; exact hhi
  have hc1 := fun W hW => rcells_any a lo hi N p q s n c m d u e L C R W hW hzs (by omega) (by omega) hN (by omega)
  have hc2 := fun W hW => rcells_any a' lo hi N p' q' s' n' c' m' d' u' e' L' C' R' W hW hzs' (by omega) (by omega) hN (by omega)
  have hPl := pieceR_length a L C R lo N
  have hPl' := pieceR_length a' L' C' R' lo N
  have hBe : sameI (pieceR a L C R lo N) (pieceR a' L' C' R' lo N) = B := by
    have key : sameI (pieceR a L C R lo N) (pieceR a' L' C' R' lo N) = true ↔ OneR a L C R a' L' C' R' := by
      constructor
      · intro hs
        have he : pieceR a L C R lo N = pieceR a' L' C' R' lo N := of_decide_eq_true hs
        refine one_of hw.l0 hw'.l0 hw.r0 hw'.r0 (lo := lo) (hi := hi) ?_ ?_ ?_ ?_ (fun i h1 h2 => piece_one he i h1 (by omega))
        · rw [← h.hn, ← h'.hn]; omega
        · rw [← h.hn, ← h'.hn]; omega
        · rw [← h.hm, ← h.hu, ← h'.hu]; omega
        · rw [← h'.hm, ← h.hu, ← h'.hu]; omega
      · intro ho
        rw [ho.piece lo N]
        exact sameI_self _
    rw [← hB] at key
    cases B <;> simpa using key
  obtain ⟨X, hX⟩ : ∃ X, pieceR a L C R lo N = X := ⟨_, rfl⟩
  obtain ⟨Y, hY⟩ : ∃ X, pieceR a' L' C' R' lo N = X := ⟨_, rfl⟩
  rw [hX] at hPl hc1 hBe
  rw [hY] at hPl' hc2 hBe
  unfold IntPost at hc1 hc2
  simp only [hPl] at hc1
  simp only [hPl'] at hc2
  have heq : ∀ (W : World) (pa pb : Option Addr) (ca cb : Nat), IntV W.heap.size W pa ca X → IntV W.heap.size W pb cb Y → Calls Tryd.prog 48 #[.slice pa N ca, .slice pb N cb] W (Tells (.bool B) W) := fun W pa pb ca cb h1 h2 => by
    rw [← hBe]
    exact Quiet.tells (equal_q pa pb N N ca cb X Y W hPl.symm hPl'.symm (hPl.trans hPl'.symm) h1 h2)
  have HC := Lib.hid (And.intro (fun W h => rrcheck_ok k a p q s n c m d u e L C R W h hw) (And.intro (fun W h => rrcheck_ok k a' p' q' s' n' c' m' d' u' e' L' C' R' W h hw') (And.intro hc1 (And.intro hc2 heq))))
  have H := Lib.hid (And.intro h h')
  have he1 : ∀ W, Calls Tryd.prog 47 #[.agg #[.int .i64 a, .slice p n c, .slice q m d, .slice s u e]] W (Tells (.int .i64 (a + (m : Int))) W) := fun W => rend_any a p q s n c m d u e W (by omega) (by omega) (by omega)
  have he2 : ∀ W, Calls Tryd.prog 47 #[.agg #[.int .i64 a', .slice p' n' c', .slice q' m' d', .slice s' u' e']] W (Tells (.int .i64 (a' + (m' : Int))) W) := fun W => rend_any a' p' q' s' n' c' m' d' u' e' W (by omega) (by omega) (by omega)
  have HEN := Lib.hid (And.intro he1 he2)
  clear h h' hw hw' hzs hzs' hc1 hc2 hPl hPl' hBe hX hY heq hB hN hlo hhi he1 he2 hn1 hn2 hu1 hu2 hm1 hm2 a1 a2 b1 b2 hN2 hl1 hl2
  go_enter Tryd.func20, Tryd.ntmps20
  go_upto_region 1 with fail
  obtain ⟨w0, hw0⟩ : ∃ w0, w0 = (w.alloc (.cells #[.int .i64 a, .slice p n c, .slice q m d, .slice s u e] 24)).alloc (.cells #[.int .i64 a', .slice p' n' c', .slice q' m' d', .slice s' u' e'] 24) := ⟨_, rfl⟩
  rw [← hw0]
  obtain ⟨hb0, hE0, hF0⟩ := ST.out w0 hw0
  have HE := Lib.hid (And.intro hE0 (And.intro hF0 hb0))
  obtain ⟨hc0, hc1, hc2, hc3⟩ := hE0.facts
  obtain ⟨hd0, hd1, hd2, hd3⟩ := hF0.facts
  clear hw0 hE0 hF0 hb0
  go_wp2_with fail
  refine (HC.out.1 w0 (H.out.1.next HE.out.2.2)).mono ?_
  rintro e' w1 ⟨rfl, hb1⟩
  have H1 := Lib.hid (And.intro (HE.out.1.next hb1) (And.intro (HE.out.2.1.next hb1) (HE.out.2.2.trans (hb1.mono HE.out.2.2.size))))
  clear hb1 hc0 hc1 hc2 hc3 hd0 hd1 hd2 hd3
  obtain ⟨hc0, hc1, hc2, hc3⟩ := H1.out.1.facts
  obtain ⟨hd0, hd1, hd2, hd3⟩ := H1.out.2.1.facts
  go_wp2_with fail
  refine (HC.out.2.1 w1 (H.out.2.next H1.out.2.2)).mono ?_
  rintro e' w2 ⟨rfl, hb1⟩
  have H2 := Lib.hid (And.intro (H1.out.1.next hb1) (And.intro (H1.out.2.1.next hb1) (H1.out.2.2.trans (hb1.mono H1.out.2.2.size))))
  clear hb1 hc0 hc1 hc2 hc3 hd0 hd1 hd2 hd3
  obtain ⟨hc0, hc1, hc2, hc3⟩ := H2.out.1.facts
  obtain ⟨hd0, hd1, hd2, hd3⟩ := H2.out.2.1.facts
  go_upto_region 8 with fail
  have hxA : ∀ wx : World, Below w2.heap.size w2 wx → (wx.cell? ⟨w.heap.size, 0, none⟩ = some (.int .i64 a) ∧ wx.cell? ⟨w.heap.size, 1, none⟩ = some (.slice p n c) ∧ wx.cell? ⟨w.heap.size, 2, none⟩ = some (.slice q m d) ∧ wx.cell? ⟨w.heap.size, 3, none⟩ = some (.slice s u e)) ∧ (wx.cell? ⟨w.heap.size + 1, 0, none⟩ = some (.int .i64 a') ∧ wx.cell? ⟨w.heap.size + 1, 1, none⟩ = some (.slice p' n' c') ∧ wx.cell? ⟨w.heap.size + 1, 2, none⟩ = some (.slice q' m' d') ∧ wx.cell? ⟨w.heap.size + 1, 3, none⟩ = some (.slice s' u' e')) := fun wx hb => ⟨(H2.out.1.next hb).facts, (H2.out.2.1.next hb).facts⟩
  have hdr : Below w2.heap.size w2 w2.drew := (Below.refl _ _).drew
  go_region_held3 (fun w' => (w'.cell? ⟨w.heap.size, 0, none⟩ = some (.int .i64 a) ∧ w'.cell? ⟨w.heap.size, 1, none⟩ = some (.slice p n c) ∧ w'.cell? ⟨w.heap.size, 2, none⟩ = some (.slice q m d) ∧ w'.cell? ⟨w.heap.size, 3, none⟩ = some (.slice s u e)) ∧ (w'.cell? ⟨w.heap.size + 1, 0, none⟩ = some (.int .i64 a') ∧ w'.cell? ⟨w.heap.size + 1, 1, none⟩ = some (.slice p' n' c') ∧ w'.cell? ⟨w.heap.size + 1, 2, none⟩ = some (.slice q' m' d') ∧ w'.cell? ⟨w.heap.size + 1, 3, none⟩ = some (.slice s' u' e'))) (first | exact hxA _ (by assumption) | exact hxA _ (Below.refl _ _) | exact hxA _ hdr | go_keep) (first
    | (go_at_call 47; refine (HEN.out.2 _).mono ?_; rintro e' wb ⟨rfl, hbb⟩; have hBb : Below w2.heap.size w2 wb := hBa.trans (hbb.mono hBa.size))
    | (go_at_call 47; refine (HEN.out.1 _).mono ?_; rintro e' wa ⟨rfl, hba⟩; have hBa : Below w2.heap.size w2 wa := (by first | exact hba | exact hdr.trans (hba.mono hdr.size))))
  all_goals
    have H3 := Lib.hid (And.intro (H2.out.1.next hBb) (And.intro (H2.out.2.1.next hBb) (H2.out.2.2.trans (hBb.mono H2.out.2.2.size))))
    clear hxA hdr hba hbb hBa hBb hc0 hc1 hc2 hc3 hd0 hd1 hd2 hd3
    go_upto_region 9 with fail
    have hxA : ∀ wx : World, Below wb.heap.size wb wx → (wx.cell? ⟨w.heap.size, 0, none⟩ = some (.int .i64 a) ∧ wx.cell? ⟨w.heap.size, 1, none⟩ = some (.slice p n c) ∧ wx.cell? ⟨w.heap.size, 2, none⟩ = some (.slice q m d) ∧ wx.cell? ⟨w.heap.size, 3, none⟩ = some (.slice s u e)) ∧ (wx.cell? ⟨w.heap.size + 1, 0, none⟩ = some (.int .i64 a') ∧ wx.cell? ⟨w.heap.size + 1, 1, none⟩ = some (.slice p' n' c') ∧ wx.cell? ⟨w.heap.size + 1, 2, none⟩ = some (.slice q' m' d') ∧ wx.cell? ⟨w.heap.size + 1, 3, none⟩ = some (.slice s' u' e')) := fun wx hb => ⟨(H3.out.1.next hb).facts, (H3.out.2.1.next hb).facts⟩
    have hdr : Below wb.heap.size wb wb.drew := (Below.refl _ _).drew
    go_region_held3 (fun w' => (w'.cell? ⟨w.heap.size, 0, none⟩ = some (.int .i64 a) ∧ w'.cell? ⟨w.heap.size, 1, none⟩ = some (.slice p n c) ∧ w'.cell? ⟨w.heap.size, 2, none⟩ = some (.slice q m d) ∧ w'.cell? ⟨w.heap.size, 3, none⟩ = some (.slice s u e)) ∧ (w'.cell? ⟨w.heap.size + 1, 0, none⟩ = some (.int .i64 a') ∧ w'.cell? ⟨w.heap.size + 1, 1, none⟩ = some (.slice p' n' c') ∧ w'.cell? ⟨w.heap.size + 1, 2, none⟩ = some (.slice q' m' d') ∧ w'.cell? ⟨w.heap.size + 1, 3, none⟩ = some (.slice s' u' e'))) (first | exact hxA _ (by assumption) | exact hxA _ (Below.refl _ _) | exact hxA _ hdr | go_keep) (first
      | (go_at_call 38; refine (HC.out.2.2.2.1 _ ((H.out.2.next H3.out.2.2).next hBx)).mono ?_; rintro e' wy ⟨py, cy, rfl, hoy, hby⟩; have hBy : Below wb.heap.size wb wy := hBx.trans (hby.mono hBx.size))
      | (go_at_call 38; refine (HC.out.2.2.1 _ ((H.out.1.next H3.out.2.2).next hdr)).mono ?_; rintro e' wx ⟨px, cx, rfl, hox, hbx⟩; have hBx : Below wb.heap.size wb wx := (by first | exact hbx | exact hdr.trans (hbx.mono hdr.size)))
      | (go_at_call 48; refine (HC.out.2.2.2.2 _ px py cx cy (hox.toV.next hby) hoy.toV).mono ?_; rintro e' wz ⟨rfl, hbz⟩; have hBz : Below wb.heap.size wb wz := hBy.trans (hbz.mono hBy.size)))
    all_goals
      have H4 := Lib.hid (H3.out.2.2.trans (hBz.mono H3.out.2.2.size))
      clear hxA hdr hbx hby hbz hBx hBy hBz hox hoy
      go_wp2_with fail
      go_ret2
      exact ⟨rfl, H4.out⟩
end Go.Proofs.YtfgoflaeclfggaaDoor
end
section
namespace Go.Proofs.YtfgoflaeclfggaaDoor
open Go.RowKit Go.Extern.Stop Go.Stop Go.Extern WordM NatM

/-- bytes in a block of the call's own -/
def ByteO (base : Nat) (w : World) (g n : Nat) (l : List Nat) : Prop := w.ownsRow base 5 1 (.slice (some ⟨g, 0, none⟩) n n) n (cells8 l)
theorem ByteO.made (w : World) (n : Nat) (hn : n ≤ 17592186044000) : ByteO w.heap.size (w.alloc (.cells (madeCells #[.int .u8 0] n) 5)) w.heap.size n (List.replicate n 0) := by
  refine ⟨by simp [cells8], Or.inr ⟨w.heap.size, n, madeCells #[.int .u8 0] n, rfl, Nat.le_refl _, heap_newN _ _, Nat.le_refl _, by unfold maxLen; omega, by rw [size_madeCells, Nat.mul_one], ?_⟩⟩
  rw [madeI_list, Nat.mul_one, List.take_of_length_le (by simp)]
  simp [cells8]

/-- the digits of a word's text -/
def txL (l : List Int) : List Nat := l.map fun x => 48 + x.toNat
def txW (l : List Int) : ByteArray := strOfNums ((txL l).map fun (d : Nat) => (d : Int))
theorem txL_length (l : List Int) : (txL l).length = l.length := by simp [txL]
theorem txL_get {l : List Int} {j : Nat} {x : Int} (h : l[j]? = some x) : (txL l)[j]? = some (48 + x.toNat) := by simp [txL, h]
theorem txW_size (l : List Int) : (txW l).size = l.length := by unfold txW; rw [strOfNums_size, List.length_map, txL_length]
/-- read back -/
theorem sW_txW {k : Nat} (hk : k ≤ 4) {l : List Int} (h : okW k l) : sW (txW l) = l := by
  unfold sW txW
  rw [bsOf_strOfNums]
  · unfold txL
    rw [List.map_map]
    conv => rhs; rw [← List.map_id l]
    apply List.map_congr_left
    intro x hx
    have := h x hx
    simp
    omega
  · intro x hx
    unfold txL at hx
    obtain ⟨y, hy, rfl⟩ := List.mem_map.1 hx
    have := h y hy
    omega
/-- written again -/
theorem txW_sW {k : Nat} {s : ByteArray} (h : okW k (sW s)) : txW (sW s) = s := by
  unfold txW
  have e : txL (sW s) = bsOf s := by
    unfold txL
    unfold sW at h ⊢
    rw [List.map_map]
    conv => rhs; rw [← List.map_id (bsOf s)]
    apply List.map_congr_left
    intro x hx
    have := h ((x : Int) - 48) (List.mem_map.2 ⟨x, hx, rfl⟩)
    simp
    omega
  rw [e, strOfNums_bsOf]
theorem put_nextB {l : List Nat} {j n x : Nat} (h : l[j]? = some x) (hj : j < n) : (l.take j ++ List.replicate (n - j) 0).set j x = l.take (j + 1) ++ List.replicate (n - (j + 1)) 0 := by
  have hl := (List.getElem?_eq_some_iff.1 h).1
  rw [List.set_append_right _ _ (by rw [List.length_take]; omega), List.length_take, Nat.min_eq_left (by omega), Nat.sub_self, List.take_add_one, h]
  obtain ⟨m, hm⟩ : ∃ m, n - j = m + 1 := ⟨n - j - 1, by omega⟩
  rw [hm, show n - (j + 1) = m by omega, List.replicate_succ]
  simp

/-- a text, and no error -/
def StrOk (w : World) (s : ByteArray) (e : Ending) (w' : World) : Prop := e = .returned (.tuple #[.string s, .nilIface]) ∧ Below w.heap.size w w'
def TextWRel (w : World) (n g : Nat) (l : List Int) (v : Value) (wr : World) : Prop :=
  ∃ j : Nat, j ≤ n ∧ v = .int .i64 (j : Int) ∧ ByteO w.heap.size wr g n ((txL l).take j ++ List.replicate (n - j) 0) ∧ Below w.heap.size w wr
end Go.Proofs.YtfgoflaeclfggaaDoor
end
section
namespace Go.Proofs
open Go.Shelf
def Tryd.lays111_ren : Go.Shelf.Ren := ⟨fun | 111 => 48 | n => n, fun | 28 => 22 | 3 => 3 | 4 => 4 | 0 => 0 | n => n, fun | n => n⟩
theorem Tryd.lays111 : Go.Proofs.Lays.n111 Tryd.prog Tryd.lays111_ren := {
  mixed := by kernel_rfl
  f111 := Tryd.func48.trans (congrArg some (by kernel_rfl))
  t0 := Tryd.underlying0
  a0 := Tryd.isAgg0
  z0 := Tryd.sizeOf0
  v0 := Tryd.zeroValue0
  t3 := Tryd.underlying3
  a3 := Tryd.isAgg3
  z3 := Tryd.sizeOf3
  v3 := Tryd.zeroValue3
  t4 := Tryd.underlying4
  a4 := Tryd.isAgg4
  z4 := Tryd.sizeOf4
  v4 := Tryd.zeroValue4
  t28 := Tryd.underlying22
  a28 := Tryd.isAgg22
  z28 := Tryd.sizeOf22
  v28 := Tryd.zeroValue22 }
open Go.RowKit Go.Lib in
theorem Tryd.slices_Equal_int (b1 o1 n c b2 o2 m d : Nat) (xs ys : List Int) (w : World) (hx : n ≤ xs.length) (hy : m ≤ ys.length) (hbig : n ≤ 9223372036854775807) (hbig2 : m ≤ 9223372036854775807) (hc1 : ∀ j, j < xs.length → w.cell? ⟨b1, o1 + j, none⟩ = some (.int .i64 (xs.getD j 0))) (hc2 : ∀ j, j < ys.length → w.cell? ⟨b2, o2 + j, none⟩ = some (.int .i64 (ys.getD j 0))) :
    Calls Tryd.prog 48 #[.slice (some ⟨b1, o1, none⟩) n c, .slice (some ⟨b2, o2, none⟩) m d] w fun e w' => e = .returned (.bool (xs.take n == ys.take m)) ∧ ∃ q, w' = w.drewN q := Any.slices_Equal_int Tryd.lays111 b1 o1 n c b2 o2 m d xs ys w hx hy hbig hbig2 hc1 hc2
open Go.RowKit Go.Lib in
theorem Tryd.slices_Equal_int_empty (a1 a2 : Option Addr) (c m d : Nat) (w : World) (hbig2 : m ≤ 9223372036854775807) :
    Calls Tryd.prog 48 #[.slice a1 0 c, .slice a2 m d] w fun e w' => e = .returned (.bool (decide (m = 0))) ∧ w' = w := Any.slices_Equal_int_empty Tryd.lays111 a1 a2 c m d w hbig2
open Go.RowKit Go.Lib in
theorem Tryd.slices_Equal_int_lens (a1 a2 : Option Addr) (n c m d : Nat) (w : World) (hnm : n ≠ m) :
    Calls Tryd.prog 48 #[.slice a1 n c, .slice a2 m d] w fun e w' => e = .returned (.bool false) ∧ w' = w := Any.slices_Equal_int_lens Tryd.lays111 a1 a2 n c m d w hnm
end Go.Proofs
end
section
namespace Go.Proofs.YtfgoflaeclfggaaDoor
open Go.RowKit WordM

theorem sizeI : (Tryd.prog.info? 3).map (·.size) = some 1 := by kernel_rfl
theorem cI_one {l : List Int} {v : Value} (h : v ∈ cI l) : v.oneCell' = true := by
  unfold cI at h
  obtain ⟨x, _, rfl⟩ := List.mem_map.1 h
  rfl
/-- the first k of them, the rest 0 -/
def fillW (X : List Int) (k : Nat) : List Int := X.take k ++ List.replicate (X.length - k) 0
theorem fillW_length {X : List Int} {k : Nat} (hk : k ≤ X.length) : (fillW X k).length = X.length := by simp [fillW]; omega
theorem fillW_zero (X : List Int) : fillW X 0 = List.replicate X.length 0 := by simp [fillW]
theorem fillW_all (X : List Int) : fillW X X.length = X := by simp [fillW]
theorem splice_fill {X cs : List Int} {k : Nat} (hk : k + cs.length ≤ X.length) (hcs : ∀ j, j < cs.length → cs[j]? = X[k + j]?) : splice (cI (fillW X k)) k (cI cs) = cI (fillW X (k + cs.length)) := by
  have e : cs = (X.drop k).take cs.length := by
    apply List.ext_getElem?
    intro j
    rw [List.getElem?_take, List.getElem?_drop]
    by_cases hj : j < cs.length
    · rw [if_pos hj, hcs j hj]
    · rw [if_neg hj, List.getElem?_eq_none (by omega)]
  have e2 : X.take (k + cs.length) = X.take k ++ cs := by
    rw [List.take_add]
    congr 1
    exact e.symm
  unfold splice fillW
  rw [e2]
  simp only [cI_app]
  have hl : (cI (X.take k)).length = k := by rw [cI_length, List.length_take]; omega
  rw [List.take_append_of_le_length (by rw [hl]; exact Nat.le_refl _), List.take_of_length_le (by rw [hl]; exact Nat.le_refl _), cI_length, List.drop_append, hl]
  have h0 : (cI (X.take k)).drop (k + cs.length) = [] := List.drop_eq_nil_of_le (by omega)
  rw [h0, List.nil_append, List.append_assoc]
  congr 2
  unfold cI
  rw [← List.map_drop, List.drop_replicate]
  congr 2
  omega
theorem times_shift {l : List Int} {m k j : Nat} (hd : l.length ∣ k) (hj : k + j < m * l.length) : (timesW l m)[j]? = (timesW l m)[k + j]? := by
  rw [timesW_get l m _ hj, timesW_get l m _ (by omega)]
  congr 1
  obtain ⟨q, rfl⟩ := hd
  unfold F
  rw [Nat.mul_add_mod]
theorem times_front {l : List Int} {m j : Nat} (hj : j < l.length) (hm : 1 ≤ m) : l[j]? = (timesW l m)[0 + j]? := by
  rw [Nat.zero_add, timesW_get l m _ (by have := Nat.mul_le_mul_right l.length hm; omega), F_get hj]
/-- block g is a whole list of ints -/
def BlockI (w : World) (g : Nat) (l : List Int) : Prop := w.heap[g]? = some (.cells (cI l).toArray 3 (0, 0))
theorem BlockI.eq {w : World} {g : Nat} {l : List Int} (h : BlockI w g l) : w.heap[g]? = some (.cells (cI l).toArray 3 (0, 0)) := h
theorem BlockI.cell {w : World} {g : Nat} {l : List Int} (h : BlockI w g l) {j : Nat} {x : Int} (hx : l[j]? = some x) : w.cell? ⟨g, j, none⟩ = some (.int .i64 x) := by
  rw [cell_of_row w g j _ _ _ h, List.getElem?_toArray]
  exact cI_get hx
def RepRel (w : World) (l X : List Int) (g : Nat) (v : Value) (wr : World) : Prop :=
  ∃ k : Nat, k ≤ X.length ∧ (0 < X.length → 0 < k) ∧ l.length ∣ k ∧ v = .int .i64 (k : Int) ∧ BlockI wr g (fillW X k) ∧ Below w.heap.size w wr

end Go.Proofs.YtfgoflaeclfggaaDoor
end
section
namespace Go.Proofs.YtfgoflaeclfggaaDoor
open Go.RowKit Go.Extern.Stop Go.Stop Go.Extern WordM NatM

end Go.Proofs.YtfgoflaeclfggaaDoor
end
section
namespace Go.Proofs.YtfgoflaeclfggaaDoor
open Go.RowKit Go.Extern.Stop Go.Stop Go.Extern WordM NatM

/-- a number and no error, both new -/
def NumOk (w : World) (n : Nat) (e : Ending) (w' : World) : Prop :=
  ∃ p c, e = .returned (.tuple #[.slice p (D32 n).length c, .nilIface]) ∧ NatO w.heap.size w' p c (D32 n) ∧ Below w.heap.size w w'
theorem valW_len {k : Nat} {l : List Int} (h4 : k ≤ 4) (h : okW k l) : (D32 (valW k l)).length ≤ l.length := by
  apply D32_len
  exact Nat.lt_of_lt_of_le (valW_lt h) (Nat.pow_le_pow_left (by omega) _)
theorem valW_take {k : Nat} {l : List Int} {j : Nat} {x : Int} (h : l[j]? = some x) : valW k (l.take (j + 1)) = valW k (l.take j) * k + x.toNat := by
  rw [List.take_add_one, h]
  exact valW_snoc k _ x
def IndexRel (w : World) (k : Nat) (l : List Int) (v8 v26 : Value) (wr : World) : Prop :=
  ∃ (j : Nat) (p : Option Addr) (c : Nat), j ≤ l.length ∧ v26 = .int .i64 (j : Int) ∧ v8 = .slice p (D32 (valW k (l.take j))).length c ∧ NatO w.heap.size wr p c (D32 (valW k (l.take j))) ∧ Below w.heap.size w wr
end Go.Proofs.YtfgoflaeclfggaaDoor
end
section
namespace Go.Proofs.YtfgoflaeclfggaaDoor
open Go.RowKit Go.Extern.Stop Go.Stop Go.Extern WordM NatM

/-- the word of n symbols with this number, and no error -/
def AtOk (w : World) (k n i : Nat) (e : Ending) (w' : World) : Prop := ∃ x : List Int, x.length = n ∧ okW k x ∧ valW k x = i ∧ IntOk w x e w'
def AtRel (w : World) (k n i : Nat) (g : Nat) (v2 v11 : Value) (wr : World) : Prop :=
  ∃ (j R : Nat) (x : List Int) (q : Option Addr) (cq : Nat) (b : List Nat), j ≤ n ∧ v11 = .int .i64 ((j : Int) - 1) ∧ v2 = .slice q b.length cq ∧ V32 b = R ∧ NatV wr.heap.size wr q cq b ∧ b.length ≤ 100000 ∧
    x.length = n - j ∧ okW k x ∧ valW k x + k ^ (n - j) * R = i ∧ IntO w.heap.size wr (some ⟨g, 0, none⟩) n (List.replicate j 0 ++ x) ∧ w.heap.size ≤ g ∧ Below w.heap.size w wr
def OverIs (w : World) (q d : Nat) (e : Ending) (w' : World) : Prop :=
  ∃ p c, e = .returned (.tuple #[.slice p (D32 q).length c, .int .u32 (d : Int), .nilIface]) ∧ NatO w.heap.size w' p c (D32 q) ∧ Below w.heap.size w w'
theorem over_is {w : World} {n d q r : Nat} {e : Ending} {w' : World} (hq : n / d = q) (hr : n % d = r) (h : OverPost w n d e w') : OverIs w q r e w' := by
  subst hq hr
  exact h
theorem set_front {x : List Int} {j : Nat} {v : Int} : (List.replicate (j + 1) (0 : Int) ++ x).set j v = List.replicate j 0 ++ v :: x := by
  rw [List.replicate_succ', List.append_assoc, List.set_append_right _ _ (by simp), List.length_replicate, Nat.sub_self]
  rfl
end Go.Proofs.YtfgoflaeclfggaaDoor
end
section
namespace Go.Proofs.YtfgoflaeclfggaaDoor
open Go.RowKit Go.Extern.Stop Go.Stop Go.Extern WordM NatM


/-- whatever Pow tells -/
def PowSome (w : World) (e : Ending) (w' : World) : Prop := ∃ p n c v, e = .returned (.tuple #[.slice p n c, v]) ∧ Below w.heap.size w w'
end Go.Proofs.YtfgoflaeclfggaaDoor
end
section
namespace Go.Proofs.YtfgoflaeclfggaaDoor
open Go.RowKit Go.Extern.Stop Go.Stop Go.Extern WordM RuleM NatM
attribute [local go_sem ↓] Go.wp_at_zero Go.wp_at_succ

set_option maxRecDepth 100000 in
set_option maxHeartbeats 2000000 in
theorem step_bad (k r : Int) (p q : Option Addr) (n c m d : Nat) (t l : List Int) (w : World) (A : Nat → Addr) (hr : Roots w A) (hn : n = t.length) (hm : m = l.length) (h : IntV w.heap.size w p c t) (hl : IntV w.heap.size w q d l) (i a : Nat) (hc : chkT k r t l = some (i, a)) :
    Calls Tryd.prog 28 #[.agg #[.int .i64 k, .int .i64 r, .slice p n c], .slice q m d] w (Err2 w A ruleOp i a (.slice none 0 0)) := by
  have start : ∀ (w0 : World), w0 = w.alloc (.cells #[.int .i64 k, .int .i64 r, .slice p n c] 53) → Below w.heap.size w w0 ∧ Rul3 w0 w.heap.size (.int .i64 k) (.int .i64 r) (.slice p n c) := fun w0 hw0 =>
    ⟨by rw [hw0]; exact (Below.refl _ _).alloc (Nat.le_refl _) _, by rw [hw0]; exact Rul3.new w _ _ _⟩
  have ST := Lib.hid start
  clear start
  unfold chkT at hc
  split at hc
  · obtain ⟨rfl, rfl⟩ := Prod.mk.inj (Option.some.inj hc)
    rename_i hcr
    have H := Lib.hid (And.intro h (And.intro hn (And.intro hr hcr)))
    clear h hn hr hcr hc hm hl
    go_enter Tryd.func28, Tryd.ntmps28
    go_wp2_with fail
    obtain ⟨w0, hw0⟩ : ∃ w0, w0 = w.alloc (.cells #[.int .i64 k, .int .i64 r, .slice p n c] 53) := ⟨_, rfl⟩
    rw [← hw0]
    obtain ⟨hb0, hE0⟩ := ST.out w0 hw0
    obtain ⟨⟨hf0, hf1, hf2⟩, hc0, hc1, hc2⟩ := hE0.facts
    have HE := Lib.hid (And.intro hE0 hb0)
    clear hw0 hE0 hb0
    go_wp2_with fail
    refine (rcheck_bad k r p n c t w0 A (H.out.2.2.1.below HE.out.2) H.out.2.1 (H.out.1.next HE.out.2) _ H.out.2.2.2).mono ?_
    rintro e w1 ⟨b, rfl, hl1, hb1⟩
    have HF := Lib.hid (And.intro hl1 (HE.out.2.trans (hb1.mono HE.out.2.size)))
    clear hl1 hb1
    go_wp2_with fail
    go_ret2
    exact ⟨_, rfl, HF.out.1, HF.out.2⟩
  · rename_i hcr
    obtain ⟨K, R, rfl, rfl, ho⟩ := chkR_none hcr
    have h4 := ho.k4
    have hle := hl.le
    have hcap := hl.cap
    unfold maxLen at hcap
    have hmx : m ≤ 9223372036854775807 := by omega
    split at hc
    · obtain ⟨rfl, rfl⟩ := Prod.mk.inj (Option.some.inj hc)
      rename_i hne
      have hne' : 4096 < m := by omega
      have H := Lib.hid (And.intro h (And.intro hn (And.intro hr ho)))
      clear h hn hr hcr hc hm hl ho hne hle hcap
      go_enter Tryd.func28, Tryd.ntmps28
      go_wp2_with fail
      obtain ⟨w0, hw0⟩ : ∃ w0, w0 = w.alloc (.cells #[.int .i64 (K : Int), .int .i64 (R : Int), .slice p n c] 53) := ⟨_, rfl⟩
      rw [← hw0]
      obtain ⟨hb0, hE0⟩ := ST.out w0 hw0
      obtain ⟨⟨hf0, hf1, hf2⟩, hc0, hc1, hc2⟩ := hE0.facts
      have HE := Lib.hid (And.intro hE0 hb0)
      clear hw0 hE0 hb0
      go_wp2_with fail
      refine (rcheck_ok K R p n c t w0 H.out.2.1 (H.out.1.next HE.out.2) H.out.2.2.2).mono ?_
      rintro e w1 ⟨rfl, hb1⟩
      have H1 := Lib.hid (And.intro (HE.out.1.next hb1) (HE.out.2.trans (hb1.mono HE.out.2.size)))
      clear hb1 hf0 hf1 hf2 hc0 hc1 hc2
      obtain ⟨⟨hf0, hf1, hf2⟩, hc0, hc1, hc2⟩ := H1.out.1.facts
      go_wp2_with fail
      refine (new_at ruleOp 0 4 w1 A (H.out.2.2.1.below H1.out.2) (by omega)).mono ?_
      rintro e w2 ⟨b, rfl, hl2, hb2⟩
      have HF := Lib.hid (And.intro hl2 (H1.out.2.trans (hb2.mono H1.out.2.size)))
      clear hl2 hb2
      go_wp2_with fail
      go_ret2
      exact ⟨_, rfl, HF.out.1, HF.out.2⟩
    · rename_i hlen
      obtain ⟨j, hj, he⟩ := Option.map_eq_some_iff.1 hc
      obtain ⟨rfl, rfl⟩ := Prod.mk.inj he
      have hjl := strayN_lt hj
      have hst := strayN_bad hj
      have hjm : j < m := by omega
      have hm4 : ¬ 4096 < m := by omega
      have H := Lib.hid (And.intro h (And.intro hn (And.intro hr (And.intro ho (And.intro hst (And.intro hl hm))))))
      clear h hn hr hcr hc hm hl ho hle hcap hst hjl hj hlen he
      go_enter Tryd.func28, Tryd.ntmps28
      go_wp2_with fail
      obtain ⟨w0, hw0⟩ : ∃ w0, w0 = w.alloc (.cells #[.int .i64 (K : Int), .int .i64 (R : Int), .slice p n c] 53) := ⟨_, rfl⟩
      rw [← hw0]
      obtain ⟨hb0, hE0⟩ := ST.out w0 hw0
      obtain ⟨⟨hf0, hf1, hf2⟩, hc0, hc1, hc2⟩ := hE0.facts
      have HE := Lib.hid (And.intro hE0 hb0)
      clear hw0 hE0 hb0
      go_wp2_with fail
      refine (rcheck_ok K R p n c t w0 H.out.2.1 (H.out.1.next HE.out.2) H.out.2.2.2.1).mono ?_
      rintro e w1 ⟨rfl, hb1⟩
      have H1 := Lib.hid (And.intro (HE.out.1.next hb1) (HE.out.2.trans (hb1.mono HE.out.2.size)))
      clear hb1 hf0 hf1 hf2 hc0 hc1 hc2
      obtain ⟨⟨hf0, hf1, hf2⟩, hc0, hc1, hc2⟩ := H1.out.1.facts
      go_wp2_with fail
      refine (stray_any (K : Int) q m d l w1 H.out.2.2.2.2.2.2 (H.out.2.2.2.2.2.1.next H1.out.2)).mono ?_
      rintro e w2 ⟨rfl, rfl⟩
      rw [H.out.2.2.2.2.1]
      go_wp2_with fail
      refine (new_at ruleOp j 2 w1 A (H.out.2.2.1.below H1.out.2) (by omega)).mono ?_
      rintro e w2 ⟨b, rfl, hl2, hb2⟩
      have HF := Lib.hid (And.intro hl2 (H1.out.2.trans (hb2.mono H1.out.2.size)))
      clear hl2 hb2
      go_wp2_with fail
      go_ret2
      exact ⟨_, rfl, HF.out.1, HF.out.2⟩
/-- Step, whatever is asked that it does not refuse -/
theorem step_ok (k r : Int) (p q : Option Addr) (n c m d : Nat) (t l : List Int) (w : World) (hn : n = t.length) (hm : m = l.length) (h : IntV w.heap.size w p c t) (hl : IntV w.heap.size w q d l) (hc : chkT k r t l = none) :
    Calls Tryd.prog 28 #[.agg #[.int .i64 k, .int .i64 r, .slice p n c], .slice q m d] w (IntOk w (imgW k.toNat r.toNat t l)) := by
  obtain ⟨K, R, rfl, rfl, ho, hl4, hw⟩ := chkT_none hc
  rw [Int.toNat_natCast, Int.toNat_natCast]
  rcases Nat.lt_or_ge (2 * R) m with h1 | h1
  · exact step_long K R p q n c m d t l w hn hm h hl ho h1 (by omega) hw
  · exact step_short K R p q n c m d t l w hn hm h hl ho h1 hw

end Go.Proofs.YtfgoflaeclfggaaDoor
end
section
namespace Go.Proofs.YtfgoflaeclfggaaDoor
open Go.RowKit Go.Extern.Stop Go.Stop Go.Extern WordM RuleM NatM

theorem setCell_same {w : World} {h i : Nat} {cs : Array Value} {T : TypeId} {v : Value} (hh : w.heap[h]? = some (.cells cs T (0, 0))) (hv : cs[i]? = some v) : w.setCell ⟨h, i, none⟩ v = w := by
  have hm : (w.heap.modify h fun
      | .cells c elem frozen => .cells (if (none : Option (Nat × Nat)).isSome then c else c.setIfInBounds i v) elem frozen
      | o => o) = w.heap := by
    apply Array.ext_getElem?
    intro j
    rw [Array.getElem?_modify]
    split
    · rename_i e
      subst e
      rw [hh]
      have : cs.setIfInBounds i v = cs := by
        apply Array.ext_getElem?
        intro z
        rw [Array.getElem?_setIfInBounds]
        split
        · rename_i e; subst e
          split
          · exact hv.symm
          · rename_i hz; rw [Array.getElem?_eq_none (by omega)]
        · rfl
      simp [this]
    · rfl
  exact congrArg (fun h => ({ w with heap := h } : World)) hm
theorem put3_same {w : World} {h : Nat} {a b c : Value} (k : Rul3 w h a b c) : put3 w h a b c = w := by
  unfold put3
  rw [setCell_same k.heap rfl, setCell_same k.heap rfl, setCell_same k.heap rfl]
theorem IntO.put3 {base h : Nat} {w : World} {p : Option Addr} {c : Nat} {l : List Int} (ho : IntO base w p c l) (hh : h < base) (a b d : Value) : IntO base (put3 w h a b d) p c l :=
  ownsRow_setCell_below (ownsRow_setCell_below (ownsRow_setCell_below ho (a := ⟨h, 0, none⟩) hh a) (a := ⟨h, 1, none⟩) hh b) (a := ⟨h, 2, none⟩) hh d

theorem Rul3.setOther {w : World} {h : Nat} {a b c : Value} (k : Rul3 w h a b c) (g i : Nat) (hg : g ≠ h) (v : Value) : Rul3 (w.setCell ⟨g, i, none⟩ v) h a b c := ⟨by
  show (w.heap.modify g _)[h]? = _
  rw [Array.getElem?_modify, if_neg hg]
  exact k.heap⟩
theorem Rul3.putOther {w : World} {h : Nat} {a b c : Value} (k : Rul3 w h a b c) (g : Nat) (hg : g ≠ h) (x y z : Value) : Rul3 (put3 w g x y z) h a b c := ((k.setOther g 0 hg x).setOther g 1 hg y).setOther g 2 hg z

/-- no rule -/
def noRule : Value := .agg #[.int .i64 0, .int .i64 0, .slice none 0 0]
/-- a new rule, and no error -/
def RuleOk (w : World) (k r : Nat) (t : List Int) (e : Ending) (w' : World) : Prop :=
  ∃ p c, e = .returned (.tuple #[.agg #[.int .i64 (k : Int), .int .i64 (r : Int), .slice p t.length c], .nilIface]) ∧ IntO w.heap.size w' p c t ∧ Below w.heap.size w w'
/-- the rule with this number, and no error -/
def FromOk (w : World) (k r i : Nat) (e : Ending) (w' : World) : Prop := ∃ t, OkR k r t ∧ codeR k t = i ∧ RuleOk w k r t e w'


/-- where From refuses: the place and the number -/
def chkF (k r : Int) (i : Nat) : Option (Nat × Nat) :=
  if (k < 1 ∨ 4 < k) ∨ r < 0 ∨ 3 < r then some (0, 3) else if 256 < k.toNat ^ (2 * r.toNat + 1) then some (0, 4) else if k.toNat ^ (k.toNat ^ (2 * r.toNat + 1)) ≤ i then some (1, 3) else none
end Go.Proofs.YtfgoflaeclfggaaDoor
end
section
namespace Go.Proofs.YtfgoflaeclfggaaDoor
open Go.RowKit Go.Extern.Stop Go.Stop Go.Extern WordM RuleM
attribute [local go_sem ↓] Go.wp_at_zero Go.wp_at_succ

/-- the world behind the store of a row -/
def put4 (w : World) (h : Nat) (a b c d : Value) : World := (((w.setCell ⟨h, 0, none⟩ a).setCell ⟨h, 1, none⟩ b).setCell ⟨h, 2, none⟩ c).setCell ⟨h, 3, none⟩ d
theorem put4_below {B h : Nat} {w0 w : World} (hb : Below B w0 w) (hB : B ≤ h) (a b c d : Value) : Below B w0 (put4 w h a b c d) := (((hb.setCell hB _).setCell hB _).setCell hB _).setCell hB _
theorem put4_same {w : World} {h : Nat} {a b c d : Value} (k : Row4 w h a b c d) : put4 w h a b c d = w := by
  unfold put4
  rw [setCell_same k.heap rfl, setCell_same k.heap rfl, setCell_same k.heap rfl, setCell_same k.heap rfl]
theorem put4_size (w : World) (h : Nat) (a b c d : Value) : (put4 w h a b c d).heap.size = w.heap.size := by simp [put4]
theorem IntO.put4 {base h : Nat} {w : World} {p : Option Addr} {c : Nat} {l : List Int} (ho : IntO base w p c l) (hh : h < base) (x y z v : Value) : IntO base (put4 w h x y z v) p c l :=
  ownsRow_setCell_below (ownsRow_setCell_below (ownsRow_setCell_below (ownsRow_setCell_below ho (a := ⟨h, 0, none⟩) hh x) (a := ⟨h, 1, none⟩) hh y) (a := ⟨h, 2, none⟩) hh z) (a := ⟨h, 3, none⟩) hh v
theorem Row4.setOther {w : World} {h : Nat} {a b c d : Value} (k : Row4 w h a b c d) (g i : Nat) (hg : g ≠ h) (v : Value) : Row4 (w.setCell ⟨g, i, none⟩ v) h a b c d := ⟨by
  show (w.heap.modify g _)[h]? = _
  rw [Array.getElem?_modify, if_neg hg]
  exact k.heap⟩
theorem three_boxes (w : World) (a b c a' b' c' d' : Value) (w0 : World) (hw0 : w0 = ((w.alloc (.cells #[a, b, c] 53)).alloc (.cells #[a', b', c', d'] 24)).alloc (.cells #[.int .i64 0, .slice none 0 0, .slice none 0 0, .slice none 0 0] 24)) :
    Below w.heap.size w w0 ∧ Rul3 w0 w.heap.size a b c ∧ Row4 w0 (w.heap.size + 1) a' b' c' d' ∧ Row4 w0 (w.heap.size + 1 + 1) (.int .i64 0) (.slice none 0 0) (.slice none 0 0) (.slice none 0 0) := by
  obtain ⟨h1, h2, h3⟩ := box_rule_row w a b c a' b' c' d' _ rfl
  obtain ⟨h4, h5⟩ := box_row ((w.alloc (.cells #[a, b, c] 53)).alloc (.cells #[a', b', c', d'] 24)) (.int .i64 0) (.slice none 0 0) (.slice none 0 0) (.slice none 0 0) w0 hw0
  have hs : ((w.alloc (.cells #[a, b, c] 53)).alloc (.cells #[a', b', c', d'] 24)).heap.size = w.heap.size + 1 + 1 := by simp
  rw [hs] at h5
  exact ⟨h1.trans (h4.mono h1.size), h2.next h4, h3.next h4, h5⟩
/-- the fault of a rule and a row that is stepped -/
def chkZ (k r : Int) (t : List Int) (a : Int) (L C R : List Int) : Option (List (ByteArray × Int) × Nat) := match chkR k r t with
  | some i => some ([(rowOp, 0), (ruleOp, (i : Int))], 1)
  | none => match chkRw k a L C R with
    | some y => some ([(rowOp, (y.1 : Int))], y.2)
    | none => if a - r < -4096 then some ([(rowOp, 1)], 3) else if 16384 < C.length + 2 * r.toNat then some ([(rowOp, 4)], 4) else none
theorem chkZ_num {k r : Int} {t : List Int} {a : Int} {L C R : List Int} : ∀ y, chkZ k r t a L C R = some y → 1 ≤ y.2 ∧ y.2 ≤ 11 := fun y h => by
  unfold chkZ at h
  split at h
  · obtain rfl := Option.some.inj h; simp
  · split at h
    · obtain rfl := Option.some.inj h
      rename_i z hz
      have := chkRw_num _ hz
      simp only []
      omega
    · split at h
      · obtain rfl := Option.some.inj h; simp
      · split at h
        · obtain rfl := Option.some.inj h; simp
        · cases h
theorem chkZ_none {k r : Int} {t : List Int} {a : Int} {L C R : List Int} (h : chkZ k r t a L C R = none) : ∃ K S : Nat, k = K ∧ r = S ∧ OkR K S t ∧ OkRw K a L C R ∧ -4096 ≤ a - (S : Int) ∧ C.length + 2 * S ≤ 16384 := by
  unfold chkZ at h
  cases hk : chkR k r t with
  | some i => rw [hk] at h; cases h
  | none =>
    rw [hk] at h
    simp only at h
    cases hc : chkRw k a L C R with
    | some y => rw [hc] at h; cases h
    | none =>
      rw [hc] at h
      simp only at h
      obtain ⟨K, S, rfl, rfl, ho⟩ := chkR_none hk
      obtain ⟨K', hK, hw⟩ := chkRw_none hc
      obtain rfl : K = K' := by omega
      split at h
      · cases h
      · split at h
        · cases h
        · rw [Int.toNat_natCast] at *
          exact ⟨K, S, rfl, rfl, ho, hw, by omega, by omega⟩
/-- a new row, and no error; its three lists lie one behind the other -/
def RowOk (w : World) (b : Int) (U V W : List Int) (e : Ending) (w' : World) : Prop :=
  ∃ p1 c1 p2 c2 p3 c3 s1 s2, e = .returned (.tuple #[.agg #[.int .i64 b, .slice p1 U.length c1, .slice p2 V.length c2, .slice p3 W.length c3], .nilIface]) ∧
    IntO w.heap.size w' p1 c1 U ∧ IntO s1 w' p2 c2 V ∧ IntO s2 w' p3 c3 W ∧ w.heap.size ≤ s1 ∧ s1 ≤ s2 ∧ s2 ≤ w'.heap.size ∧
    (∀ k, (Sl.val (p1, c1, U)).ownBlock = some k → k < s1) ∧ (∀ k, (Sl.val (p2, c2, V)).ownBlock = some k → k < s2) ∧ Below w.heap.size w w'
set_option maxRecDepth 100000 in
set_option maxHeartbeats 8000000 in
theorem rStep_bad (k r a : Int) (pt : Option Addr) (nt ct : Nat) (t : List Int) (p q s : Option Addr) (n c m d u e : Nat) (L C R : List Int) (w : World) (A : Nat → Addr) (hr : Roots w A) (hnt : nt = t.length) (ht : IntV w.heap.size w pt ct t) (h : RowV w p q s n c m d u e L C R) (hn : n ≤ 17592186043904) (hm : m ≤ 17592186043904) (hu : u ≤ 17592186043904) (X : List (ByteArray × Int)) (M : Nat) (hc : chkZ k r t a L C R = some (X, M)) :
    Calls Tryd.prog 24 #[.agg #[.int .i64 k, .int .i64 r, .slice pt nt ct], .agg #[.int .i64 a, .slice p n c, .slice q m d, .slice s u e]] w (FErr2 w A X M (.agg #[.int .i64 0, .slice none 0 0, .slice none 0 0, .slice none 0 0])) := by
  unfold chkZ at hc
  cases hk : chkR k r t with
  | some i =>
    rw [hk] at hc
    obtain ⟨rfl, rfl⟩ := Prod.mk.inj (Option.some.inj hc)
    have ST := Lib.hid (three_boxes w (.int .i64 k) (.int .i64 r) (.slice pt nt ct) (.int .i64 a) (.slice p n c) (.slice q m d) (.slice s u e))
    have HC := Lib.hid (fun W hr h => rcheck_bad k r pt nt ct t W A hr hnt h i hk)
    have H := Lib.hid (And.intro ht hr)
    clear h hr hn hm hu hc hk ht hnt
    go_enter Tryd.func24, Tryd.ntmps24
    go_upto_region 1 with fail
    obtain ⟨w0, hw0⟩ : ∃ w0, w0 = ((w.alloc (.cells #[.int .i64 k, .int .i64 r, .slice pt nt ct] 53)).alloc (.cells #[.int .i64 a, .slice p n c, .slice q m d, .slice s u e] 24)).alloc (.cells #[.int .i64 0, .slice none 0 0, .slice none 0 0, .slice none 0 0] 24) := ⟨_, rfl⟩
    rw [← hw0]
    obtain ⟨hb0, hE0, hF0, hG0⟩ := ST.out w0 hw0
    have HE := Lib.hid (And.intro hE0 (And.intro hF0 (And.intro hG0 hb0)))
    obtain ⟨_, hc0, hc1, hc2⟩ := hE0.facts
    obtain ⟨hd0, hd1, hd2, hd3⟩ := hF0.facts
    clear hw0 hE0 hF0 hG0 hb0
    go_wp2_with fail
    refine (HC.out w0 (H.out.2.below HE.out.2.2.2) (H.out.1.next HE.out.2.2.2)).mono ?_
    rintro e' w8 ⟨b8, rfl, hl1, hb1⟩
    have H8 := Lib.hid (And.intro (Chn.one hl1) (And.intro (HE.out.2.2.1.next hb1) (HE.out.2.2.2.trans (hb1.mono HE.out.2.2.2.size))))
    clear hl1 hb1 hc0 hc1 hc2 hd0 hd1 hd2 hd3
    go_wp2_with fail
    refine (under_chn rowOp 0 b8 _ 1 w8 A H8.out.1).mono ?_
    rintro e' w9 ⟨b, rfl, hl2, hb2⟩
    have H9 := Lib.hid (And.intro hl2 (And.intro (H8.out.2.1.next hb2) (H8.out.2.2.trans (hb2.mono H8.out.2.2.size))))
    obtain ⟨hg0, hg1, hg2, hg3⟩ := H9.out.2.1.facts
    have hf0 := H9.out.2.1.frozen 0
    have hf1 := H9.out.2.1.frozen 1
    have hf2 := H9.out.2.1.frozen 2
    have hf3 := H9.out.2.1.frozen 3
    clear hl2 hb2
    go_wp2_with fail
    refine bodyPost_ret (v := .tuple #[.agg #[.int .i64 0, .slice none 0 0, .slice none 0 0, .slice none 0 0], .iface 73 (.pointer (some ⟨b, 0, none⟩))]) (by simp [results, Tryd.results24, go_sem, hg0, hg1, hg2, hg3]) rfl ⟨b, rfl, ?_, ?_⟩
    · show Chn (put4 w9 (w.heap.size + 1 + 1) _ _ _ _) A b _ _
      rw [put4_same H9.out.2.1]
      exact H9.out.1
    · show Below _ _ (put4 w9 (w.heap.size + 1 + 1) _ _ _ _)
      rw [put4_same H9.out.2.1]
      exact H9.out.2.2
  | none =>
    rw [hk] at hc
    simp only at hc
    obtain ⟨K, S, rfl, rfl, ho⟩ := chkR_none hk
    have h3 := ho.r3
    have ST := Lib.hid (three_boxes w (.int .i64 (K : Int)) (.int .i64 (S : Int)) (.slice pt nt ct) (.int .i64 a) (.slice p n c) (.slice q m d) (.slice s u e))
    cases hcr : chkRw (K : Int) a L C R with
    | some y =>
      rw [hcr] at hc
      obtain ⟨rfl, rfl⟩ := Prod.mk.inj (Option.some.inj hc)
      have HC := Lib.hid (And.intro (fun W h => rcheck_ok K S pt nt ct t W hnt h ho) (fun W hr h => rrcheck_bad (K : Int) a p q s n c m d u e L C R W A hr h hn hm hu y.1 y.2 hcr))
      have H := Lib.hid (And.intro ht (And.intro hr h))
      clear h hr hn hm hu hc hk ht hnt ho hcr
      go_enter Tryd.func24, Tryd.ntmps24
      go_upto_region 1 with fail
      obtain ⟨w0, hw0⟩ : ∃ w0, w0 = ((w.alloc (.cells #[.int .i64 (K : Int), .int .i64 (S : Int), .slice pt nt ct] 53)).alloc (.cells #[.int .i64 a, .slice p n c, .slice q m d, .slice s u e] 24)).alloc (.cells #[.int .i64 0, .slice none 0 0, .slice none 0 0, .slice none 0 0] 24) := ⟨_, rfl⟩
      rw [← hw0]
      obtain ⟨hb0, hE0, hF0, hG0⟩ := ST.out w0 hw0
      have HE := Lib.hid (And.intro hE0 (And.intro hF0 (And.intro hG0 hb0)))
      obtain ⟨_, hc0, hc1, hc2⟩ := hE0.facts
      obtain ⟨hd0, hd1, hd2, hd3⟩ := hF0.facts
      clear hw0 hE0 hF0 hG0 hb0
      go_wp2_with fail
      refine (HC.out.1 w0 (H.out.1.next HE.out.2.2.2)).mono ?_
      rintro e' w1 ⟨rfl, hb1⟩
      have H1 := Lib.hid (And.intro (HE.out.1.next hb1) (And.intro (HE.out.2.1.next hb1) (And.intro (HE.out.2.2.1.next hb1) (HE.out.2.2.2.trans (hb1.mono HE.out.2.2.2.size)))))
      clear hb1 hc0 hc1 hc2 hd0 hd1 hd2 hd3
      obtain ⟨_, hc0, hc1, hc2⟩ := H1.out.1.facts
      obtain ⟨hd0, hd1, hd2, hd3⟩ := H1.out.2.1.facts
      go_wp2_with fail
      refine (HC.out.2 w1 (H.out.2.1.below H1.out.2.2.2) (H.out.2.2.next H1.out.2.2.2)).mono ?_
      rintro e' w9 ⟨b, rfl, hl1, hb1⟩
      have H9 := Lib.hid (And.intro (Chn.one hl1) (And.intro (H1.out.2.2.1.next hb1) (H1.out.2.2.2.trans (hb1.mono H1.out.2.2.2.size))))
      obtain ⟨hg0, hg1, hg2, hg3⟩ := H9.out.2.1.facts
      have hf0 := H9.out.2.1.frozen 0
      have hf1 := H9.out.2.1.frozen 1
      have hf2 := H9.out.2.1.frozen 2
      have hf3 := H9.out.2.1.frozen 3
      clear hl1 hb1 hc0 hc1 hc2 hd0 hd1 hd2 hd3
      go_wp2_with fail
      refine bodyPost_ret (v := .tuple #[.agg #[.int .i64 0, .slice none 0 0, .slice none 0 0, .slice none 0 0], .iface 73 (.pointer (some ⟨b, 0, none⟩))]) (by simp [results, Tryd.results24, go_sem, hg0, hg1, hg2, hg3]) rfl ⟨b, rfl, ?_, ?_⟩
      · show Chn (put4 w9 (w.heap.size + 1 + 1) _ _ _ _) A b _ _
        rw [put4_same H9.out.2.1]
        exact H9.out.1
      · show Below _ _ (put4 w9 (w.heap.size + 1 + 1) _ _ _ _)
        rw [put4_same H9.out.2.1]
        exact H9.out.2.2
    | none =>
      rw [hcr] at hc
      simp only at hc
      obtain ⟨K', hK, hw⟩ := chkRw_none hcr
      obtain rfl : K = K' := by omega
      have a1 := hw.a1
      have a2 := hw.a2
      have c1 := hw.c1
      have waS : IntKind.i64.wrap (a - (S : Int)) = a - (S : Int) := by rw [IntWalk.i64_in _ (by omega)]
      have w2S : IntKind.i64.wrap (2 * (S : Int)) = 2 * (S : Int) := by rw [IntWalk.i64_in _ (by omega)]
      have hml := h.hm
      have wm2 : IntKind.i64.wrap ((m : Int) + 2 * (S : Int)) = (m : Int) + 2 * (S : Int) := by rw [IntWalk.i64_in _ (by omega)]
      have HC := Lib.hid (And.intro (fun W h => rcheck_ok K S pt nt ct t W hnt h ho) (fun W h => rrcheck_ok K a p q s n c m d u e L C R W h hw))
      have H := Lib.hid (And.intro ht (And.intro hr h))
      by_cases ha : a - (S : Int) < -4096
      · rw [if_pos ha] at hc
        obtain ⟨rfl, rfl⟩ := Prod.mk.inj (Option.some.inj hc)
        clear h hr hn hm hu hc hk ht hnt ho hcr hw hK hml a1 a2 c1
        go_enter Tryd.func24, Tryd.ntmps24
        go_upto_region 1 with fail
        obtain ⟨w0, hw0⟩ : ∃ w0, w0 = ((w.alloc (.cells #[.int .i64 (K : Int), .int .i64 (S : Int), .slice pt nt ct] 53)).alloc (.cells #[.int .i64 a, .slice p n c, .slice q m d, .slice s u e] 24)).alloc (.cells #[.int .i64 0, .slice none 0 0, .slice none 0 0, .slice none 0 0] 24) := ⟨_, rfl⟩
        rw [← hw0]
        obtain ⟨hb0, hE0, hF0, hG0⟩ := ST.out w0 hw0
        have HE := Lib.hid (And.intro hE0 (And.intro hF0 (And.intro hG0 hb0)))
        obtain ⟨_, hc0, hc1, hc2⟩ := hE0.facts
        obtain ⟨hd0, hd1, hd2, hd3⟩ := hF0.facts
        clear hw0 hE0 hF0 hG0 hb0
        go_wp2_with fail
        refine (HC.out.1 w0 (H.out.1.next HE.out.2.2.2)).mono ?_
        rintro e' w1 ⟨rfl, hb1⟩
        have H1 := Lib.hid (And.intro (HE.out.1.next hb1) (And.intro (HE.out.2.1.next hb1) (And.intro (HE.out.2.2.1.next hb1) (HE.out.2.2.2.trans (hb1.mono HE.out.2.2.2.size)))))
        clear hb1 hc0 hc1 hc2 hd0 hd1 hd2 hd3
        obtain ⟨_, hc0, hc1, hc2⟩ := H1.out.1.facts
        obtain ⟨hd0, hd1, hd2, hd3⟩ := H1.out.2.1.facts
        go_wp2_with fail
        refine (HC.out.2 w1 (H.out.2.2.next H1.out.2.2.2)).mono ?_
        rintro e' w2 ⟨rfl, hb1⟩
        have H2 := Lib.hid (And.intro (H1.out.1.next hb1) (And.intro (H1.out.2.1.next hb1) (And.intro (H1.out.2.2.1.next hb1) (H1.out.2.2.2.trans (hb1.mono H1.out.2.2.2.size)))))
        clear hb1 hc0 hc1 hc2 hd0 hd1 hd2 hd3
        obtain ⟨_, hc0, hc1, hc2⟩ := H2.out.1.facts
        obtain ⟨hd0, hd1, hd2, hd3⟩ := H2.out.2.1.facts
        go_wp2_with fail
        refine (new_at rowOp 1 3 w2 A (H.out.2.1.below H2.out.2.2.2) (by omega)).mono ?_
        rintro e' w9 ⟨b, rfl, hl1, hb1⟩
        have H9 := Lib.hid (And.intro (Chn.one hl1) (And.intro (H2.out.2.2.1.next hb1) (H2.out.2.2.2.trans (hb1.mono H2.out.2.2.2.size))))
        obtain ⟨hg0, hg1, hg2, hg3⟩ := H9.out.2.1.facts
        have hf0 := H9.out.2.1.frozen 0
        have hf1 := H9.out.2.1.frozen 1
        have hf2 := H9.out.2.1.frozen 2
        have hf3 := H9.out.2.1.frozen 3
        clear hl1 hb1 hc0 hc1 hc2 hd0 hd1 hd2 hd3
        go_wp2_with fail
        refine bodyPost_ret (v := .tuple #[.agg #[.int .i64 0, .slice none 0 0, .slice none 0 0, .slice none 0 0], .iface 73 (.pointer (some ⟨b, 0, none⟩))]) (by simp [results, Tryd.results24, go_sem, hg0, hg1, hg2, hg3]) rfl ⟨b, rfl, ?_, ?_⟩
        · show Chn (put4 w9 (w.heap.size + 1 + 1) _ _ _ _) A b _ _
          rw [put4_same H9.out.2.1]
          exact H9.out.1
        · show Below _ _ (put4 w9 (w.heap.size + 1 + 1) _ _ _ _)
          rw [put4_same H9.out.2.1]
          exact H9.out.2.2
      · rw [if_neg ha] at hc
        by_cases hb : 16384 < C.length + 2 * (S : Int).toNat
        · rw [if_pos hb] at hc
          obtain ⟨rfl, rfl⟩ := Prod.mk.inj (Option.some.inj hc)
          have hb' : (16384 : Int) < (m : Int) + 2 * (S : Int) := by omega
          clear h hr hn hm hu hc hk ht hnt ho hcr hw hK hml a1 a2 c1 hb
          go_enter Tryd.func24, Tryd.ntmps24
          go_upto_region 1 with fail
          obtain ⟨w0, hw0⟩ : ∃ w0, w0 = ((w.alloc (.cells #[.int .i64 (K : Int), .int .i64 (S : Int), .slice pt nt ct] 53)).alloc (.cells #[.int .i64 a, .slice p n c, .slice q m d, .slice s u e] 24)).alloc (.cells #[.int .i64 0, .slice none 0 0, .slice none 0 0, .slice none 0 0] 24) := ⟨_, rfl⟩
          rw [← hw0]
          obtain ⟨hb0, hE0, hF0, hG0⟩ := ST.out w0 hw0
          have HE := Lib.hid (And.intro hE0 (And.intro hF0 (And.intro hG0 hb0)))
          obtain ⟨_, hc0, hc1, hc2⟩ := hE0.facts
          obtain ⟨hd0, hd1, hd2, hd3⟩ := hF0.facts
          clear hw0 hE0 hF0 hG0 hb0
          go_wp2_with fail
          refine (HC.out.1 w0 (H.out.1.next HE.out.2.2.2)).mono ?_
          rintro e' w1 ⟨rfl, hb1⟩
          have H1 := Lib.hid (And.intro (HE.out.1.next hb1) (And.intro (HE.out.2.1.next hb1) (And.intro (HE.out.2.2.1.next hb1) (HE.out.2.2.2.trans (hb1.mono HE.out.2.2.2.size)))))
          clear hb1 hc0 hc1 hc2 hd0 hd1 hd2 hd3
          obtain ⟨_, hc0, hc1, hc2⟩ := H1.out.1.facts
          obtain ⟨hd0, hd1, hd2, hd3⟩ := H1.out.2.1.facts
          go_wp2_with fail
          refine (HC.out.2 w1 (H.out.2.2.next H1.out.2.2.2)).mono ?_
          rintro e' w2 ⟨rfl, hb1⟩
          have H2 := Lib.hid (And.intro (H1.out.1.next hb1) (And.intro (H1.out.2.1.next hb1) (And.intro (H1.out.2.2.1.next hb1) (H1.out.2.2.2.trans (hb1.mono H1.out.2.2.2.size)))))
          clear hb1 hc0 hc1 hc2 hd0 hd1 hd2 hd3
          obtain ⟨_, hc0, hc1, hc2⟩ := H2.out.1.facts
          obtain ⟨hd0, hd1, hd2, hd3⟩ := H2.out.2.1.facts
          go_wp2_with fail
          refine (new_at rowOp 4 4 w2 A (H.out.2.1.below H2.out.2.2.2) (by omega)).mono ?_
          rintro e' w9 ⟨b, rfl, hl1, hb1⟩
          have H9 := Lib.hid (And.intro (Chn.one hl1) (And.intro (H2.out.2.2.1.next hb1) (H2.out.2.2.2.trans (hb1.mono H2.out.2.2.2.size))))
          obtain ⟨hg0, hg1, hg2, hg3⟩ := H9.out.2.1.facts
          have hf0 := H9.out.2.1.frozen 0
          have hf1 := H9.out.2.1.frozen 1
          have hf2 := H9.out.2.1.frozen 2
          have hf3 := H9.out.2.1.frozen 3
          clear hl1 hb1 hc0 hc1 hc2 hd0 hd1 hd2 hd3
          go_wp2_with fail
          refine bodyPost_ret (v := .tuple #[.agg #[.int .i64 0, .slice none 0 0, .slice none 0 0, .slice none 0 0], .iface 73 (.pointer (some ⟨b, 0, none⟩))]) (by simp [results, Tryd.results24, go_sem, hg0, hg1, hg2, hg3]) rfl ⟨b, rfl, ?_, ?_⟩
          · show Chn (put4 w9 (w.heap.size + 1 + 1) _ _ _ _) A b _ _
            rw [put4_same H9.out.2.1]
            exact H9.out.1
          · show Below _ _ (put4 w9 (w.heap.size + 1 + 1) _ _ _ _)
            rw [put4_same H9.out.2.1]
            exact H9.out.2.2
        · rw [if_neg hb] at hc
          cases hc
set_option maxRecDepth 100000 in
set_option maxHeartbeats 32000000 in
theorem rStep_ok (k r : Nat) (a : Int) (pt : Option Addr) (nt ct : Nat) (t : List Int) (p q s : Option Addr) (n c m d u e : Nat) (L C R : List Int) (w : World) (hnt : nt = t.length) (ht : IntV w.heap.size w pt ct t) (h : RowV w p q s n c m d u e L C R) (ho : OkR k r t) (hw : OkRw k a L C R) (ha : -4096 ≤ a - (r : Int)) (hc : C.length + 2 * r ≤ 16384) :
    Calls Tryd.prog 24 #[.agg #[.int .i64 (k : Int), .int .i64 (r : Int), .slice pt nt ct], .agg #[.int .i64 a, .slice p n c, .slice q m d, .slice s u e]] w (RowOk w (a - (r : Int)) (imgL k r t a L C R) (imgC k r t a L C R) (imgT k r t a L C R)) := by
  have ST := Lib.hid (three_boxes w (.int .i64 (k : Int)) (.int .i64 (r : Int)) (.slice pt nt ct) (.int .i64 a) (.slice p n c) (.slice q m d) (.slice s u e))
  have h3 := ho.r3
  have a1 := hw.a1
  have a2 := hw.a2
  have c1 := hw.c1
  have l1 := hw.l1
  have r1 := hw.r1
  have hnl := h.hn
  have hml := h.hm
  have hul := h.hu
  have waS : IntKind.i64.wrap (a - (r : Int)) = a - (r : Int) := by rw [IntWalk.i64_in _ (by omega)]
  have w2S : IntKind.i64.wrap (2 * (r : Int)) = 2 * (r : Int) := by rw [IntWalk.i64_in _ (by omega)]
  have wm2 : IntKind.i64.wrap ((m : Int) + 2 * (r : Int)) = (m : Int) + 2 * (r : Int) := by rw [IntWalk.i64_in _ (by omega)]
  have hm2 : ¬ (16384 : Int) < (m : Int) + 2 * (r : Int) := by omega
  have ha2 : ¬ a - (r : Int) < -4096 := by omega
  obtain ⟨fr, hfr⟩ : ∃ x, a - (r : Int) = x := ⟨_, rfl⟩
  obtain ⟨tt, htt⟩ : ∃ x, a + (m : Int) + (r : Int) = x := ⟨_, rfl⟩
  have wtt : IntKind.i64.wrap (a + (m : Int) + (r : Int)) = tt := by rw [IntWalk.i64_in _ (by omega)]; exact htt
  obtain ⟨lo, hlo⟩ : ∃ x, fr - (n : Int) = x := ⟨_, rfl⟩
  obtain ⟨hi, hhi⟩ : ∃ x, tt + (u : Int) = x := ⟨_, rfl⟩
  have wlo : IntKind.i64.wrap (fr - (n : Int)) = lo := by rw [IntWalk.i64_in _ (by omega)]; exact hlo
  have whi : IntKind.i64.wrap (tt + (u : Int)) = hi := by rw [IntWalk.i64_in _ (by omega)]; exact hhi
  obtain ⟨V, hV⟩ : ∃ V, m + 2 * r = V := ⟨_, rfl⟩
  have hI1 := fun W ht hr => rimage_any k r a lo fr n pt nt ct t p q s n c m d u e L C R W hnt ht ho hr hw (by omega) (by omega) (by omega) (by omega)
  have hI2 := fun W ht hr => rimage_any k r a fr tt V pt nt ct t p q s n c m d u e L C R W hnt ht ho hr hw (by omega) (by omega) (by omega) (by omega)
  have hI3 := fun W ht hr => rimage_any k r a tt hi u pt nt ct t p q s n c m d u e L C R W hnt ht ho hr hw (by omega) (by omega) (by omega) (by omega)
  have e1 : imgL k r t a L C R = imgR k r t a L C R lo n := by unfold imgL; rw [← hnl, hfr, hlo]
  have e2 : imgC k r t a L C R = imgR k r t a L C R fr V := by unfold imgC; rw [← hml, hfr, hV]
  have e3 : imgT k r t a L C R = imgR k r t a L C R tt u := by unfold imgT; rw [← hml, ← hul, htt]
  rw [e1, e2, e3, hfr]
  rw [hfr] at waS
  have l1' := imgR_length k r t a L C R lo n
  have l2' := imgR_length k r t a L C R fr V
  have l3' := imgR_length k r t a L C R tt u
  obtain ⟨X1, hX1⟩ : ∃ X, imgR k r t a L C R lo n = X := ⟨_, rfl⟩
  obtain ⟨X2, hX2⟩ : ∃ X, imgR k r t a L C R fr V = X := ⟨_, rfl⟩
  obtain ⟨X3, hX3⟩ : ∃ X, imgR k r t a L C R tt u = X := ⟨_, rfl⟩
  rw [hX1] at l1' hI1 ⊢
  rw [hX2] at l2' hI2 ⊢
  rw [hX3] at l3' hI3 ⊢
  unfold IntPost at hI1 hI2 hI3
  simp only [l1'] at hI1
  simp only [l2'] at hI2
  simp only [l3'] at hI3
  have hen : ∀ W, Calls Tryd.prog 47 #[.agg #[.int .i64 a, .slice p n c, .slice q m d, .slice s u e]] W (Tells (.int .i64 (a + (m : Int))) W) := fun W => rend_any a p q s n c m d u e W (by omega) (by omega) (by omega)
  have HC := Lib.hid (And.intro (fun W h => rcheck_ok k r pt nt ct t W hnt h ho) (And.intro (fun W h => rrcheck_ok k a p q s n c m d u e L C R W h hw) (And.intro hI1 (And.intro hI2 (And.intro hI3 hen)))))
  have H := Lib.hid (And.intro ht (And.intro h (And.intro l1' (And.intro l2' l3'))))
  clear h ht hnt ho hw hI1 hI2 hI3 e1 e2 e3 l1' l2' l3' hX1 hX2 hX3 hen hlo hhi htt hV hnl hml hul hc ha a1 a2 c1 l1 r1
  go_enter Tryd.func24, Tryd.ntmps24
  go_upto_region 1 with fail
  obtain ⟨w0, hw0⟩ : ∃ w0, w0 = ((w.alloc (.cells #[.int .i64 (k : Int), .int .i64 (r : Int), .slice pt nt ct] 53)).alloc (.cells #[.int .i64 a, .slice p n c, .slice q m d, .slice s u e] 24)).alloc (.cells #[.int .i64 0, .slice none 0 0, .slice none 0 0, .slice none 0 0] 24) := ⟨_, rfl⟩
  rw [← hw0]
  obtain ⟨hb0, hE0, hF0, hG0⟩ := ST.out w0 hw0
  have HE := Lib.hid (And.intro hE0 (And.intro hF0 (And.intro hG0 hb0)))
  obtain ⟨_, hc0, hc1, hc2⟩ := hE0.facts
  obtain ⟨hd0, hd1, hd2, hd3⟩ := hF0.facts
  clear hw0 hE0 hF0 hG0 hb0
  go_wp2_with fail
  refine (HC.out.1 w0 (H.out.1.next HE.out.2.2.2)).mono ?_
  rintro e' w1 ⟨rfl, hb1⟩
  have H1 := Lib.hid (And.intro (HE.out.1.next hb1) (And.intro (HE.out.2.1.next hb1) (And.intro (HE.out.2.2.1.next hb1) (HE.out.2.2.2.trans (hb1.mono HE.out.2.2.2.size)))))
  clear hb1 hc0 hc1 hc2 hd0 hd1 hd2 hd3
  obtain ⟨_, hc0, hc1, hc2⟩ := H1.out.1.facts
  obtain ⟨hd0, hd1, hd2, hd3⟩ := H1.out.2.1.facts
  go_wp2_with fail
  refine (HC.out.2.1 w1 (H.out.2.1.next H1.out.2.2.2)).mono ?_
  rintro e' w2 ⟨rfl, hb1⟩
  have H2 := Lib.hid (And.intro (H1.out.1.next hb1) (And.intro (H1.out.2.1.next hb1) (And.intro (H1.out.2.2.1.next hb1) (H1.out.2.2.2.trans (hb1.mono H1.out.2.2.2.size)))))
  clear hb1 hc0 hc1 hc2 hd0 hd1 hd2 hd3
  obtain ⟨_, hc0, hc1, hc2⟩ := H2.out.1.facts
  obtain ⟨hd0, hd1, hd2, hd3⟩ := H2.out.2.1.facts
  rw [hfr] at ha2
  go_upto_region 11 with fail
  have hxA : ∀ wx : World, Below w2.heap.size w2 wx → (wx.cell? ⟨w.heap.size, 0, none⟩ = some (.int .i64 (k : Int)) ∧ wx.cell? ⟨w.heap.size, 1, none⟩ = some (.int .i64 (r : Int)) ∧ wx.cell? ⟨w.heap.size, 2, none⟩ = some (.slice pt nt ct)) ∧ (wx.cell? ⟨w.heap.size + 1, 0, none⟩ = some (.int .i64 a) ∧ wx.cell? ⟨w.heap.size + 1, 1, none⟩ = some (.slice p n c) ∧ wx.cell? ⟨w.heap.size + 1, 2, none⟩ = some (.slice q m d) ∧ wx.cell? ⟨w.heap.size + 1, 3, none⟩ = some (.slice s u e)) := fun wx hb => ⟨(H2.out.1.next hb).facts.2, (H2.out.2.1.next hb).facts⟩
  have hdr : Below w2.heap.size w2 w2.drew := (Below.refl _ _).drew
  go_region_held3 (fun wx => (wx.cell? ⟨w.heap.size, 0, none⟩ = some (.int .i64 (k : Int)) ∧ wx.cell? ⟨w.heap.size, 1, none⟩ = some (.int .i64 (r : Int)) ∧ wx.cell? ⟨w.heap.size, 2, none⟩ = some (.slice pt nt ct)) ∧ (wx.cell? ⟨w.heap.size + 1, 0, none⟩ = some (.int .i64 a) ∧ wx.cell? ⟨w.heap.size + 1, 1, none⟩ = some (.slice p n c) ∧ wx.cell? ⟨w.heap.size + 1, 2, none⟩ = some (.slice q m d) ∧ wx.cell? ⟨w.heap.size + 1, 3, none⟩ = some (.slice s u e))) (first | exact hxA _ (by assumption) | exact hxA _ (Below.refl _ _) | exact hxA _ hdr | go_keep) (first
    | (go_at_call 47; refine (HC.out.2.2.2.2.2 _).mono ?_; rintro e' wa ⟨rfl, hba⟩; have hBa : Below w2.heap.size w2 wa := (by first | exact hba | exact hdr.trans (hba.mono hdr.size))))
  all_goals
    have H3 := Lib.hid (And.intro (H2.out.1.next hBa) (And.intro (H2.out.2.1.next hBa) (And.intro (H2.out.2.2.1.next hBa) (H2.out.2.2.2.trans (hBa.mono H2.out.2.2.2.size)))))
    clear hxA hdr hba hBa hc0 hc1 hc2 hd0 hd1 hd2 hd3
    go_upto_region 12 with fail
    have hxA : ∀ wx : World, Below wa.heap.size wa wx → (wx.cell? ⟨w.heap.size, 0, none⟩ = some (.int .i64 (k : Int)) ∧ wx.cell? ⟨w.heap.size, 1, none⟩ = some (.int .i64 (r : Int)) ∧ wx.cell? ⟨w.heap.size, 2, none⟩ = some (.slice pt nt ct)) ∧ (wx.cell? ⟨w.heap.size + 1, 0, none⟩ = some (.int .i64 a) ∧ wx.cell? ⟨w.heap.size + 1, 1, none⟩ = some (.slice p n c) ∧ wx.cell? ⟨w.heap.size + 1, 2, none⟩ = some (.slice q m d) ∧ wx.cell? ⟨w.heap.size + 1, 3, none⟩ = some (.slice s u e)) := fun wx hb => ⟨(H3.out.1.next hb).facts.2, (H3.out.2.1.next hb).facts⟩
    have hxP : ∀ wx : World, Below wa.heap.size wa wx → ∀ x y z v, (fun wx => (wx.cell? ⟨w.heap.size, 0, none⟩ = some (.int .i64 (k : Int)) ∧ wx.cell? ⟨w.heap.size, 1, none⟩ = some (.int .i64 (r : Int)) ∧ wx.cell? ⟨w.heap.size, 2, none⟩ = some (.slice pt nt ct)) ∧ (wx.cell? ⟨w.heap.size + 1, 0, none⟩ = some (.int .i64 a) ∧ wx.cell? ⟨w.heap.size + 1, 1, none⟩ = some (.slice p n c) ∧ wx.cell? ⟨w.heap.size + 1, 2, none⟩ = some (.slice q m d) ∧ wx.cell? ⟨w.heap.size + 1, 3, none⟩ = some (.slice s u e))) (put4 wx (w.heap.size + 1 + 1) x y z v) := fun wx hb x y z v => ⟨(((((H3.out.1.next hb).setOther _ 0 (by omega) x).setOther _ 1 (by omega) y).setOther _ 2 (by omega) z).setOther _ 3 (by omega) v).facts.2, (((((H3.out.2.1.next hb).setOther _ 0 (by omega) x).setOther _ 1 (by omega) y).setOther _ 2 (by omega) z).setOther _ 3 (by omega) v).facts⟩
    unfold put4 at hxP
    have hxF : ∀ wx : World, Below wa.heap.size wa wx → (wx.cell? ⟨w.heap.size + 1 + 1, 0, none⟩ = some (.int .i64 0) ∧ wx.cell? ⟨w.heap.size + 1 + 1, 1, none⟩ = some (.slice none 0 0) ∧ wx.cell? ⟨w.heap.size + 1 + 1, 2, none⟩ = some (.slice none 0 0) ∧ wx.cell? ⟨w.heap.size + 1 + 1, 3, none⟩ = some (.slice none 0 0)) ∧ (wx.frozen? ⟨w.heap.size + 1 + 1, 0, none⟩ = false ∧ wx.frozen? ⟨w.heap.size + 1 + 1, 1, none⟩ = false ∧ wx.frozen? ⟨w.heap.size + 1 + 1, 2, none⟩ = false ∧ wx.frozen? ⟨w.heap.size + 1 + 1, 3, none⟩ = false) := fun wx hb => ⟨(H3.out.2.2.1.next hb).facts, (H3.out.2.2.1.next hb).frozen 0, (H3.out.2.2.1.next hb).frozen 1, (H3.out.2.2.1.next hb).frozen 2, (H3.out.2.2.1.next hb).frozen 3⟩
    have hdr : Below wa.heap.size wa wa.drew := (Below.refl _ _).drew
    have hlt2 : w.heap.size + 1 + 1 < wa.heap.size := H3.out.2.2.1.lt
    go_region_held3 (fun wx => (wx.cell? ⟨w.heap.size, 0, none⟩ = some (.int .i64 (k : Int)) ∧ wx.cell? ⟨w.heap.size, 1, none⟩ = some (.int .i64 (r : Int)) ∧ wx.cell? ⟨w.heap.size, 2, none⟩ = some (.slice pt nt ct)) ∧ (wx.cell? ⟨w.heap.size + 1, 0, none⟩ = some (.int .i64 a) ∧ wx.cell? ⟨w.heap.size + 1, 1, none⟩ = some (.slice p n c) ∧ wx.cell? ⟨w.heap.size + 1, 2, none⟩ = some (.slice q m d) ∧ wx.cell? ⟨w.heap.size + 1, 3, none⟩ = some (.slice s u e))) (first | exact hxA _ (by assumption) | exact hxA _ (Below.refl _ _) | exact hxA _ hdr | exact hxP _ (by assumption) _ _ _ _ | go_keep) (first
      | (go_at_call 52; refine (HC.out.2.2.2.2.1 _ ((H.out.1.next H3.out.2.2.2).next hB2) ((H.out.2.1.next H3.out.2.2.2).next hB2)).mono ?_; rintro e' wz ⟨p3, c3, rfl, ho3, hb3⟩; have hB3 : Below wa.heap.size wa wz := hB2.trans (hb3.mono hB2.size); obtain ⟨⟨hg0, hg1, hg2, hg3⟩, hf0, hf1, hf2, hf3⟩ := hxF _ hB3)
      | (go_at_call 52; refine (HC.out.2.2.2.1 _ ((H.out.1.next H3.out.2.2.2).next hB1) ((H.out.2.1.next H3.out.2.2.2).next hB1)).mono ?_; rintro e' wy ⟨p2, c2, rfl, ho2, hb2⟩; have hB2 : Below wa.heap.size wa wy := hB1.trans (hb2.mono hB1.size))
      | (go_at_call 52; refine (HC.out.2.2.1 _ ((H.out.1.next H3.out.2.2.2).next hdr) ((H.out.2.1.next H3.out.2.2.2).next hdr)).mono ?_; rintro e' wx ⟨p1, c1, rfl, ho1, hb1⟩; have hB1 : Below wa.heap.size wa wx := hdr.trans (hb1.mono hdr.size)))
    all_goals
      have q1 : IntO wa.heap.size wz p1 c1 X1 := (ho1.next hb2).next hb3
      have q2 : IntO wx.heap.size wz p2 c2 X2 := ho2.next hb3
      have k1 : ∀ k, (Value.slice p1 X1.length c1).ownBlock = some k → k < wx.heap.size := fun k hk => (World.ownsRow.lt ho1 k hk).2
      have k2 : ∀ k, (Value.slice p2 X2.length c2).ownBlock = some k → k < wy.heap.size := fun k hk => (World.ownsRow.lt ho2 k hk).2
      have hsz1 := H3.out.2.2.2.size
      have hsz2 : wa.heap.size ≤ wx.heap.size := hB1.size
      have HF := Lib.hid (And.intro q1 (And.intro q2 (And.intro ho3 (And.intro k1 (And.intro k2 (And.intro (Nat.le_trans hsz1 hsz2) (And.intro hb2.size (And.intro hb3.size (And.intro (H3.out.2.2.2.trans (hB3.mono hsz1)) (And.intro hlt2 hsz2))))))))))
      clear hxA hxP hxF hdr ho1 ho2 ho3 hb1 hb2 hb3 hB1 hB2 hB3 q1 q2 k1 k2 hsz1 hsz2 hlt2
      go_wp2_with fail
      refine bodyPost_ret (v := .tuple #[.agg #[.int .i64 fr, .slice p1 n c1, .slice p2 V c2, .slice p3 u c3], .nilIface]) (by simp [results, Tryd.results24, go_sem, hg0, hg1, hg2, hg3]) rfl ⟨p1, c1, p2, c2, p3, c3, wx.heap.size, wy.heap.size, by rw [H.out.2.2.1, H.out.2.2.2.1, H.out.2.2.2.2], ?_, ?_, ?_, HF.out.2.2.2.2.2.1, HF.out.2.2.2.2.2.2.1, ?_, HF.out.2.2.2.1, HF.out.2.2.2.2.1, ?_⟩
      · first
          | exact (HF.out.1.put4 HF.out.2.2.2.2.2.2.2.2.2.1 _ _ _ _).base H3.out.2.2.2.size
          | exact ((HF.out.1.put4 HF.out.2.2.2.2.2.2.2.2.2.1 _ _ _ _).base H3.out.2.2.2.size).next (Below.refl _ _).drew
      · first
          | exact HF.out.2.1.put4 (Nat.lt_of_lt_of_le HF.out.2.2.2.2.2.2.2.2.2.1 HF.out.2.2.2.2.2.2.2.2.2.2) _ _ _ _
          | exact (HF.out.2.1.put4 (Nat.lt_of_lt_of_le HF.out.2.2.2.2.2.2.2.2.2.1 HF.out.2.2.2.2.2.2.2.2.2.2) _ _ _ _).next (Below.refl _ _).drew
      · have hlt : w.heap.size + 1 + 1 < wy.heap.size := Nat.lt_of_lt_of_le (Nat.lt_of_lt_of_le HF.out.2.2.2.2.2.2.2.2.2.1 HF.out.2.2.2.2.2.2.2.2.2.2) HF.out.2.2.2.2.2.2.1
        first
          | exact HF.out.2.2.1.put4 hlt _ _ _ _
          | exact (HF.out.2.2.1.put4 hlt _ _ _ _).next (Below.refl _ _).drew
      · exact Nat.le_trans HF.out.2.2.2.2.2.2.2.1 (Nat.le_of_eq (put4_size wz (w.heap.size + 1 + 1) (.int .i64 fr) (.slice p1 n c1) (.slice p2 V c2) (.slice p3 u c3)).symm)
      · first
          | exact put4_below HF.out.2.2.2.2.2.2.2.2.1 (Nat.le_trans (Nat.le_succ _) (Nat.le_succ _)) _ _ _ _
          | exact (put4_below HF.out.2.2.2.2.2.2.2.2.1 (Nat.le_trans (Nat.le_succ _) (Nat.le_succ _)) _ _ _ _).drew
end Go.Proofs.YtfgoflaeclfggaaDoor
end
section
namespace Go.Proofs.YtfgoflaeclfggaaDoor
open Go.RowKit Go.Extern.Stop Go.Stop Go.Extern WordM RuleM NatM

/-- the first byte that begins no rule's text, of a text of n bytes that begins with these -/
def fwS (n a b c d : Nat) : Nat :=
  if n = 0 ∨ a < 49 ∨ 52 < a then 0 else if n = 1 ∨ b ≠ 46 then 1 else if n = 2 ∨ c < 48 ∨ 51 < c then 2 else if n = 3 ∨ d ≠ 46 then 3 else 4
def byteS (s : ByteArray) (i : Nat) : Nat := (bsOf s).getD i 0
theorem byteS_get {s : ByteArray} {i : Nat} (h : i < s.size) : byteS s i = (s[i]).toNat := by
  unfold byteS
  rw [List.getD_eq_getElem?_getD, bsOf_get h]; rfl
/-- the same of a text -/
def fwT (s : ByteArray) : Nat := fwS s.size (byteS s 0) (byteS s 1) (byteS s 2) (byteS s 3)
theorem fwT_le (s : ByteArray) : fwT s ≤ 4 := by
  unfold fwT fwS
  split <;> (try split) <;> (try split) <;> (try split) <;> omega
def FwPost (w : World) (s : ByteArray) (e : Ending) (w' : World) : Prop := e = .returned (.int .i64 (fwT s : Int)) ∧ w = w'
theorem fw_post {w : World} {s : ByteArray} {n : Nat} (h : fwT s = n) : FwPost w s (.returned (.int .i64 (n : Int))) w := ⟨by rw [h], rfl⟩

theorem fw_size {s : ByteArray} {n : Nat} (h : min s.size 4 = n) : fwT s = fwS n (byteS s 0) (byteS s 1) (byteS s 2) (byteS s 3) := by
  unfold fwT fwS
  split <;> split <;> (try split) <;> (try split) <;> (try split) <;> (try split) <;> (try split) <;> (try split) <;> omega

end Go.Proofs.YtfgoflaeclfggaaDoor
end
section
namespace Go.Proofs.YtfgoflaeclfggaaDoor
open Go.RowKit Go.Extern.Stop Go.Stop Go.Extern WordM RuleM NatM

theorem Rul3.put {w : World} {h : Nat} {a b c : Value} (k : Rul3 w h a b c) (a' b' c' : Value) : Rul3 (put3 w h a' b' c') h a' b' c' := by
  have set : ∀ {w : World} {cs : Array Value} {T : TypeId} (i : Nat) (v : Value), w.heap[h]? = some (.cells cs T (0, 0)) → (w.setCell ⟨h, i, none⟩ v).heap[h]? = some (.cells (cs.setIfInBounds i v) T (0, 0)) := fun {w cs T} i v hh => by
    show (w.heap.modify h _)[h]? = _
    rw [Array.getElem?_modify, if_pos rfl, hh]; rfl
  exact ⟨set 2 c' (set 1 b' (set 0 a' k.heap))⟩
theorem fwT_four {s : ByteArray} (h : fwT s = 4) : 4 ≤ s.size ∧ (49 ≤ byteS s 0 ∧ byteS s 0 ≤ 52) ∧ byteS s 1 = 46 ∧ (48 ≤ byteS s 2 ∧ byteS s 2 ≤ 51) ∧ byteS s 3 = 46 := by
  unfold fwT fwS at h
  split at h
  · omega
  · split at h
    · omega
    · split at h
      · omega
      · split at h
        · omega
        · omega
/-- what a rule's text says of symbols and radius, and the rest -/
def symK (s : ByteArray) : Nat := byteS s 0 - 48
def symR (s : ByteArray) : Nat := byteS s 2 - 48
def restS (s : ByteArray) : ByteArray := s.extract 4 s.size
theorem sym_range {s : ByteArray} (h : fwT s = 4) : 1 ≤ symK s ∧ symK s ≤ 4 ∧ symR s ≤ 3 := by
  have := fwT_four h
  unfold symK symR
  omega


/-- refused by nat.Parse: rule's Fault over nat's -/
def ErrU (w : World) (A : Nat → Addr) (i m : Nat) (e : Ending) (w' : World) : Prop :=
  ∃ b b', e = .returned (.tuple #[noRule, .iface 73 (.pointer (some ⟨b, 0, none⟩))]) ∧ (Tree.fault b ruleOp 4 (.fault b' natOp i (.leaf (A m)))).lies w' ∧ Below w.heap.size w w'
end Go.Proofs.YtfgoflaeclfggaaDoor
end
section
namespace Go.Proofs.YtfgoflaeclfggaaDoor
open Go.RowKit

/-- a lent list: its block holds it, and the two marks behind -/
def LentI (w : World) (g : Nat) (l : List Int) : Prop := w.heap[g]? = some (.cells (cI (l ++ [7001, 7002])).toArray 3 (0, 0))
theorem LentI.lt {w : World} {g : Nat} {l : List Int} (h : LentI w g l) : g < w.heap.size := heap_ltN h
theorem LentI.cell {w : World} {g : Nat} {l : List Int} (h : LentI w g l) {j : Nat} {x : Int} (hx : (l ++ [7001, 7002])[j]? = some x) : w.cell? ⟨g, j, none⟩ = some (.int .i64 x) := by
  rw [cell_of_row w g j _ _ _ h, List.getElem?_toArray]
  exact cI_get hx
theorem LentI.block {w w' : World} {g : Nat} {l : List Int} (hb : w'.heap[g]? = w.heap[g]?) (h : LentI w g l) : LentI w' g l := hb.trans h
theorem LentI.below {w w' : World} {g : Nat} {l : List Int} (hb : Below w.heap.size w w') (h : LentI w g l) : LentI w' g l := h.block (hb.block g h.lt)
theorem LentI.own {w : World} {g base : Nat} {l : List Int} (hB : base ≤ g) (hl : l.length ≤ 17592186043904) (h : LentI w g l) : IntO base w (some ⟨g, 0, none⟩) (l.length + 2) l := by
  refine ⟨by rw [cI_length, Nat.mul_one], Or.inr ⟨g, l.length + 2, _, rfl, hB, h, by omega, by unfold maxLen; omega, by simp [cI], ?_⟩⟩
  rw [List.toList_toArray, Nat.mul_one]
  unfold cI
  rw [List.map_append, List.take_left' (by simp)]
theorem LentI.of_own {w : World} {g base : Nat} {l : List Int} (h : IntO base w (some ⟨g, 0, none⟩) l.length l) (hfull : ∃ m, l = m ++ [7001, 7002]) : ∃ m, l = m ++ [7001, 7002] ∧ LentI w g m := by
  obtain ⟨m, rfl⟩ := hfull
  refine ⟨m, rfl, ?_⟩
  obtain ⟨hx, h1 | ⟨g', cap, cur, hv, hg, hh, hc, hm, hs, ht⟩⟩ := h
  · simp at h1
  · obtain ⟨rfl, rfl⟩ : g = g' ∧ (m ++ [7001, 7002]).length = cap := by simpa using hv
    unfold LentI
    rw [hh]
    congr 2
    rw [← Array.toList_inj, List.toList_toArray, ← ht, Nat.mul_one, List.take_of_length_le (by rw [Array.length_toList]; omega)]

def LentPostI (w : World) (l : List Int) (e : Ending) (w' : World) : Prop :=
  e = .returned (.slice (some ⟨w.heap.size, 0, none⟩) l.length (l.length + 2)) ∧ LentI w' w.heap.size l ∧ Below w.heap.size w w'
theorem splice_zeroI (cs : List Value) (n : Nat) (v : Value) : splice (List.replicate n v) 0 cs = cs ++ List.replicate (n - cs.length) v := by
  unfold splice
  simp

set_option maxRecDepth 100000 in
set_option maxHeartbeats 1000000 in
theorem lentI_any (p : Option Addr) (cap : Nat) (l : List Int) (w : World) (h : IntV w.heap.size w p cap l) (hl : l.length ≤ 17592186043904) :
    Calls Tryd.prog 31 #[.slice p l.length cap] w (LentPostI w l) := by
  obtain ⟨n, hn⟩ : ∃ n, n = l.length + 2 := ⟨_, rfl⟩
  have hmk := makeI n (by omega)
  have hn2 : (l.length : Int) + 2 = (n : Int) := by omega
  have H := Lib.hid (And.intro h hn)
  have hln : l.length < n := by omega
  have hln1 : l.length + 1 < n := by omega
  have hnb : n ≤ 17592186043906 := by omega
  clear h hn
  go_enter Tryd.func31, Tryd.ntmps31
  have hB1 : Below w.heap.size w (w.alloc (.cells (madeCells #[.int .i64 0] n) 3)) := (Below.refl _ _).alloc (Nat.le_refl _) _
  have HB1 := Lib.hid hB1
  have hh : (w.alloc (.cells (madeCells #[.int .i64 0] n) 3)).heap[w.heap.size]? = some (.cells (List.replicate n (Value.int .i64 0)).toArray 3 (0, 0)) := by
    rw [heap_newN, ← madeI_list]
  have HHH := Lib.hid hh
  clear hB1 hh
  go_wp2_with (with_reducible refine wpList_copy_splice rfl (.tmp 8) (.tmp 9) 22 22 rfl 3 Tryd.underlying22 sizeI (some ⟨w.heap.size, 0, none⟩) p n n l.length cap rfl rfl w.heap.size 0 (List.replicate n (Value.int .i64 0)) 3 HHH.out (cI l) ?k1 ?k2 ?k3 ?k4 w.heap.size w HB1.out (Nat.le_refl _) ?_)
  case k1 => rw [cI_length]; exact (Nat.min_eq_left (by omega)).symm
  case k2 =>
    intro hpos
    rw [cI_length] at hpos
    obtain ⟨b, off, rfl, hb, hc⟩ := H.out.1.cell (List.length_pos_iff.1 hpos)
    refine ⟨_, rfl, fun j v hv => ?_⟩
    rw [add_off]
    unfold cI at hv
    rw [List.getElem?_map] at hv
    obtain ⟨x, hx, rfl⟩ := Option.map_eq_some_iff.1 hv
    exact (HB1.out.cell (p := ⟨b, off + j, none⟩) hb).trans (hc j x hx)
  case k3 => rw [cI_length, List.length_replicate]; omega
  case k4 =>
    intro v hv
    unfold cI at hv
    obtain ⟨x, _, rfl⟩ := List.mem_map.1 hv
    rfl
  intro w1 hw1 hb1
  have hn0 : n = l.length + 2 := H.out.2
  have hw2 : w1.heap[w.heap.size]? = some (.cells (cI l ++ [Value.int .i64 0, Value.int .i64 0]).toArray 3 (0, 0)) := by
    have h := hw1.out
    rw [splice_zeroI, cI_length, show n - l.length = 2 by omega] at h
    exact h
  have hc1 : w1.cell? ⟨w.heap.size, l.length, none⟩ = some (.int .i64 0) := by
    rw [cell_of_row w1 _ _ _ _ _ hw2, List.getElem?_toArray, List.getElem?_append_right (by rw [cI_length]; exact Nat.le_refl _), cI_length, Nat.sub_self]
    rfl
  have hc2 : w1.cell? ⟨w.heap.size, l.length + 1, none⟩ = some (.int .i64 0) := by
    rw [cell_of_row w1 _ _ _ _ _ hw2, List.getElem?_toArray, List.getElem?_append_right (by rw [cI_length]; omega), cI_length, show l.length + 1 - l.length = 1 by omega]
    rfl
  have hf1 : ∀ j, w1.frozen? ⟨w.heap.size, j, none⟩ = false := fun j => frozen_of_row w1 w.heap.size j _ _ hw2
  have hff1 := hf1 l.length
  have hff2 := hf1 (l.length + 1)
  have hnn : n ≤ l.length + 2 := by omega
  have hB2 : Below w.heap.size w ((w1.setCell ⟨w.heap.size, l.length, none⟩ (.int .i64 7001)).setCell ⟨w.heap.size, l.length + 1, none⟩ (.int .i64 7002)) := (hb1.setCell (p := ⟨w.heap.size, l.length, none⟩) (Nat.le_refl _) _).setCell (p := ⟨w.heap.size, l.length + 1, none⟩) (Nat.le_refl _) _
  have hL : LentI ((w1.setCell ⟨w.heap.size, l.length, none⟩ (.int .i64 7001)).setCell ⟨w.heap.size, l.length + 1, none⟩ (.int .i64 7002)) w.heap.size l := by
    unfold LentI
    rw [heap_setCell_same _ w.heap.size (l.length + 1) _ _ _ (heap_setCell_same w1 w.heap.size l.length _ _ _ hw2)]
    congr 2
    rw [← Array.toList_inj]
    simp only [Array.toList_setIfInBounds]
    rw [List.set_append_right _ _ (by rw [cI_length]; exact Nat.le_refl _), List.set_append_right _ _ (by rw [cI_length]; omega), cI_length, Nat.sub_self, show l.length + 1 - l.length = 1 by omega]
    simp [cI]
  have HF := Lib.hid (And.intro hL hB2)
  clear hw1 hb1 hw2 hf1 hn0 hL hB2 hmk HB1 HHH
  go_wp2_with fail
  go_ret
  exact ⟨by rw [H.out.2]; rfl, HF.out.1, HF.out.2⟩
set_option maxRecDepth 100000 in
set_option maxHeartbeats 1000000 in
theorem keptI_any (g : Nat) (p : Option Addr) (n m c : Nat) (l : List Int) (w : World) (hg : LentI w g l) (h : IntV w.heap.size w p c l) (hl : l.length ≤ 17592186043904) (hn : n = l.length) (hm : m = l.length + 2) :
    Calls Tryd.prog 46 #[.slice (some ⟨g, 0, none⟩) n m, .slice p l.length c] w (Tells (.bool true) w) := by
  subst hn hm
  have hcap := h.cap
  unfold maxLen at hcap
  have hle := h.le
  have hsame := ints_any (some ⟨g, 0, none⟩) p l.length l.length (l.length + 2) c l l w rfl rfl ((LentI.own (base := 0) (Nat.zero_le _) (by omega) hg).toV) h
  rw [sameI_self] at hsame
  have HG := Lib.hid hg
  clear hg h
  go_enter Tryd.func46, Tryd.ntmps46
  go_wp2_with fail
  refine hsame.mono ?_
  clear hsame
  rintro e w1 ⟨rfl, hb1⟩
  have hc1 : w1.cell? ⟨g, l.length, none⟩ = some (.int .i64 7001) := (HG.out.below hb1).cell (by simp)
  have hc2 : w1.cell? ⟨g, l.length + 1, none⟩ = some (.int .i64 7002) := (HG.out.below hb1).cell (by rw [List.getElem?_append_right (by omega), show l.length + 1 - l.length = 1 by omega]; rfl)
  have HB := Lib.hid hb1
  clear hb1
  go_wp2_with fail
  go_ret
  exact ⟨rfl, HB.out⟩

def CopyPostI (w : World) (l : List Int) (e : Ending) (w' : World) : Prop :=
  ∃ p c, e = .returned (.slice p l.length c) ∧ IntO w.heap.size w' p c l ∧ Below w.heap.size w w'
set_option maxRecDepth 100000 in
set_option maxHeartbeats 1000000 in
theorem copyI_any (p : Option Addr) (n cap : Nat) (l : List Int) (w : World) (hn : n = l.length) (h : IntV w.heap.size w p cap l) (hl : l.length ≤ 17592186043904) :
    Calls Tryd.prog 22 #[.slice p n cap] w (CopyPostI w l) := by
  subst hn
  obtain ⟨i0, hi, hz0, hz1, hz2⟩ := info_parts infoI
  have H := Lib.hid h
  have hle := h.le
  rcases p with _ | a
  · have hc := h.nil rfl
    subst hc
    obtain rfl : l = [] := List.eq_nil_of_length_eq_zero (by omega)
    clear h
    show Calls Tryd.prog 22 #[.slice none 0 0] w (CopyPostI w [])
    go_enter Tryd.func22, Tryd.ntmps22
    go_wp2_with (at_builtin; refine wpList_append_own_none rfl _ _ 22 rfl w.heap.size 3 i0 1 Tryd.underlying22 hi _ 0 [] rfl (World.ownsRow_made w #[] 0 (Nat.le_refl _) (Nat.zero_le _) rfl) rfl ?_)
    go_ret
    have ho : IntO w.heap.size (w.alloc (.cells #[] 3)) (some ⟨w.heap.size, 0, none⟩) 0 [] := IntO.of_block (l := []) (Nat.le_refl _) (Nat.zero_le _) (heap_newN _ _)
    exact ⟨_, _, rfl, ho, (Below.refl _ _).alloc (Nat.le_refl _) _⟩
  rcases Nat.eq_zero_or_pos l.length with hl0 | hl0
  · obtain rfl : l = [] := List.eq_nil_of_length_eq_zero hl0
    clear h
    show Calls Tryd.prog 22 #[.slice (some a) 0 cap] w (CopyPostI w [])
    go_enter Tryd.func22, Tryd.ntmps22
    go_wp2_with (at_builtin; refine wpList_append_own _ rfl _ _ 22 rfl w.heap.size 3 i0 (.int .i64 0) 1 8 Tryd.underlying22 hi hz0 hz1 hz2 rfl (by decide) _ 0 [] rfl (World.ownsRow_made w #[] 0 (Nat.le_refl _) (Nat.zero_le _) rfl) a 0 cap [] rfl rfl ?c1 ?c2 ?c3 ?c4 ?c5 ?_)
    case c1 => intro j u hj; simp at hj
    case c2 => intro u hu; simp at hu
    case c3 => unfold maxLen; omega
    case c4 => omega
    case c5 => simp
    intro v' w1 hown' hgrow _
    obtain ⟨p1, c1, rfl, ho1⟩ := IntO.slice_own (l := []) hown'
    have hb1 : Below w.heap.size w w1 := ((Below.refl _ _).alloc (Nat.le_refl _) _).grown hgrow (by simp) (fun j hj => by have := Option.some.inj hj; simp at this; omega)
    have HO := Lib.hid (And.intro ho1 hb1)
    clear hown' hgrow ho1 hb1
    go_wp2_with fail
    go_ret
    exact ⟨p1, c1, rfl, HO.out.1, HO.out.2⟩
  · obtain ⟨b, off, ha, hb, hc⟩ := h.cell (List.length_pos_iff.1 hl0)
    obtain rfl : a = ⟨b, off, none⟩ := by simpa using ha
    have HC := Lib.hid hc
    clear h hc ha
    go_enter Tryd.func22, Tryd.ntmps22
    go_wp2_with (at_builtin; refine wpList_append_own _ rfl _ _ 22 rfl w.heap.size 3 i0 (.int .i64 0) 1 8 Tryd.underlying22 hi hz0 hz1 hz2 rfl (by decide) _ 0 [] rfl (World.ownsRow_made w #[] 0 (Nat.le_refl _) (Nat.zero_le _) rfl) ⟨b, off, none⟩ l.length cap (cI l) rfl ?d0 ?d1 ?d2 ?d3 ?d4 ?d5 ?_)
    case d0 => simp [cI]
    case d1 =>
      intro j u hj
      unfold cI at hj
      rw [List.getElem?_map] at hj
      obtain ⟨x, hx, rfl⟩ := Option.map_eq_some_iff.1 hj
      rw [add_off]
      exact (((Below.refl w.heap.size w).alloc (Nat.le_refl _) _).cell (p := ⟨b, off + j, none⟩) hb).trans (HC.out j x hx)
    case d2 =>
      intro u hu
      unfold cI at hu
      obtain ⟨x, _, rfl⟩ := List.mem_map.1 hu
      rfl
    case d3 => unfold maxLen; omega
    case d4 => omega
    case d5 => simp
    intro v' w1 hown' hgrow _
    obtain ⟨p1, c1, rfl, ho1⟩ := IntO.slice_own (l := l) (by simpa using hown')
    have hb1 : Below w.heap.size w w1 := ((Below.refl _ _).alloc (Nat.le_refl _) _).grown hgrow (by simp) (fun j hj => by have := Option.some.inj hj; simp at this; omega)
    have HO := Lib.hid (And.intro ho1 hb1)
    clear hown' hgrow ho1 hb1
    go_wp2_with fail
    go_ret
    exact ⟨p1, c1, by simp, HO.out.1, HO.out.2⟩
end Go.Proofs.YtfgoflaeclfggaaDoor
end
section
namespace Go.Proofs.YtfgoflaeclfggaaDoor
open Go.ChangeShapes Go.WideShapes Go.ChangeAt Go.RowKit

theorem own : ownKnob Tryd.prog.godebug = none := by kernel_rfl
theorem star : "*" ++ "errors.errorString" = "*errors.errorString" := by decide
theorem row94 (u : TypeId) (h : Tryd.prog.typeName? 3 u = some "*errors.errorString") : u = 132 :=
  typeName_ptr_named (nm := "errors.errorString") (by rw [star]; kernel_rfl) (by kernel_rfl) (by decide) u (by rw [star]; exact h)
theorem cells96 : Tryd.prog.cellsOf 154 = 1 := by kernel_rfl
theorem cells9 : Tryd.prog.cellsOf 9 = 1 := by kernel_rfl

set_option maxRecDepth 100000 in
/-- The sentinels of a list: each variable points to a string's cell of its own. -/
theorem sents {W : World} : ∀ (l : List (String × DataW Unit)) (ps : List MemPlace), DataW.LaidVars Tryd.prog W l ps →
    (∀ x ∈ l, ∃ text, x.2 = .iface "*errors.errorString" (.ptr (.agg [.lit (.string text)]))) → (∀ x ∈ l, ∀ g, Tryd.prog.globalNamed x.1 = some g → (Tryd.prog.globals[g]?).map (·.type) = some 28) →
    (∀ b off, MemPlace.cell b off ∈ ps → (∃ c t, W.heap[b]? = some (.cells c t (0, 0))) ∧ ∀ u v, W.cell? ⟨b, off, none⟩ = some (.iface u v) → Value.okWide Tryd.prog W .any 0 u v) →
    ∃ ads : List Addr, ads.length = l.length ∧ (∀ i, i < l.length → ∃ n d a, l[i]? = some (n, d) ∧ ads[i]? = some a ∧ W.var? Tryd.prog n = some #[.iface 132 (.pointer (some a))]) ∧
      (∀ a ∈ ads, (∃ c t, W.heap[a.block]? = some (.cells c t (0, 0))) ∧ MemPlace.cell a.block a.off ∈ ps) ∧ (ps.Nodup → ads.Nodup)
  | [], _, _, _, _, _ => ⟨[], rfl, fun i h => absurd h (by simp), fun a h => absurd h (by simp), fun _ => List.nodup_nil⟩
  | (n, d) :: r, ps, h, hf, hg, hrows => by
    obtain ⟨g, t, cs, f0, p0, q0, hg0, ht0, hv0, hd0, hr, rfl⟩ := h
    obtain ⟨text, hx⟩ := hf (n, d) (List.mem_cons_self ..)
    simp only at hx
    subst hx
    have ht := hg _ (List.mem_cons_self ..) g hg0
    obtain rfl := Option.some.inj (ht.symm.trans ht0)
    obtain ⟨l0⟩ := cs
    have ok0 : ∀ u v, l0 = [.iface u v] → Value.okWide Tryd.prog W .any 0 u v := fun u v e => by
      subst e
      exact (hrows g 0 (by simp [MemPlace.row])).2 u v (by simpa using World.var?_cell hg0 hv0 0)
    obtain ⟨a, s, rfl, hc, hs, hz, rfl⟩ := errorString_of_trod Tryd.underlying28 row94 Tryd.underlying132 Tryd.underlying154 rfl rfl Tryd.underlying9 cells96 cells9 hd0 ok0
    obtain ⟨ads, h1, h2, h3, h4⟩ := sents r q0 hr (fun x hx => hf x (List.mem_cons_of_mem _ hx)) (fun x hx => hg x (List.mem_cons_of_mem _ hx)) (fun b off hm => hrows b off (List.mem_append_right _ hm))
    refine ⟨a :: ads, by simp [h1], ?_, ?_, ?_⟩
    · intro i hi
      cases i with
      | zero => exact ⟨n, _, a, rfl, rfl, hv0⟩
      | succ i => exact h2 i (by simpa using hi)
    · intro b hb
      rcases List.mem_cons.1 hb with rfl | hb
      · exact ⟨(hrows b.block b.off (by simp [MemPlace.row])).1, by simp [MemPlace.row]⟩
      · exact ⟨(h3 b hb).1, List.mem_append_right _ (h3 b hb).2⟩
    · intro hn
      have hq : q0.Nodup := (List.nodup_append.1 hn).2.1
      refine List.nodup_cons.2 ⟨fun hm => ?_, h4 hq⟩
      have hd := (List.nodup_append.1 hn).2.2 (MemPlace.cell a.block a.off) (by simp [MemPlace.row]) _ (h3 a hm).2
      exact hd rfl

/-- The list of the twelve, ads every row has it behind the handle. -/
def twelve : List (String × DataW Unit) := [("eden/api.BadRule", Rows.laid_eden_api_BadRule), ("eden/api.BadWord", Rows.laid_eden_api_BadWord), ("eden/api.BadArg", Rows.laid_eden_api_BadArg), ("eden/api.TooBig", Rows.laid_eden_api_TooBig), ("eden/api.NoBudget", Rows.laid_eden_api_NoBudget), ("eden/api.BadText", Rows.laid_eden_api_BadText), ("eden/api.BadPatch", Rows.laid_eden_api_BadPatch), ("eden/api.BadCert", Rows.laid_eden_api_BadCert), ("eden/api.NoInverse", Rows.laid_eden_api_NoInverse), ("eden/api.BadLine", Rows.laid_eden_api_BadLine), ("eden/api.BadState", Rows.laid_eden_api_BadState), ("eden/api.Unknown", Rows.laid_eden_api_Unknown)]
theorem twelve_form : ∀ x ∈ twelve, ∃ text, x.2 = .iface "*errors.errorString" (.ptr (.agg [.lit (.string text)])) := by
  intro x hx
  simp only [twelve, List.mem_cons, List.not_mem_nil, or_false] at hx
  rcases hx with rfl | rfl | rfl | rfl | rfl | rfl | rfl | rfl | rfl | rfl | rfl | rfl <;> exact ⟨_, rfl⟩
theorem gBadRule : Tryd.prog.globalNamed "eden/api.BadRule" = some 0 := by kernel_rfl
theorem gtBadRule : (Tryd.prog.globals[0]?).map (·.type) = some 28 := by kernel_rfl
theorem gBadWord : Tryd.prog.globalNamed "eden/api.BadWord" = some 1 := by kernel_rfl
theorem gtBadWord : (Tryd.prog.globals[1]?).map (·.type) = some 28 := by kernel_rfl
theorem gBadArg : Tryd.prog.globalNamed "eden/api.BadArg" = some 2 := by kernel_rfl
theorem gtBadArg : (Tryd.prog.globals[2]?).map (·.type) = some 28 := by kernel_rfl
theorem gTooBig : Tryd.prog.globalNamed "eden/api.TooBig" = some 3 := by kernel_rfl
theorem gtTooBig : (Tryd.prog.globals[3]?).map (·.type) = some 28 := by kernel_rfl
theorem gNoBudget : Tryd.prog.globalNamed "eden/api.NoBudget" = some 4 := by kernel_rfl
theorem gtNoBudget : (Tryd.prog.globals[4]?).map (·.type) = some 28 := by kernel_rfl
theorem gBadText : Tryd.prog.globalNamed "eden/api.BadText" = some 5 := by kernel_rfl
theorem gtBadText : (Tryd.prog.globals[5]?).map (·.type) = some 28 := by kernel_rfl
theorem gBadPatch : Tryd.prog.globalNamed "eden/api.BadPatch" = some 6 := by kernel_rfl
theorem gtBadPatch : (Tryd.prog.globals[6]?).map (·.type) = some 28 := by kernel_rfl
theorem gBadCert : Tryd.prog.globalNamed "eden/api.BadCert" = some 7 := by kernel_rfl
theorem gtBadCert : (Tryd.prog.globals[7]?).map (·.type) = some 28 := by kernel_rfl
theorem gNoInverse : Tryd.prog.globalNamed "eden/api.NoInverse" = some 8 := by kernel_rfl
theorem gtNoInverse : (Tryd.prog.globals[8]?).map (·.type) = some 28 := by kernel_rfl
theorem gBadLine : Tryd.prog.globalNamed "eden/api.BadLine" = some 9 := by kernel_rfl
theorem gtBadLine : (Tryd.prog.globals[9]?).map (·.type) = some 28 := by kernel_rfl
theorem gBadState : Tryd.prog.globalNamed "eden/api.BadState" = some 10 := by kernel_rfl
theorem gtBadState : (Tryd.prog.globals[10]?).map (·.type) = some 28 := by kernel_rfl
theorem gUnknown : Tryd.prog.globalNamed "eden/api.Unknown" = some 11 := by kernel_rfl
theorem gtUnknown : (Tryd.prog.globals[11]?).map (·.type) = some 28 := by kernel_rfl
theorem twelve_types : ∀ x ∈ twelve, ∀ g, Tryd.prog.globalNamed x.1 = some g → (Tryd.prog.globals[g]?).map (·.type) = some 28 := by
  intro x hx g hg
  simp only [twelve, List.mem_cons, List.not_mem_nil, or_false] at hx
  rcases hx with rfl | rfl | rfl | rfl | rfl | rfl | rfl | rfl | rfl | rfl | rfl | rfl
  · obtain rfl := Option.some.inj (gBadRule.symm.trans hg); exact gtBadRule
  · obtain rfl := Option.some.inj (gBadWord.symm.trans hg); exact gtBadWord
  · obtain rfl := Option.some.inj (gBadArg.symm.trans hg); exact gtBadArg
  · obtain rfl := Option.some.inj (gTooBig.symm.trans hg); exact gtTooBig
  · obtain rfl := Option.some.inj (gNoBudget.symm.trans hg); exact gtNoBudget
  · obtain rfl := Option.some.inj (gBadText.symm.trans hg); exact gtBadText
  · obtain rfl := Option.some.inj (gBadPatch.symm.trans hg); exact gtBadPatch
  · obtain rfl := Option.some.inj (gBadCert.symm.trans hg); exact gtBadCert
  · obtain rfl := Option.some.inj (gNoInverse.symm.trans hg); exact gtNoInverse
  · obtain rfl := Option.some.inj (gBadLine.symm.trans hg); exact gtBadLine
  · obtain rfl := Option.some.inj (gBadState.symm.trans hg); exact gtBadState
  · obtain rfl := Option.some.inj (gUnknown.symm.trans hg); exact gtUnknown

theorem nodup_inj {α : Type} {l : List α} (h : l.Nodup) {i j : Nat} (hi : i < l.length) (hj : j < l.length) (e : l[i] = l[j]) : i = j := by
  have hp := List.pairwise_iff_getElem.1 h
  rcases Nat.lt_trichotomy i j with k | k | k
  · exact absurd e (hp i j hi hj k)
  · exact k
  · exact absurd e.symm (hp j i hj hi k)

/-- Which of the list is which error. -/
def slotOf (k : Nat) : Nat := (k + 11) % 12
theorem slotOf_inj (j k : Nat) (hj : j ≤ 11) (hk : k ≤ 11) (h : slotOf j = slotOf k) : j = k := by unfold slotOf at h; omega

theorem roots_of_twelve {W : World} (h : laidMet Tryd.prog twelve W) : ∃ A, Roots W A := by
  obtain ⟨ps, hv, hn, hrows⟩ := h
  obtain ⟨ads, h1, h2, h3, h4⟩ := sents twelve ps hv twelve_form twelve_types hrows
  have hlen : ads.length = 12 := h1
  have hnd := h4 hn
  refine ⟨fun k => ads.getD (slotOf k) ⟨0, 0, none⟩, ?_, ?_, ?_⟩
  · intro k hk
    have hs : slotOf k < 12 := Nat.mod_lt _ (by decide)
    obtain ⟨n, d, a, e1, e2, e3⟩ := h2 (slotOf k) hs
    have ea : ads.getD (slotOf k) ⟨0, 0, none⟩ = a := by rw [List.getD_eq_getElem?_getD, e2]; rfl
    show W.cell? ⟨rootVar k, 0, none⟩ = some (.iface 132 (.pointer (some (ads.getD (slotOf k) ⟨0, 0, none⟩))))
    rw [ea]
    clear ea e2
    match k, hk with
    | 0, _ => obtain ⟨rfl, rfl⟩ := Prod.mk.inj (Option.some.inj e1); simpa [rootVar] using World.var?_cell gUnknown e3 0
    | 1, _ => obtain ⟨rfl, rfl⟩ := Prod.mk.inj (Option.some.inj e1); simpa [rootVar] using World.var?_cell gBadRule e3 0
    | 2, _ => obtain ⟨rfl, rfl⟩ := Prod.mk.inj (Option.some.inj e1); simpa [rootVar] using World.var?_cell gBadWord e3 0
    | 3, _ => obtain ⟨rfl, rfl⟩ := Prod.mk.inj (Option.some.inj e1); simpa [rootVar] using World.var?_cell gBadArg e3 0
    | 4, _ => obtain ⟨rfl, rfl⟩ := Prod.mk.inj (Option.some.inj e1); simpa [rootVar] using World.var?_cell gTooBig e3 0
    | 5, _ => obtain ⟨rfl, rfl⟩ := Prod.mk.inj (Option.some.inj e1); simpa [rootVar] using World.var?_cell gNoBudget e3 0
    | 6, _ => obtain ⟨rfl, rfl⟩ := Prod.mk.inj (Option.some.inj e1); simpa [rootVar] using World.var?_cell gBadText e3 0
    | 7, _ => obtain ⟨rfl, rfl⟩ := Prod.mk.inj (Option.some.inj e1); simpa [rootVar] using World.var?_cell gBadPatch e3 0
    | 8, _ => obtain ⟨rfl, rfl⟩ := Prod.mk.inj (Option.some.inj e1); simpa [rootVar] using World.var?_cell gBadCert e3 0
    | 9, _ => obtain ⟨rfl, rfl⟩ := Prod.mk.inj (Option.some.inj e1); simpa [rootVar] using World.var?_cell gNoInverse e3 0
    | 10, _ => obtain ⟨rfl, rfl⟩ := Prod.mk.inj (Option.some.inj e1); simpa [rootVar] using World.var?_cell gBadLine e3 0
    | 11, _ => obtain ⟨rfl, rfl⟩ := Prod.mk.inj (Option.some.inj e1); simpa [rootVar] using World.var?_cell gBadState e3 0
  · intro k hk
    have hs : slotOf k < ads.length := by rw [hlen]; exact Nat.mod_lt _ (by decide)
    have ea : ads.getD (slotOf k) ⟨0, 0, none⟩ = ads[slotOf k] := by rw [List.getD_eq_getElem?_getD, List.getElem?_eq_getElem hs]; rfl
    show Target W (ads.getD (slotOf k) ⟨0, 0, none⟩)
    rw [ea]
    exact (h3 _ (List.getElem_mem hs)).1
  · intro j k hj hk h
    have hsj : slotOf j < ads.length := by rw [hlen]; exact Nat.mod_lt _ (by decide)
    have hsk : slotOf k < ads.length := by rw [hlen]; exact Nat.mod_lt _ (by decide)
    have ej : ads.getD (slotOf j) ⟨0, 0, none⟩ = ads[slotOf j] := by rw [List.getD_eq_getElem?_getD, List.getElem?_eq_getElem hsj]; rfl
    have ek : ads.getD (slotOf k) ⟨0, 0, none⟩ = ads[slotOf k] := by rw [List.getD_eq_getElem?_getD, List.getElem?_eq_getElem hsk]; rfl
    have h' : ads[slotOf j] = ads[slotOf k] := ej.symm.trans (h.trans ek)
    exact slotOf_inj j k hj hk (nodup_inj hnd hsj hsk h')

/-! ### errors.errorType -/
theorem et : Tryd.prog.globalNamed "errors.errorType" = some 12 := by kernel_rfl
theorem rt : (Tryd.prog.cutTypes.find? (·.1 == "internal/reflectlite.rtype")).map (·.2) = some 113 := by kernel_rfl
theorem oneRow : ((List.range 166).filter fun t => Tryd.prog.rowNamed t [101, 114, 114, 111, 114]) = [28] := by kernel_rfl
theorem typesSize : Tryd.prog.types.size = 166 := by kernel_rfl
theorem typeVar_of_handle {W : World} (h : handlesMet Tryd.prog [("errors.errorType", Rows.laid_errors_errorType)] W) : TypeVar W := by
  obtain ⟨name, u, ty, e1, e2, e3, e4, e5⟩ := h _ (List.mem_singleton.2 rfl)
  have en : name = [101, 114, 114, 111, 114] := (Option.some.inj e1).symm
  subst en
  obtain rfl := Option.some.inj (rt.symm.trans e2)
  have hm : ty ∈ (List.range 166).filter fun t => Tryd.prog.rowNamed t [101, 114, 114, 111, 114] := List.mem_filter.2 ⟨List.mem_range.2 (by rw [← typesSize]; exact e3), e4⟩
  rw [oneRow] at hm
  obtain rfl := List.mem_singleton.1 hm
  have hh : typeHandle Tryd.prog 28 = .pointer (some ⟨13, 28, none⟩) := by kernel_rfl
  rw [hh] at e5
  unfold TypeVar
  simpa using World.var?_cell et e5 0

/-- The list of thirteen: the handle, then the twelve. -/
def thirteen : List (String × DataW Unit) := ("errors.errorType", Rows.laid_errors_errorType) :: twelve
theorem roots_of_laid {W : World} (h : laidMetH Tryd.prog thirteen W) : ∃ A, Roots W A ∧ TypeVar W := by
  have h' : laidMet Tryd.prog twelve W ∧ handlesMet Tryd.prog [("errors.errorType", Rows.laid_errors_errorType)] W := h
  obtain ⟨A, hA⟩ := roots_of_twelve h'.1
  exact ⟨A, hA, typeVar_of_handle h'.2⟩

/-! ### a world that meets the list -/
noncomputable def low : Nat := (World.holding Tryd.prog default ⟨#[], #[], []⟩).heap.size
/-- A variable's one cell, laid. -/
def layCell (v : Value) (o : Obj) : Obj := match o with
  | .cells _ t frozen => .cells #[v] t frozen
  | o => o
def ptr94 (b : Nat) : Value := .iface 132 (.pointer (some ⟨b, 0, none⟩))
noncomputable def laidWorld (os : Os) : World :=
  let w0 := World.holding Tryd.prog os ⟨#[.cells #[.string { data := #[98, 97, 100, 32, 114, 117, 108, 101] }] 154, .cells #[.string { data := #[98, 97, 100, 32, 119, 111, 114, 100] }] 154, .cells #[.string { data := #[98, 97, 100, 32, 97, 114, 103, 117, 109, 101, 110, 116] }] 154, .cells #[.string { data := #[116, 111, 111, 32, 98, 105, 103] }] 154, .cells #[.string { data := #[110, 111, 32, 98, 117, 100, 103, 101, 116] }] 154, .cells #[.string { data := #[98, 97, 100, 32, 116, 101, 120, 116] }] 154, .cells #[.string { data := #[98, 97, 100, 32, 112, 97, 116, 99, 104] }] 154, .cells #[.string { data := #[98, 97, 100, 32, 99, 101, 114, 116, 105, 102, 105, 99, 97, 116, 101] }] 154, .cells #[.string { data := #[110, 111, 32, 105, 110, 118, 101, 114, 115, 101] }] 154, .cells #[.string { data := #[98, 97, 100, 32, 108, 105, 110, 101] }] 154, .cells #[.string { data := #[98, 97, 100, 32, 115, 116, 97, 116, 101] }] 154, .cells #[.string { data := #[117, 110, 107, 110, 111, 119, 110] }] 154], #[], []⟩
  { w0 with heap := ((((((((((((w0.heap.modify 0 (layCell (ptr94 (low + 0)))).modify 1 (layCell (ptr94 (low + 1)))).modify 2 (layCell (ptr94 (low + 2)))).modify 3 (layCell (ptr94 (low + 3)))).modify 4 (layCell (ptr94 (low + 4)))).modify 5 (layCell (ptr94 (low + 5)))).modify 6 (layCell (ptr94 (low + 6)))).modify 7 (layCell (ptr94 (low + 7)))).modify 8 (layCell (ptr94 (low + 8)))).modify 9 (layCell (ptr94 (low + 9)))).modify 10 (layCell (ptr94 (low + 10)))).modify 11 (layCell (ptr94 (low + 11)))).modify 12 (layCell (.iface 113 (.agg #[.pointer (some ⟨13, 28, none⟩)]))) }
end Go.Proofs.YtfgoflaeclfggaaDoor
end
section
namespace Go.Proofs.YtfgoflaeclfggaaDoor
open Go.ChangeShapes Go.WideShapes Go.ChangeAt Go.RowKit

theorem laidOut : laidOutB Tryd.prog = true := by kernel_rfl

/-- A type that a reading can be carried on at. -/
def Carries (t : TypeId) : Prop := Tryd.prog.readableRec t = true ∧ t < Tryd.prog.types.size
theorem trodAll_below {H : Type} {enc : TypeId × Value → H} {W W' : World} (hb : Below W.heap.size W W') (ts : List TypeId) : ∀ {vs : List Value} {ds : List (DataW H)} {ps : List MemPlace},
    (∀ t ∈ ts, Carries t) → (∀ x ∈ ps, x.block < W.heap.size) →
    DataW.TrodAll enc Tryd.prog W 0 (fun _ => true) true ts vs ds ps → DataW.TrodAll enc Tryd.prog W' 0 (fun b => decide (b < W.heap.size)) true ts vs ds ps := by
  induction ts with
  | nil =>
    intro vs ds ps _ _ h
    obtain ⟨rfl, rfl, rfl⟩ := trodAll_nil h
    exact trodAll_mk0
  | cons t ts ih =>
    intro vs ds ps hr hlt h
    obtain ⟨v, vs', d, ds', p, q, rfl, rfl, rfl, h0, h1⟩ := trodAll_cons h
    have ht := hr t (List.mem_cons_self ..)
    exact trodAll_cons_mk (Below.trod laidOut ht.1 ht.2 h0 hb fun x hx => hlt x (List.mem_append_left _ hx))
      (ih (fun u hu => hr u (List.mem_cons_of_mem _ hu)) (fun x hx => hlt x (List.mem_append_right _ hx)) h1)

/-- The post of a law's row. -/
theorem law_post {H : Type} {enc : TypeId × Value → H} {W W' : World} {args : Array Value} {ds gs : List (DataW H)} {before : List MemPlace} (spec : ChangeSpec) (fn : Func)
    (hres : fn.resultTypes = #[4]) (hv : spec.vars = []) (hf : spec.fn H (ds ++ gs) = { results := [.lit (.bool true)], args := ds })
    (hr : ∀ t ∈ fn.params.toList, Carries t)
    (hW : DataW.Whole enc Tryd.prog fn.params.toList spec.vars false W args.toList ds gs before) (hb : Below W.heap.size W W') :
    spec.post enc Tryd.prog fn false true false false W args (.bool true) W' := by
  have hW' := hW
  have hlt : ∀ x ∈ before, x.block < W.heap.size := fun x hx => by simpa using hW'.lt x hx
  obtain ⟨p, q, hA0, hV, rfl, hfz, hnd⟩ := hW
  have hA : DataW.TrodAll enc Tryd.prog W 0 (fun _ => true) true fn.params.toList args.toList ds p := hA0
  refine ⟨_, _, _, [], p, [], hW', ?_, ?_, ?_, hb.frame _, fun h => by cases h⟩
  · rw [hf, hres]
    exact trodAll_mk1 (shut_bool Tryd.underlying4 true)
  · rw [hf]
    exact trodAll_below hb _ hr (fun x hx => hlt x (List.mem_append_left _ hx)) hA
  · rw [hf, hv]
    rfl

/-- An argument that is a slice of strings, opened: its value, and its strings. -/
theorem open_strs {H : Type} {enc : TypeId × Value → H} {W : World} {v : Value} {d : DataW H} {p : List MemPlace} (hok : ∃ a len cap, v = .slice a len cap)
    (h : DataW.Trod enc Tryd.prog W 0 (fun _ => true) true 31 v d p) (hlt : ∀ x ∈ p, x.block < W.heap.size) :
    ∃ (a : Option Addr) (n cap : Nat) (ss : List ByteArray), v = .slice a n cap ∧ n ≤ ss.length ∧ n ≤ cap ∧ cap ≤ maxLen ∧ (∀ s ∈ ss, s.size ≤ maxLen) ∧ ss.length = cap ∧ (d = .nil ∨ d = .slice (strs (ss.take n)) (strs (ss.drop n))) ∧
      ∀ j, j < n → ∃ b off, a = some ⟨b, off, none⟩ ∧ b < W.heap.size ∧ W.cell? ⟨b, off + j, none⟩ = some (.string (ss.getD j .empty)) := by
  obtain ⟨a0, len, cap, rfl⟩ := hok
  obtain ⟨fuel, hf⟩ := h
  rcases open_strings Tryd.underlying31 Tryd.underlying9 cells9 hf with ⟨hcs, hx⟩ | ⟨a, len', cap', ss, hcs, _, hl, hm, hz, hx, hcell, hws⟩
  · simp [Value.cells] at hcs
    obtain ⟨rfl, rfl, rfl⟩ := hcs
    exact ⟨none, 0, 0, [], rfl, Nat.zero_le _, Nat.zero_le _, Nat.zero_le _, (by simp), rfl, Or.inl (Prod.mk.inj hx).1, fun j hj => absurd hj (Nat.not_lt_zero j)⟩
  · simp [Value.cells] at hcs
    obtain ⟨rfl, rfl, rfl⟩ := hcs
    simp only [if_true] at hz
    obtain ⟨rfl, rfl⟩ := Prod.mk.inj hx
    refine ⟨some a, len, cap, ss, rfl, by omega, hl, hm, hws, hz, Or.inr rfl, fun j hj => ?_⟩
    obtain ⟨b, off, spot⟩ := a
    have hspot : spot = none := by simpa [Addr.add] using World.cell?_spot (hcell 0 (by omega))
    subst hspot
    exact ⟨b, off, rfl, hlt (.cell b off) (MemPlace.mem_row.2 ⟨0, by omega, by simp⟩), by rw [← add_plain]; exact hcell j (by omega)⟩
end Go.Proofs.YtfgoflaeclfggaaDoor
end
section
namespace Go.Proofs.YtfgoflaeclfggaaDoor
open Go.RowKit WordM

open Classical in
/-- the period of a word; 0 for the empty one -/
noncomputable def perW (l : List Int) : Nat := if h : l.length ≠ 0 ∧ ∃ p, IsPer l p then h.2.choose else 0
theorem perW_eq {l : List Int} {p : Nat} (h0 : l.length ≠ 0) (h : IsPer l p) : perW l = p := by
  unfold perW
  have hx : l.length ≠ 0 ∧ ∃ p, IsPer l p := ⟨h0, p, h⟩
  rw [dif_pos hx]
  exact isPer_unique hx.2.choose_spec h
theorem perW_nil : perW [] = 0 := by unfold perW; rw [dif_neg (by simp)]
open Classical in
/-- the least turn of a word; 0 for the empty one -/
noncomputable def leastW (l : List Int) : Nat := if h : ∃ p, IsLeast l p then h.choose else 0
theorem leastW_eq {l : List Int} {p : Nat} (h : IsLeast l p) : leastW l = p := by
  unfold leastW
  have hx : ∃ p, IsLeast l p := ⟨p, h⟩
  rw [dif_pos hx]
  exact isLeast_unique hx.choose_spec h
theorem leastW_nil : leastW [] = 0 := by
  unfold leastW
  rw [dif_neg]
  rintro ⟨p, h⟩
  have := h.1
  simp at this
theorem leastW_is {l : List Int} (h : 0 < l.length) : IsLeast l (leastW l) := by
  obtain ⟨p, hp⟩ := least_exists h
  rw [leastW_eq hp]; exact hp

theorem piece_same {l : List Int} {q n : Nat} (hn : n = l.length) (hd : q ∣ n) (h : sameI (l.drop q) (l.take (n - q)) = true) : Per l q := by
  have e : l.drop q = l.take (n - q) := by simpa [sameI] using h
  refine per_piece (by rw [← hn]; exact hd) (fun i hi => ?_)
  have h1 := congrArg (fun x : List Int => x[i]?) e
  simp only [List.getElem?_drop, List.getElem?_take] at h1
  rw [if_pos (by omega)] at h1
  rw [Nat.add_comm]
  exact h1
theorem piece_other {l : List Int} {q n : Nat} (hn : n = l.length) (hq : q ≤ n) (h : sameI (l.drop q) (l.take (n - q)) = false) : ¬ Per l q := by
  intro k
  have e : ¬ l.drop q = l.take (n - q) := by simpa [sameI] using h
  apply e
  apply List.ext_getElem?
  intro i
  rw [List.getElem?_drop, List.getElem?_take]
  by_cases hi : i < n - q
  · rw [if_pos hi, Nat.add_comm]
    exact piece_per k i (by omega)
  · rw [if_neg hi, List.getElem?_eq_none (by omega)]
end Go.Proofs.YtfgoflaeclfggaaDoor
end
section
namespace Go.Proofs.YtfgoflaeclfggaaDoor
open Go.ChangeShapes Go.WideShapes Go.ChangeAt Go.RowKit Go.Extern.Stop Go.Stop Go.Extern WordM NatM

/-- Lists that are known in the world wx; below w nothing has changed. -/
structure Si (w wx : World) (L : List Sl) : Prop where
  each : ∀ x : Sl, x ∈ L → IntV wx.heap.size wx x.1 x.2.1 x.2.2
  below : Below w.heap.size w wx
theorem Si.start (w : World) : Si w w [] := ⟨(fun x h => by cases h), Below.refl _ _⟩
theorem Si.get {w wx : World} {L : List Sl} (S : Si w wx L) (i : Nat) {p : Option Addr} {c : Nat} {l : List Int} (h : L[i]? = some (p, c, l)) : IntV wx.heap.size wx p c l := S.each _ (List.mem_of_getElem? h)
theorem Si.next {w wx w' : World} {L : List Sl} (S : Si w wx L) (hb : Below wx.heap.size wx w') : Si w w' L :=
  ⟨fun x hx => (S.each x hx).next hb, S.below.trans (hb.mono S.below.size)⟩
theorem Si.push {w wx : World} {L : List Sl} (S : Si w wx L) {p : Option Addr} {c : Nat} {l : List Int} (h : IntV wx.heap.size wx p c l) : Si w wx ((p, c, l) :: L) :=
  ⟨fun x hx => by
    rcases List.mem_cons.1 hx with rfl | hx
    · exact h
    · exact S.each x hx, S.below⟩
theorem Si.alloc {w wx : World} {L : List Sl} (S : Si w wx L) (o : Obj) : Si w (wx.alloc o) L := S.next ((Below.refl _ _).alloc (Nat.le_refl _) _)
/-- a literal of ints, just laid -/
theorem Si.lit {w wx : World} {L : List Sl} (S : Si w wx L) (l : List Int) (cs : Array Value) (t : TypeId) (hc : cs.toList = cI l) (hl : l.length ≤ 1000) :
    Si w (wx.alloc (.cells cs t)) ((some ⟨wx.heap.size, 0, none⟩, l.length, l) :: L) := (S.alloc _).push (IntV.laid l cs t hc hl)
theorem Si.drew {w wx : World} {L : List Sl} (S : Si w wx L) : Si w wx.drew L := S.next (Below.refl _ _).drew

theorem next_011 : IsNext 2 [0, 1, 1] [1, 0, 0] := Or.inl ⟨0, 0, rfl, by decide, by decide, by decide⟩
theorem ok_011 : okW 2 [0, 1, 1] := fun x hx => by simp at hx; omega
theorem chk_011 : chkW 2 [0, 1, 1] = none := by decide
def txt031 : ByteArray := { data := #[48, 51, 49] }
theorem chk_031 : chkW 4 (sW txt031) = none := by decide +kernel
theorem sW_031 : sW txt031 = [0, 3, 1] := by decide +kernel
theorem cmp_0100 : cmpW [0, 1] [0, 0] = 1 := by decide
theorem per_0101 : perW [0, 1, 0, 1] = 2 := by
  refine perW_eq (by decide) ⟨by decide, ⟨2, rfl⟩, fun i => ?_, fun q h1 h2 => ?_⟩
  · have h : i % 4 = 0 ∨ i % 4 = 1 ∨ i % 4 = 2 ∨ i % 4 = 3 := by omega
    unfold F
    show ([0, 1, 0, 1] : List Int).getD ((i + 2) % 4) 0 = ([0, 1, 0, 1] : List Int).getD (i % 4) 0
    rcases h with h | h | h | h
    · rw [h, show (i + 2) % 4 = 2 by omega]; rfl
    · rw [h, show (i + 2) % 4 = 3 by omega]; rfl
    · rw [h, show (i + 2) % 4 = 0 by omega]; rfl
    · rw [h, show (i + 2) % 4 = 1 by omega]; rfl
  · obtain rfl : q = 1 := by omega
    rintro ⟨_, h⟩
    have := h 0
    revert this
    decide

/-- every one is an int's value -/
def okI (l : List Int) : Prop := ∀ x ∈ l, -9223372036854775808 ≤ x ∧ x ≤ 9223372036854775807
theorem cellsInt_1 : Tryd.prog.cellsOf 3 = 1 := by kernel_rfl
theorem wf_i64 {n : Int} (h : (Lit.int .i64 n).wf = true) : -9223372036854775808 ≤ n ∧ n ≤ 9223372036854775807 := by
  have := bounds_i64 h
  omega
/-- an argument that is a list of ints, opened -/
theorem open_intl {H : Type} {enc : TypeId × Value → H} {W : World} {v : Value} {d : DataW H} {p : List MemPlace} (hok : ∃ a len cap, v = .slice a len cap)
    (h : DataW.Trod enc Tryd.prog W 0 (fun _ => true) true 22 v d p) (hlt : ∀ x ∈ p, x.block < W.heap.size) :
    ∃ (a : Option Addr) (cap : Nat) (l : List Int), v = .slice a l.length cap ∧ IntV W.heap.size W a cap l ∧ okI l := by
  obtain ⟨a0, len, cap, rfl⟩ := hok
  obtain ⟨fuel, hf⟩ := h
  rcases open_ints Tryd.underlying22 Tryd.underlying3 cellsInt_1 hf with ⟨hcs, _⟩ | ⟨a, len', cap', zs, hcs, _, hl, hm, hz, hx, hcell, hwf⟩
  · simp [Value.cells] at hcs
    obtain ⟨rfl, rfl, rfl⟩ := hcs
    exact ⟨none, 0, [], rfl, ⟨Nat.le_refl _, Nat.zero_le _, fun _ => rfl, fun h => absurd rfl h⟩, fun x h => by cases h⟩
  · simp [Value.cells] at hcs
    obtain ⟨rfl, rfl, rfl⟩ := hcs
    simp only [if_true] at hz
    obtain ⟨rfl, rfl⟩ := Prod.mk.inj hx
    have hlen : (zs.take len).length = len := by rw [List.length_take]; omega
    refine ⟨some a, cap, zs.take len, by rw [hlen], ⟨by rw [hlen]; exact hl, hm, (fun h => by cases h), fun hn => ?_⟩, fun x hx => wf_i64 (hwf x (List.mem_of_mem_take hx))⟩
    obtain ⟨b, off, spot⟩ := a
    have h0 : 0 < zs.length := by
      have := List.length_pos_iff.2 hn
      rw [hlen] at this
      omega
    have hspot : spot = none := by simpa [Addr.add] using World.cell?_spot (hcell 0 h0)
    subst hspot
    refine ⟨b, off, rfl, hlt (.cell b off) (MemPlace.mem_row.2 ⟨0, h0, by simp⟩), fun j x hx => ?_⟩
    have hj := ltI hx
    rw [hlen] at hj
    have hjz : j < zs.length := by omega
    have hc := hcell j hjz
    have e : zs.getD j 0 = x := by
      rw [List.getElem?_take, if_pos hj] at hx
      rw [List.getD_eq_getElem?_getD, hx]; rfl
    rw [e, add_plain] at hc
    exact hc

theorem weights_get {H : Type} {P : Program} : ∀ (ts : List TypeId) (ds : List (DataW H)) (i : Nat) (t : TypeId) (d : DataW H), ts[i]? = some t → ds[i]? = some d → ∀ x ∈ d.weights P t, x ∈ DataW.weightsEach P ts ds
  | [], _, _, _, _, h, _, _, _ => by simp at h
  | _ :: _, [], _, _, _, _, h, _, _ => by simp at h
  | t0 :: ts, d0 :: ds, 0, t, d, ht, hd, x, hx => by
    simp at ht hd; subst ht hd
    unfold DataW.weightsEach
    exact List.mem_append_left _ hx
  | t0 :: ts, d0 :: ds, i + 1, t, d, ht, hd, x, hx => by
    unfold DataW.weightsEach
    exact List.mem_append_right _ (weights_get ts ds i t d (by simpa using ht) (by simpa using hd) x hx)
theorem bytesInt : Tryd.prog.bytesOf 3 = 8 := by kernel_rfl
/-- a list of ints that came in is shorter than 2^44 -/
theorem open_reach {H : Type} {enc : TypeId × Value → H} {W : World} {a : Option Addr} {len cap : Nat} {d : DataW H} {p : List MemPlace}
    (h : DataW.Trod enc Tryd.prog W 0 (fun _ => true) true 22 (.slice a len cap) d p) (hw : ∀ x ∈ d.weights Tryd.prog 22, x ≤ reachBytes) : len ≤ 17592186043904 := by
  obtain ⟨fuel, hf⟩ := h
  rcases open_ints Tryd.underlying22 Tryd.underlying3 cellsInt_1 hf with ⟨hcs, _⟩ | ⟨a, len', cap', zs, hcs, _, hl, hm, hz, hx, hcell, hwf⟩
  · simp [Value.cells] at hcs
    omega
  · simp [Value.cells] at hcs
    obtain ⟨rfl, rfl, rfl⟩ := hcs
    simp only [if_true] at hz
    obtain ⟨rfl, rfl⟩ := Prod.mk.inj hx
    have h1 := hw ((zs.take len).length * 8 + (zs.drop len).length * 8) (by
      unfold DataW.weights
      rw [Tryd.underlying22]
      simp only [lits, List.length_map, bytesInt]
      rw [← Nat.add_mul]
      exact List.mem_cons_self ..)
    unfold reachBytes at h1
    rw [List.length_take] at h1
    omega
end Go.Proofs.YtfgoflaeclfggaaDoor
end
section
namespace Go.Proofs.YtfgoflaeclfggaaDoor
open Go.RowKit Go.Extern.Stop Go.Stop Go.Extern WordM RuleM NatM

theorem two_boxes (w : World) (a b c a' b' c' : Value) (w0 : World) (hw0 : w0 = (w.alloc (.cells #[a, b, c] 53)).alloc (.cells #[a', b', c'] 53)) :
    Below w.heap.size w w0 ∧ Rul3 w0 w.heap.size a b c ∧ Rul3 w0 (w.heap.size + 1) a' b' c' := by
  have h1 : Below w.heap.size w (w.alloc (.cells #[a, b, c] 53)) := (Below.refl _ _).alloc (Nat.le_refl _) _
  have h2 : Below (w.alloc (.cells #[a, b, c] 53)).heap.size (w.alloc (.cells #[a, b, c] 53)) w0 := by rw [hw0]; exact (Below.refl _ _).alloc (Nat.le_refl _) _
  have hs : (w.alloc (.cells #[a, b, c] 53)).heap.size = w.heap.size + 1 := by simp
  refine ⟨h1.trans (h2.mono h1.size), (Rul3.new w a b c).next h2, ?_⟩
  have := Rul3.new (w.alloc (.cells #[a, b, c] 53)) a' b' c'
  rw [← hw0, hs] at this
  exact this


theorem put3_block (w : World) (h : Nat) (a b c : Value) (g : Nat) (hg : g ≠ h) : (put3 w h a b c).heap[g]? = w.heap[g]? := by
  have set : ∀ (w : World) (i : Nat) (v : Value), (w.setCell ⟨h, i, none⟩ v).heap[g]? = w.heap[g]? := fun w i v => by
    show (w.heap.modify h _)[g]? = _
    rw [Array.getElem?_modify, if_neg (Ne.symm hg)]
  unfold put3
  rw [set, set, set]
/-- a rule whose table is lent -/
def LentR (w : World) (k r : Int) (t : List Int) (e : Ending) (w' : World) : Prop :=
  ∃ g, e = .returned (.agg #[.int .i64 k, .int .i64 r, .slice (some ⟨g, 0, none⟩) t.length (t.length + 2)]) ∧ w.heap.size ≤ g ∧ LentI w' g t ∧ Below w.heap.size w w'
set_option maxRecDepth 100000 in
set_option maxHeartbeats 4000000 in
theorem lentR_any (k r : Int) (p : Option Addr) (n c : Nat) (t : List Int) (w : World) (hn : n = t.length) (h : IntV w.heap.size w p c t) (hl : t.length ≤ 17592186043904) :
    Calls Tryd.prog 23 #[.agg #[.int .i64 k, .int .i64 r, .slice p n c]] w (LentR w k r t) := by
  have hlent : ∀ W, IntV W.heap.size W p c t → Calls Tryd.prog 31 #[.slice p n c] W (LentPostI W t) := fun W hW => by rw [hn]; exact lentI_any p c t W hW hl
  unfold LentPostI at hlent
  unfold LentR
  rw [← hn]
  simp only [← hn] at hlent
  have H := Lib.hid (And.intro h (And.intro hlent hn))
  clear h hlent hl hn
  go_enter Tryd.func23, Tryd.ntmps23
  go_upto_region 1 with fail
  obtain ⟨w0, hw0⟩ : ∃ w0, w0 = (w.alloc (.cells #[.int .i64 k, .int .i64 r, .slice p n c] 53)).alloc (.cells #[.int .i64 0, .int .i64 0, .slice none 0 0] 53) := ⟨_, rfl⟩
  obtain ⟨hb0, hE0, hE1⟩ := two_boxes w _ _ _ _ _ _ w0 hw0
  rw [← hw0]
  have hsz : (w.alloc (.cells #[.int .i64 k, .int .i64 r, .slice p n c] 53)).heap.size = w.heap.size + 1 := by simp
  have hs0 := hb0.size
  have hs1 := hE1.lt
  have hlen : ∀ wx, Below w0.heap.size w0 wx → Calls Tryd.prog 31 #[.slice p n c] wx fun e w' => e = .returned (.slice (some ⟨wx.heap.size, 0, none⟩) n (n + 2)) ∧ LentI w' wx.heap.size t ∧ Below wx.heap.size wx w' := fun wx hb => H.out.2.1 wx ((H.out.1.next hb0).next hb)
  have hxA : ∀ wx : World, Below w0.heap.size w0 wx → wx.cell? ⟨w.heap.size, 0, none⟩ = some (.int .i64 k) := fun wx hbx => (hE0.next hbx).facts.2.1
  have hxB : ∀ wx : World, Below w0.heap.size w0 wx → wx.cell? ⟨w.heap.size, 1, none⟩ = some (.int .i64 r) := fun wx hbx => (hE0.next hbx).facts.2.2.1
  have hxC : ∀ wx : World, Below w0.heap.size w0 wx → wx.cell? ⟨w.heap.size, 2, none⟩ = some (.slice p n c) := fun wx hbx => (hE0.next hbx).facts.2.2.2
  have hd0 : Below w0.heap.size w0 w0.drew := (Below.refl _ _).drew
  have HE := Lib.hid (And.intro hE1 hb0)
  clear hw0 hE0 hE1 hb0
  go_region_held3 (fun w' => w'.cell? ⟨w.heap.size, 0, none⟩ = some (.int .i64 k) ∧ w'.cell? ⟨w.heap.size, 1, none⟩ = some (.int .i64 r) ∧ w'.cell? ⟨w.heap.size, 2, none⟩ = some (.slice p n c)) (first | exact ⟨hxA _ hd0, hxB _ hd0, hxC _ hd0⟩ | exact ⟨hxA _ (Below.refl _ _), hxB _ (Below.refl _ _), hxC _ (Below.refl _ _)⟩ | exact ⟨hA1, hB1, hC1⟩ | go_keep) (first | (go_at_call 31; refine (hlen _ (by first | exact hd0 | exact Below.refl _ _)).mono ?_; rintro e wl ⟨rfl, hLl, hbl⟩; have hBl : Below w0.heap.size w0 wl := (by first | exact hd0.trans (hbl.mono hd0.size) | exact hbl); have hA1 := hxA wl hBl; have hB1 := hxB wl hBl; have hC1 := hxC wl hBl; obtain ⟨⟨hf0, hf1, hf2⟩, hz0, hz1, hz2⟩ := (HE.out.1.next hBl).facts))
  all_goals
    have HF := Lib.hid (And.intro hLl (HE.out.2.trans (hBl.mono (by omega))))
    clear hxA hxB hxC hlen hbl hBl hLl hA1 hB1 hC1
    go_wp2_with fail
    refine bodyPost_ret (v := .agg #[.int .i64 k, .int .i64 r, .slice (some ⟨w0.heap.size, 0, none⟩) n (n + 2)]) (by simp [results, Tryd.results23, go_sem, hz0, hz1, hz2]) rfl ⟨w0.heap.size, rfl, hs0, ?_, ?_⟩
    · exact LentI.block (put3_block wl (w.heap.size + 1) _ _ _ _ (by omega)) HF.out.1
    · exact put3_below HF.out.2 (by omega) _ _ _

set_option maxRecDepth 100000 in
set_option maxHeartbeats 2000000 in
theorem keptR_any (g : Nat) (k r : Int) (p : Option Addr) (n m c : Nat) (t : List Int) (w : World) (hg : LentI w g t) (h : IntV w.heap.size w p c t) (hl : t.length ≤ 17592186043904) (hn : n = t.length) (hm : m = t.length + 2) :
    Calls Tryd.prog 27 #[.agg #[.int .i64 k, .int .i64 r, .slice (some ⟨g, 0, none⟩) n m], .agg #[.int .i64 k, .int .i64 r, .slice p n c]] w (Tells (.bool true) w) := by
  have H := Lib.hid (And.intro h (And.intro hg (And.intro hn (And.intro hm hl))))
  clear h hg hn hm hl
  go_enter Tryd.func27, Tryd.ntmps27
  go_upto_region 1 with fail
  obtain ⟨w0, hw0⟩ : ∃ w0, w0 = (w.alloc (.cells #[.int .i64 k, .int .i64 r, .slice (some ⟨g, 0, none⟩) n m] 53)).alloc (.cells #[.int .i64 k, .int .i64 r, .slice p n c] 53) := ⟨_, rfl⟩
  obtain ⟨hb0, hE0, hE1⟩ := two_boxes w _ _ _ _ _ _ w0 hw0
  rw [← hw0]
  obtain ⟨_, hc0, hc1, hc2⟩ := hE0.facts
  obtain ⟨_, hd0, hd1, hd2⟩ := hE1.facts
  have HE := Lib.hid hb0
  have hsz : (w.alloc (.cells #[.int .i64 k, .int .i64 r, .slice (some ⟨g, 0, none⟩) n m] 53)).heap.size = w.heap.size + 1 := by simp
  clear hw0 hE0 hE1 hb0
  go_wp2_with fail
  have hk := keptI_any g p n m c t w0 (H.out.2.1.below HE.out) (H.out.1.next HE.out) H.out.2.2.2.2 H.out.2.2.1 H.out.2.2.2.1
  rw [← H.out.2.2.1] at hk
  refine hk.mono ?_
  rintro e w1 ⟨rfl, hb1⟩
  have HF := Lib.hid (HE.out.trans (hb1.mono HE.out.size))
  clear hb1 hk
  go_wp2_with fail
  go_ret
  exact ⟨rfl, HF.out⟩

def T110 : List Int := [0, 1, 1, 1, 0, 1, 1, 0]
def txt110 : ByteArray := { data := #[50, 46, 49, 46, 49, 49, 48] }
def ParsePost110 (w : World) (e : Ending) (w' : World) : Prop :=
  ∃ p c, e = .returned (.tuple #[.agg #[.int .i64 2, .int .i64 1, .slice p 8 c], .nilIface]) ∧ IntO w.heap.size w' p c T110 ∧ Below w.heap.size w w'
theorem ok110 : OkR 2 1 T110 := ⟨by decide, by decide, by decide, by decide, fun x hx => by unfold T110 at hx; simp at hx; omega⟩
def W5 : List Int := [0, 0, 1, 1, 1]
theorem ok5 : okW 2 W5 := fun x hx => by unfold W5 at hx; simp at hx; omega
theorem img110 : imgW 2 1 T110 W5 = [1, 1, 0] := by decide +kernel
theorem step_110 (p q : Option Addr) (c d : Nat) (w : World) (h : IntV w.heap.size w p c T110) (hl : IntV w.heap.size w q d W5) :
    Calls Tryd.prog 28 #[.agg #[.int .i64 2, .int .i64 1, .slice p 8 c], .slice q 5 d] w (IntOk w [1, 1, 0]) := by
  have := step_ok 2 1 p q 8 c 5 d T110 W5 w rfl rfl h hl (chkT_ok ok110 (by decide) ok5)
  have e : imgW (2 : Int).toNat (1 : Int).toNat T110 W5 = [1, 1, 0] := img110
  rwa [e] at this
theorem check_5 (w : World) (A : Nat → Addr) (hr : Roots w A) : Calls Tryd.prog 50 #[.agg #[.int .i64 5, .int .i64 0, .slice none 0 0]] w (Err1 w A ruleOp 0 1) :=
  rcheck_bad 5 0 none 0 0 [] w A hr rfl (IntV.nothing w) 0 (by decide)

end Go.Proofs.YtfgoflaeclfggaaDoor
end
section
namespace Go.Proofs.YtfgoflaeclfggaaDoor
open Go.ChangeShapes Go.WideShapes Go.ChangeAt Go.RowKit WordM RuleM

theorem fld_int {H : Type} {enc : TypeId × Value → H} {W : World} {n : Nat} {c : Value} {y : DataW H × List MemPlace} (h : DataW.trod enc Tryd.prog W 0 (fun _ => true) true n 3 [c] = some y) : ∃ x : Int, c = .int .i64 x ∧ -9223372036854775808 ≤ x ∧ x ≤ 9223372036854775807 := by
  obtain ⟨x, hx, _, hw⟩ := DataW.trod_int Tryd.underlying3 h
  exact ⟨x, by simpa using hx, wf_i64 hw⟩
theorem fld_ints {H : Type} {enc : TypeId × Value → H} {W : World} {n : Nat} {c : Value} {y : DataW H × List MemPlace} (h : DataW.trod enc Tryd.prog W 0 (fun _ => true) true n 22 [c] = some y) (hlt : ∀ x ∈ y.2, x.block < W.heap.size) (hw : ∀ x ∈ y.1.weights Tryd.prog 22, x ≤ reachBytes) :
    ∃ (a : Option Addr) (cap : Nat) (l : List Int), c = .slice a l.length cap ∧ IntV W.heap.size W a cap l ∧ okI l ∧ l.length ≤ 17592186043904 := by
  have hs : ∃ a len cap, c = .slice a len cap := by
    rcases Go.Deep.open_slice Tryd.underlying22 h with ⟨hcs, _⟩ | ⟨a, len, cap, _, _, _, _, hcs, _⟩
    · exact ⟨none, 0, 0, by simpa using hcs⟩
    · exact ⟨some a, len, cap, by simpa using hcs⟩
  have ht : DataW.Trod enc Tryd.prog W 0 (fun _ => true) true 22 c y.1 y.2 := by
    refine ⟨n, ?_⟩
    obtain ⟨a, len, cap, rfl⟩ := hs
    simpa [Value.cells] using h
  obtain ⟨a, cap, l, rfl, h1, h2⟩ := open_intl hs ht hlt
  exact ⟨a, cap, l, rfl, h1, h2, open_reach ht hw⟩
theorem cellsRule3 : Tryd.prog.cellsOf 53 = 3 := by kernel_rfl
set_option maxRecDepth 100000 in
/-- a rule that came in: its table's length is in reach -/
theorem open_rule {H : Type} {enc : TypeId × Value → H} {W : World} {v : Value} {d : DataW H} {p : List MemPlace} {r : Reach} {b0 : Nat} (hv : Value.okWide Tryd.prog W r b0 53 v)
    (h : DataW.Trod enc Tryd.prog W 0 (fun _ => true) true 53 v d p) (hlt : ∀ x ∈ p, x.block < W.heap.size) (hw : ∀ x ∈ d.weights Tryd.prog 53, x ≤ reachBytes) :
    ∃ (k r : Int) (a : Option Addr) (cap : Nat) (l : List Int), v = .agg #[.int .i64 k, .int .i64 r, .slice a l.length cap] ∧ IntV W.heap.size W a cap l ∧ l.length ≤ 17592186043904 := by
  obtain ⟨v0, v1, v2, y0, y1, y2, n, rfl, rfl, rfl, h0, h1, h2⟩ := Go.Joins.open_agg3 Tryd.underlying53 (by kernel_rfl) cellsRule3 hv h
  obtain ⟨k, rfl, _⟩ := fld_int h0
  obtain ⟨q, rfl, _⟩ := fld_int h1
  obtain ⟨a, cap, l, rfl, h3, _, h4⟩ := fld_ints h2 (fun x hx => hlt x (by simp [hx])) (fun x hx => hw x (by
    unfold DataW.weights
    rw [Tryd.underlying53]
    exact weights_get _ _ 2 _ _ rfl rfl x hx))
  exact ⟨k, q, a, cap, l, rfl, h3, h4⟩
end Go.Proofs.YtfgoflaeclfggaaDoor
end
