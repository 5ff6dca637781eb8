/- Package rule by its contracts, second part: Check, smallSize, Small.
Lists of ints: make, slices.Grow of nil, slices.Concat.
Package word by its contracts, second part: Cmp, Back, Turn.
Package word by its contracts, fourth part: Next.
Bytes of texts as numbers, and back.
Package word by its contracts, fifth part: Next where it is refused, Parse.
Package rule by its contracts, third part: Local, Step.
Package rule by its contracts, fourth part: Step.
Package word by its contracts, sixth part: Text.
Contracts of library functions, laid at this program's numbers by the kit's lay-plain.mjs: what each says stands in its type.
Lists of ints: slices.Repeat.
Package word by its contracts, seventh part: Times.
Package word by its contracts, eighth part: Index, At.
Package word by its contracts, ninth part: At.
Package word by its contracts, tenth part: At where it is refused; nat.Pow whatever it is asked.
Package rule by its contracts, fifth part: Step where it is refused, Code, From.
Package rule by its contracts, sixth part: From.
Plain mathematics of rules that are sums: digits of numbers, sums of symbols times factors. -/
import Derived.Test.YtienaogmljlmlaaDoorB1
import Derived.Test.YtienaogmljlmlaaDoorB2
import Derived.Laws.AppendOwnNone
import Derived.Lib.AppendZerosOnto
import Derived.Lib.Walk
import Derived.Laws.Append
import Derived.Lib.SliceRun
import Derived.Deep.RegionWith
import Derived.Deep.DeepCutAuto
import Derived.Laws.BytesArg
import Derived.Shelf.Strconv.Itoa0
import Derived.Shelf.Strconv.Itoa1
import Derived.Shelf.LaysM
import Derived.Shelf.Strconv.Itoa2
import Derived.Shelf.Strconv.Itoa3
import Derived.Shelf.Slices.Turned
import Derived.Shelf.Slices.Reverse
import Derived.Shelf.Slices.Equal
import Derived.Ground.Names2Prog
import Derived.Shelf.Slices.Clone
import Derived.Shelf.Slices.Cells
import Derived.Shelf.Slices.Empties2
import Derived.Test.YtienaogmljlmlaaDoorProg
import Derived.Laws.CopyOwn
import Derived.Deep.RegionLaw
import Derived.Deep.RegionHeld3
import Derived.Deep.DrawnRows
section
namespace Go.Proofs.YtienaogmljlmlaaDoor
open Go.RowKit Go.Extern.Stop Go.Stop Go.Extern WordM RuleM

/-- a rule in a block of its own -/
structure Rul3 (w : World) (h : Nat) (a b c : Value) : Prop where
  heap : w.heap[h]? = some (.cells #[a, b, c] 24 (0, 0))
theorem Rul3.new (w : World) (a b c : Value) : Rul3 (w.alloc (.cells #[a, b, c] 24)) w.heap.size a b c := ⟨heap_newN w _⟩
theorem Rul3.next {w w' : World} {h : Nat} {a b c : Value} (hb : Below w.heap.size w w') (k : Rul3 w h a b c) : Rul3 w' h a b c := ⟨(hb.block h (heap_ltN k.heap)).trans k.heap⟩
theorem Rul3.lt {w : World} {h : Nat} {a b c : Value} (k : Rul3 w h a b c) : h < w.heap.size := heap_ltN k.heap
theorem Rul3.facts {w : World} {h : Nat} {a b c : Value} (k : Rul3 w h a b c) : (w.frozen? ⟨h, 0, none⟩ = false ∧ w.frozen? ⟨h, 1, none⟩ = false ∧ w.frozen? ⟨h, 2, none⟩ = false) ∧ w.cell? ⟨h, 0, none⟩ = some a ∧ w.cell? ⟨h, 1, none⟩ = some b ∧ w.cell? ⟨h, 2, none⟩ = some c :=
  ⟨⟨by simp [World.frozen?, k.heap], by simp [World.frozen?, k.heap], by simp [World.frozen?, k.heap]⟩, cell_of_row w h 0 _ _ _ k.heap, cell_of_row w h 1 _ _ _ k.heap, cell_of_row w h 2 _ _ _ k.heap⟩

theorem strayN_ok {k : Nat} {l : List Int} (h : okW k l) : strayN k l = l.length := by
  unfold strayN
  rw [bad_none.2 h]; rfl
theorem strayN_bad {k : Int} {l : List Int} {i : Nat} (h : l.findIdx? (badAt k) = some i) : strayN k l = i := by
  unfold strayN
  rw [h]; rfl
theorem strayN_lt {k : Int} {l : List Int} {i : Nat} (h : l.findIdx? (badAt k) = some i) : i < l.length := by
  obtain ⟨hil, _⟩ := List.findIdx?_eq_some_iff_getElem.1 h
  exact hil

set_option maxRecDepth 100000 in
set_option maxHeartbeats 1000000 in
theorem rcheck_ok (k r : Nat) (p : Option Addr) (n c : Nat) (t : List Int) (w : World) (hn : n = t.length) (h : IntV w.heap.size w p c t) (ho : OkR k r t) :
    Calls Tryd.prog 52 #[.agg #[.int .i64 (k : Int), .int .i64 (r : Int), .slice p n c]] w (Tells .nilIface w) := by
  have h1 := ho.k1
  have h4 := ho.k4
  have h3 := ho.r3
  obtain ⟨S, hS⟩ : ∃ S, k ^ (2 * r + 1) = S := ⟨_, rfl⟩
  have hsz := size_ok k r
  rw [hS] at hsz
  have hnS : n = S := by rw [hn, ho.len, hS]
  have hst := strayN_ok ho.ok
  rw [← hn] at hst
  have hSle := pow_le (r := r) h4 h3
  rw [hS] at hSle
  subst hnS
  have H := Lib.hid (And.intro h (And.intro hn (And.intro hsz hst)))
  clear h hn ho hS hsz hst
  go_enter Tryd.func52, Tryd.ntmps52
  go_wp2_with fail
  obtain ⟨w0, hw0⟩ : ∃ w0, w0 = w.alloc (.cells #[.int .i64 (k : Int), .int .i64 (r : Int), .slice p n c] 24) := ⟨_, rfl⟩
  have hb0 : Below w.heap.size w w0 := by rw [hw0]; exact (Below.refl _ _).alloc (Nat.le_refl _) _
  have hE0 : Rul3 w0 w.heap.size (.int .i64 (k : Int)) (.int .i64 (r : Int)) (.slice p n c) := by rw [hw0]; exact Rul3.new w _ _ _
  rw [← hw0]
  obtain ⟨⟨hf0, hf1, hf2⟩, hc0, hc1, hc2⟩ := hE0.facts
  have HE := Lib.hid (And.intro hE0 hb0)
  clear hw0 hE0 hb0
  go_wp2_with fail
  refine (H.out.2.2.1 w0 h1 h4 h3).mono ?_
  rintro e w1 ⟨rfl, rfl⟩
  go_wp2_with fail
  refine (stray_any (k : Int) p n c t w0 H.out.2.1 (H.out.1.next HE.out.2)).mono ?_
  rintro e w1 ⟨rfl, rfl⟩
  rw [H.out.2.2.2]
  go_wp2_with fail
  go_ret
  exact ⟨rfl, HE.out.2⟩

set_option maxRecDepth 100000 in
set_option maxHeartbeats 1000000 in
theorem rcheck_bad (k r : Int) (p : Option Addr) (n c : Nat) (t : List Int) (w : World) (A : Nat → Addr) (hr : Roots w A) (hn : n = t.length) (h : IntV w.heap.size w p c t) (i : Nat) (hc : chkR k r t = some i) :
    Calls Tryd.prog 52 #[.agg #[.int .i64 k, .int .i64 r, .slice p n c]] w (Err1 w A ruleOp i 1) := by
  have hle := h.le
  have hcap := h.cap
  unfold maxLen at hcap
  have hn63 : n ≤ 9223372036854775807 := by omega
  have start : ∀ (w0 : World), w0 = w.alloc (.cells #[.int .i64 k, .int .i64 r, .slice p n c] 24) → Below w.heap.size w w0 ∧ Rul3 w0 w.heap.size (.int .i64 k) (.int .i64 r) (.slice p n c) := fun w0 hw0 =>
    ⟨by rw [hw0]; exact (Below.refl _ _).alloc (Nat.le_refl _) _, by rw [hw0]; exact Rul3.new w _ _ _⟩
  have ST := Lib.hid start
  clear start hle hcap
  unfold chkR at hc
  split at hc
  · obtain rfl := Option.some.inj hc
    rename_i hk
    have HR := Lib.hid hr
    clear h hn hc hr
    rcases (by omega : k < 1 ∨ (¬ k < 1 ∧ 4 < k)) with h1 | ⟨h1, h2⟩
    all_goals
      clear hk
      go_enter Tryd.func52, Tryd.ntmps52
      go_wp2_with fail
      obtain ⟨w0, hw0⟩ : ∃ w0, w0 = w.alloc (.cells #[.int .i64 k, .int .i64 r, .slice p n c] 24) := ⟨_, rfl⟩
      rw [← hw0]
      obtain ⟨hb0, hE0⟩ := ST.out w0 hw0
      obtain ⟨⟨hf0, hf1, hf2⟩, hc0, hc1, hc2⟩ := hE0.facts
      have HE := Lib.hid (And.intro hE0 hb0)
      clear hw0 hE0 hb0
      go_wp2_with fail
      refine (new_at ruleOp 0 1 w0 A (HR.out.below HE.out.2) (by omega)).mono ?_
      rintro e w1 ⟨b, rfl, hl1, hb1⟩
      have H := Lib.hid (And.intro hl1 (HE.out.2.trans (hb1.mono HE.out.2.size)))
      clear hl1 hb1
      go_wp2_with fail
      go_ret
      exact ⟨_, rfl, H.out.1, H.out.2⟩
  · rename_i hk
    have h1 : ¬ k < 1 := by omega
    have h4 : ¬ 4 < k := by omega
    split at hc
    · obtain rfl := Option.some.inj hc
      rename_i hrr
      have HR := Lib.hid (And.intro hr hrr)
      clear h hn hc hr hk hrr
      go_enter Tryd.func52, Tryd.ntmps52
      go_wp2_with fail
      obtain ⟨w0, hw0⟩ : ∃ w0, w0 = w.alloc (.cells #[.int .i64 k, .int .i64 r, .slice p n c] 24) := ⟨_, rfl⟩
      rw [← hw0]
      obtain ⟨hb0, hE0⟩ := ST.out w0 hw0
      obtain ⟨⟨hf0, hf1, hf2⟩, hc0, hc1, hc2⟩ := hE0.facts
      have HE := Lib.hid (And.intro hE0 hb0)
      clear hw0 hE0 hb0
      go_wp2_with fail
      refine (size_bad k r w0 A (HR.out.1.below HE.out.2) (Or.inr HR.out.2)).mono ?_
      rintro e w1 ⟨b1, rfl, _, hb1⟩
      have H1 := Lib.hid (HE.out.2.trans (hb1.mono HE.out.2.size))
      clear hb1
      go_wp2_with fail
      refine (new_at ruleOp 1 1 w1 A (HR.out.1.below H1.out) (by omega)).mono ?_
      rintro e w2 ⟨b, rfl, hl2, hb2⟩
      have H := Lib.hid (And.intro hl2 (H1.out.trans (hb2.mono H1.out.size)))
      clear hl2 hb2
      go_wp2_with fail
      go_ret
      exact ⟨_, rfl, H.out.1, H.out.2⟩
    · rename_i hrr
      obtain ⟨K, rfl⟩ : ∃ K : Nat, k = K := ⟨k.toNat, by omega⟩
      obtain ⟨R, rfl⟩ : ∃ R : Nat, r = R := ⟨r.toNat, by omega⟩
      have hk1 : 1 ≤ K := by omega
      have hk4 : K ≤ 4 := by omega
      have hr3 : R ≤ 3 := by omega
      obtain ⟨S, hS⟩ : ∃ S, K ^ (2 * R + 1) = S := ⟨_, rfl⟩
      have hsz := size_ok K R
      rw [hS] at hsz
      have hSle := pow_le (r := R) hk4 hr3
      rw [hS] at hSle
      rw [Int.toNat_natCast, Int.toNat_natCast, hS] at hc
      split at hc
      · obtain rfl := Option.some.inj hc
        rename_i hlen
        have HR := Lib.hid (And.intro hr hsz)
        have hnS : ¬ (n : Int) = (S : Int) := by omega
        have hnS' : ((n : Int) == (S : Int)) = false := by simpa using hnS
        clear h hn hc hr hk hrr hS hsz hlen
        go_enter Tryd.func52, Tryd.ntmps52
        go_wp2_with fail
        obtain ⟨w0, hw0⟩ : ∃ w0, w0 = w.alloc (.cells #[.int .i64 (K : Int), .int .i64 (R : Int), .slice p n c] 24) := ⟨_, rfl⟩
        rw [← hw0]
        obtain ⟨hb0, hE0⟩ := ST.out w0 hw0
        obtain ⟨⟨hf0, hf1, hf2⟩, hc0, hc1, hc2⟩ := hE0.facts
        have HE := Lib.hid (And.intro hE0 hb0)
        clear hw0 hE0 hb0
        go_wp2_with fail
        refine (HR.out.2 w0 hk1 hk4 hr3).mono ?_
        rintro e w1 ⟨rfl, rfl⟩
        go_wp2_with fail
        refine (new_at ruleOp 2 1 w0 A (HR.out.1.below HE.out.2) (by omega)).mono ?_
        rintro e w2 ⟨b, rfl, hl2, hb2⟩
        have H := Lib.hid (And.intro hl2 (HE.out.2.trans (hb2.mono HE.out.2.size)))
        clear hl2 hb2
        go_wp2_with fail
        go_ret
        exact ⟨_, rfl, H.out.1, H.out.2⟩
      · rename_i hlen
        obtain ⟨j, hj, rfl⟩ := Option.map_eq_some_iff.1 hc
        have hjl := strayN_lt hj
        have hst := strayN_bad hj
        have hnS : n = S := by omega
        have hjn : j < n := by omega
        subst hnS
        have H := Lib.hid (And.intro h (And.intro hn (And.intro hsz (And.intro hst hr))))
        clear h hn hc hr hk hrr hS hsz hlen hj hst hjl
        go_enter Tryd.func52, Tryd.ntmps52
        go_wp2_with fail
        obtain ⟨w0, hw0⟩ : ∃ w0, w0 = w.alloc (.cells #[.int .i64 (K : Int), .int .i64 (R : Int), .slice p n c] 24) := ⟨_, rfl⟩
        rw [← hw0]
        obtain ⟨hb0, hE0⟩ := ST.out w0 hw0
        obtain ⟨⟨hf0, hf1, hf2⟩, hc0, hc1, hc2⟩ := hE0.facts
        have HE := Lib.hid (And.intro hE0 hb0)
        clear hw0 hE0 hb0
        go_wp2_with fail
        refine (H.out.2.2.1 w0 hk1 hk4 hr3).mono ?_
        rintro e w1 ⟨rfl, rfl⟩
        go_wp2_with fail
        refine (stray_any (K : Int) p n c t w0 H.out.2.1 (H.out.1.next HE.out.2)).mono ?_
        rintro e w1 ⟨rfl, rfl⟩
        rw [H.out.2.2.2.1]
        go_wp2_with fail
        refine (new_at ruleOp (3 + (j : Int)) 1 w0 A (H.out.2.2.2.2.below HE.out.2) (by omega)).mono ?_
        rintro e w2 ⟨b, rfl, hl2, hb2⟩
        have HF := Lib.hid (And.intro hl2 (HE.out.2.trans (hb2.mono HE.out.2.size)))
        clear hl2 hb2
        go_wp2_with fail
        go_ret
        exact ⟨_, rfl, by have := HF.out.1; rwa [show ((3 + j : Nat) : Int) = 3 + (j : Int) by push_cast; rfl], HF.out.2⟩

theorem small_size_ok (k r : Nat) (w : World) (h1 : 1 ≤ k) (h4 : k ≤ 4) (h3 : r ≤ 3) (hs : k ^ (2 * r + 1) ≤ 256) :
    Calls Tryd.prog 45 #[.int .i64 (k : Int), .int .i64 (r : Int)] w (SizeOk w (k ^ (2 * r + 1))) := by
  have hsz := size_ok k r w h1 h4 h3
  obtain ⟨S, hS⟩ : ∃ S, k ^ (2 * r + 1) = S := ⟨_, rfl⟩
  rw [hS] at hs hsz ⊢
  have H := Lib.hid hsz
  clear hsz hS
  go_enter Tryd.func45, Tryd.ntmps45
  go_wp2_with fail
  refine H.out.mono ?_
  rintro e w1 ⟨rfl, rfl⟩
  go_wp2_with fail
  go_ret2
  exact ⟨rfl, rfl⟩
theorem small_size_big (k r : Nat) (w : World) (A : Nat → Addr) (hr : Roots w A) (h1 : 1 ≤ k) (h4 : k ≤ 4) (h3 : r ≤ 3) (hs : 256 < k ^ (2 * r + 1)) :
    Calls Tryd.prog 45 #[.int .i64 (k : Int), .int .i64 (r : Int)] w (Err2 w A ruleOp 0 4 (.int .i64 0)) := by
  have hsz := size_ok k r w h1 h4 h3
  have hle := pow_le h4 h3
  obtain ⟨S, hS⟩ : ∃ S, k ^ (2 * r + 1) = S := ⟨_, rfl⟩
  rw [hS] at hs hsz hle
  have H := Lib.hid (And.intro hsz hr)
  clear hsz hS hr
  go_enter Tryd.func45, Tryd.ntmps45
  go_wp2_with fail
  refine H.out.1.mono ?_
  rintro e w1 ⟨rfl, rfl⟩
  go_wp2_with fail
  refine (new_at ruleOp 0 4 w A H.out.2 (by omega)).mono ?_
  rintro e w2 ⟨b, rfl, hl2, hb2⟩
  have HF := Lib.hid (And.intro hl2 hb2)
  clear hl2 hb2
  go_wp2_with fail
  go_ret2
  exact ⟨_, rfl, HF.out.1, HF.out.2⟩
theorem small_size_bad (k r : Int) (w : World) (A : Nat → Addr) (hr : Roots w A) (h : (k < 1 ∨ 4 < k) ∨ r < 0 ∨ 3 < r) :
    Calls Tryd.prog 45 #[.int .i64 k, .int .i64 r] w (Err2 w A ruleOp 0 3 (.int .i64 0)) := by
  have H := Lib.hid (size_bad k r w A hr h)
  clear h hr
  go_enter Tryd.func45, Tryd.ntmps45
  go_wp2_with fail
  refine H.out.mono ?_
  rintro e w1 ⟨b, rfl, hl1, hb1⟩
  have HF := Lib.hid (And.intro hl1 hb1)
  clear hl1 hb1
  go_wp2_with fail
  go_ret2
  exact ⟨_, rfl, HF.out.1, HF.out.2⟩

/-- the fault of a rule that ought to be small: the place and the number -/
def chkS (k r : Int) (t : List Int) : Option (Nat × Nat) := match chkR k r t with
  | some i => some (i, 1)
  | none => if 256 < t.length then some (0, 4) else none
theorem chkS_none {k r : Int} {t : List Int} (h : chkS k r t = none) : ∃ K R : Nat, k = K ∧ r = R ∧ OkR K R t ∧ t.length ≤ 256 := by
  unfold chkS at h
  split at h
  · cases h
  · rename_i hn
    obtain ⟨K, R, h1, h2, h3⟩ := chkR_none hn
    split at h
    · cases h
    · exact ⟨K, R, h1, h2, h3, by omega⟩
theorem chkS_ok {K R : Nat} {t : List Int} (h : OkR K R t) (hl : t.length ≤ 256) : chkS K R t = none := by
  unfold chkS
  rw [chkR_ok h]
  simp only []
  rw [if_neg (by omega)]

set_option maxRecDepth 100000 in
set_option maxHeartbeats 1000000 in
theorem small_ok (k r : Nat) (p : Option Addr) (n c : Nat) (t : List Int) (w : World) (hn : n = t.length) (h : IntV w.heap.size w p c t) (ho : OkR k r t) (hs : t.length ≤ 256) :
    Calls Tryd.prog 63 #[.agg #[.int .i64 (k : Int), .int .i64 (r : Int), .slice p n c]] w (Tells .nilIface w) := by
  have H := Lib.hid (And.intro h (And.intro hn (And.intro ho hs)))
  clear h hn ho hs
  go_enter Tryd.func63, Tryd.ntmps63
  go_wp2_with fail
  obtain ⟨w0, hw0⟩ : ∃ w0, w0 = w.alloc (.cells #[.int .i64 (k : Int), .int .i64 (r : Int), .slice p n c] 24) := ⟨_, rfl⟩
  have hb0 : Below w.heap.size w w0 := by rw [hw0]; exact (Below.refl _ _).alloc (Nat.le_refl _) _
  have hE0 : Rul3 w0 w.heap.size (.int .i64 (k : Int)) (.int .i64 (r : Int)) (.slice p n c) := by rw [hw0]; exact Rul3.new w _ _ _
  rw [← hw0]
  obtain ⟨⟨hf0, hf1, hf2⟩, hc0, hc1, hc2⟩ := hE0.facts
  have HE := Lib.hid (And.intro hE0 hb0)
  clear hw0 hE0 hb0
  go_wp2_with fail
  refine (rcheck_ok k r p n c t w0 H.out.2.1 (H.out.1.next HE.out.2) H.out.2.2.1).mono ?_
  rintro e w1 ⟨rfl, hb1⟩
  have H1 := Lib.hid (And.intro (HE.out.1.next hb1) (HE.out.2.trans (hb1.mono HE.out.2.size)))
  clear hb1 hf0 hf1 hf2 hc0 hc1 hc2
  obtain ⟨⟨hf0, hf1, hf2⟩, hc0, hc1, hc2⟩ := H1.out.1.facts
  go_wp2_with fail
  refine (small_size_ok k r w1 H.out.2.2.1.k1 H.out.2.2.1.k4 H.out.2.2.1.r3 (by rw [← H.out.2.2.1.len]; exact H.out.2.2.2)).mono ?_
  rintro e w2 ⟨rfl, rfl⟩
  go_wp2_with fail
  go_ret
  exact ⟨rfl, H1.out.2⟩
set_option maxRecDepth 100000 in
set_option maxHeartbeats 1000000 in
theorem small_bad (k r : Int) (p : Option Addr) (n c : Nat) (t : List Int) (w : World) (A : Nat → Addr) (hr : Roots w A) (hn : n = t.length) (h : IntV w.heap.size w p c t) (i m : Nat) (hc : chkS k r t = some (i, m)) :
    Calls Tryd.prog 63 #[.agg #[.int .i64 k, .int .i64 r, .slice p n c]] w (Err1 w A ruleOp i m) := by
  unfold chkS at hc
  have start : ∀ (w0 : World), w0 = w.alloc (.cells #[.int .i64 k, .int .i64 r, .slice p n c] 24) → Below w.heap.size w w0 ∧ Rul3 w0 w.heap.size (.int .i64 k) (.int .i64 r) (.slice p n c) := fun w0 hw0 =>
    ⟨by rw [hw0]; exact (Below.refl _ _).alloc (Nat.le_refl _) _, by rw [hw0]; exact Rul3.new w _ _ _⟩
  have ST := Lib.hid start
  clear start
  split at hc
  · obtain ⟨rfl, rfl⟩ := Prod.mk.inj (Option.some.inj hc)
    rename_i hcr
    have H := Lib.hid (And.intro h (And.intro hn (And.intro hr hcr)))
    clear h hn hr hcr hc
    go_enter Tryd.func63, Tryd.ntmps63
    go_wp2_with fail
    obtain ⟨w0, hw0⟩ : ∃ w0, w0 = w.alloc (.cells #[.int .i64 k, .int .i64 r, .slice p n c] 24) := ⟨_, rfl⟩
    rw [← hw0]
    obtain ⟨hb0, hE0⟩ := ST.out w0 hw0
    obtain ⟨⟨hf0, hf1, hf2⟩, hc0, hc1, hc2⟩ := hE0.facts
    have HE := Lib.hid (And.intro hE0 hb0)
    clear hw0 hE0 hb0
    go_wp2_with fail
    refine (rcheck_bad k r p n c t w0 A (H.out.2.2.1.below HE.out.2) H.out.2.1 (H.out.1.next HE.out.2) _ H.out.2.2.2).mono ?_
    rintro e w1 ⟨b, rfl, hl1, hb1⟩
    have HF := Lib.hid (And.intro hl1 (HE.out.2.trans (hb1.mono HE.out.2.size)))
    clear hl1 hb1
    go_wp2_with fail
    go_ret
    exact ⟨_, rfl, HF.out.1, HF.out.2⟩
  · split at hc
    · obtain ⟨rfl, rfl⟩ := Prod.mk.inj (Option.some.inj hc)
      rename_i hcr hbig
      obtain ⟨K, R, rfl, rfl, ho⟩ := chkR_none hcr
      have H := Lib.hid (And.intro h (And.intro hn (And.intro hr (And.intro ho hbig))))
      clear h hn hr hcr hc ho hbig
      go_enter Tryd.func63, Tryd.ntmps63
      go_wp2_with fail
      obtain ⟨w0, hw0⟩ : ∃ w0, w0 = w.alloc (.cells #[.int .i64 (K : Int), .int .i64 (R : Int), .slice p n c] 24) := ⟨_, rfl⟩
      rw [← hw0]
      obtain ⟨hb0, hE0⟩ := ST.out w0 hw0
      obtain ⟨⟨hf0, hf1, hf2⟩, hc0, hc1, hc2⟩ := hE0.facts
      have HE := Lib.hid (And.intro hE0 hb0)
      clear hw0 hE0 hb0
      go_wp2_with fail
      refine (rcheck_ok K R p n c t w0 H.out.2.1 (H.out.1.next HE.out.2) H.out.2.2.2.1).mono ?_
      rintro e w1 ⟨rfl, hb1⟩
      have H1 := Lib.hid (And.intro (HE.out.1.next hb1) (HE.out.2.trans (hb1.mono HE.out.2.size)))
      clear hb1 hf0 hf1 hf2 hc0 hc1 hc2
      obtain ⟨⟨hf0, hf1, hf2⟩, hc0, hc1, hc2⟩ := H1.out.1.facts
      go_wp2_with fail
      refine (small_size_big K R w1 A (H.out.2.2.1.below H1.out.2) H.out.2.2.2.1.k1 H.out.2.2.2.1.k4 H.out.2.2.2.1.r3 (by rw [← H.out.2.2.2.1.len]; exact H.out.2.2.2.2)).mono ?_
      rintro e w2 ⟨b, rfl, hl2, hb2⟩
      have HF := Lib.hid (And.intro hl2 (H1.out.2.trans (hb2.mono H1.out.2.size)))
      clear hl2 hb2
      go_wp2_with fail
      go_ret
      exact ⟨_, rfl, HF.out.1, HF.out.2⟩
    · cases hc
end Go.Proofs.YtienaogmljlmlaaDoor
end
section
namespace Go.Proofs.YtienaogmljlmlaaDoor
open Go.RowKit

theorem madeI_list (v : Value) (n : Nat) : (madeCells #[v] n).toList = List.replicate n v := by
  unfold madeCells
  rw [Array.toList_map, Array.toList_range]
  apply List.ext_getElem
  · simp
  · intro i h1 h2
    simp [Nat.mod_one]
theorem makeI (n : Nat) (hn : n ≤ 17592186044000) (w : World) :
    (Instr.makeSlice 22 (.int .i64 (n : Int)) (.int .i64 (n : Int))).run Tryd.prog w = .ok (.slice (some ⟨w.heap.size, 0, none⟩) n n) (w.alloc (.cells (madeCells #[.int .i64 0] n) 3)) := by
  obtain ⟨i0, hi, hz0, hz1, hz2⟩ := info_parts infoI
  have h := run_make (P := Tryd.prog) w 22 3 i0 (.int .i64 0) Tryd.underlying22 hi hz0 .i64 .i64 n n (by omega) (by omega) (by rw [hz2]; omega) (by omega)
  rw [hz1] at h
  simpa [Value.cells] using h
theorem IntO.made (w : World) (n : Nat) (hn : n ≤ 17592186044000) : IntO w.heap.size (w.alloc (.cells (madeCells #[.int .i64 0] n) 3)) (some ⟨w.heap.size, 0, none⟩) n (List.replicate n 0) := by
  refine ⟨by simp [cI], Or.inr ⟨w.heap.size, n, madeCells #[.int .i64 0] n, by rw [List.length_replicate], Nat.le_refl _, heap_newN _ _, by rw [List.length_replicate]; exact Nat.le_refl _, by unfold maxLen; omega, by rw [size_madeCells, Nat.mul_one], ?_⟩⟩
  rw [madeI_list, List.length_replicate, Nat.mul_one, List.take_of_length_le (by simp)]
  simp [cI]

/-- a slice of no element, with room -/
def RoomPost (w : World) (e : Ending) (w' : World) : Prop := ∃ p c, e = .returned (.slice p 0 c) ∧ IntO w.heap.size w' p c [] ∧ Below w.heap.size w w'
abbrev Sl := Option Addr × Nat × List Int
def Sl.val (x : Sl) : Value := .slice x.1 x.2.2.length x.2.1
/-- A slice of slices of ints below B: it reads L, and each of them reads. -/
structure SlsV (B : Nat) (w : World) (p : Option Addr) (c : Nat) (L : List Sl) : Prop where
  le : L.length ≤ c
  cap : c ≤ maxLen
  each : ∀ x : Sl, x ∈ L → IntV B w x.1 x.2.1 x.2.2
  cell : L ≠ [] → ∃ b off, p = some ⟨b, off, none⟩ ∧ b < B ∧ ∀ (j : Nat) (x : Sl), L[j]? = some x → w.cell? ⟨b, off + j, none⟩ = some x.val
theorem SlsV.below {B : Nat} {w w' : World} {p : Option Addr} {c : Nat} {L : List Sl} (hb : Below B w w') (h : SlsV B w p c L) : SlsV B w' p c L :=
  ⟨h.le, h.cap, fun x hx => (h.each x hx).below hb, fun hn => by
    obtain ⟨b, off, hp, hlt, hc⟩ := h.cell hn
    exact ⟨b, off, hp, hlt, fun j x hx => (hb.cell (p := ⟨b, off + j, none⟩) hlt).trans (hc j x hx)⟩⟩
theorem SlsV.mono {B B' : Nat} {w : World} {p : Option Addr} {c : Nat} {L : List Sl} (hB : B ≤ B') (h : SlsV B w p c L) : SlsV B' w p c L :=
  ⟨h.le, h.cap, fun x hx => (h.each x hx).mono hB, fun hn => by
    obtain ⟨b, off, hp, hlt, hc⟩ := h.cell hn
    exact ⟨b, off, hp, by omega, hc⟩⟩
theorem SlsV.next {w w' : World} {p : Option Addr} {c : Nat} {L : List Sl} (hb : Below w.heap.size w w') (h : SlsV w.heap.size w p c L) : SlsV w'.heap.size w' p c L := (h.below hb).mono hb.size
/-- a literal of slices, just laid -/
theorem SlsV.laid {w : World} (L : List Sl) (cs : Array Value) (t : TypeId) (hc : cs.toList = L.map Sl.val) (hl : L.length ≤ 1000) (h : ∀ x : Sl, x ∈ L → IntV w.heap.size w x.1 x.2.1 x.2.2) :
    SlsV (w.alloc (.cells cs t)).heap.size (w.alloc (.cells cs t)) (some ⟨w.heap.size, 0, none⟩) L.length L := by
  have hb : Below w.heap.size w (w.alloc (.cells cs t)) := (Below.refl _ _).alloc (Nat.le_refl _) _
  refine ⟨Nat.le_refl _, by unfold maxLen; omega, fun x hx => (h x hx).next hb, fun _ => ⟨w.heap.size, 0, rfl, by simp, fun j x hx => ?_⟩⟩
  rw [Nat.zero_add, cell_alloc_row, ← Array.getElem?_toList, hc, List.getElem?_map, hx]; rfl
def flat (L : List Sl) : List Int := (L.map (·.2.2)).flatten
def sumL (L : List Sl) : Nat := (L.map (·.2.2.length)).sum
theorem flat_length (L : List Sl) : (flat L).length = sumL L := by unfold flat sumL; rw [List.length_flatten, List.map_map]; rfl
theorem flat_snoc {L : List Sl} {j : Nat} {x : Sl} (h : L[j]? = some x) : flat (L.take (j + 1)) = flat (L.take j) ++ x.2.2 := by
  unfold flat
  rw [List.take_add_one, h]; simp
theorem sum_snoc {L : List Sl} {j : Nat} {x : Sl} (h : L[j]? = some x) : sumL (L.take (j + 1)) = sumL (L.take j) + x.2.2.length := by
  unfold sumL
  rw [List.take_add_one, h]; simp
theorem sum_take_le (L : List Sl) (j : Nat) : sumL (L.take j) ≤ sumL L := by
  conv => rhs; rw [← List.take_append_drop j L]
  unfold sumL
  rw [List.map_append, List.sum_append]
  exact Nat.le_add_right _ _
def ConcatRel (w : World) (L : List Sl) (v6 v27 : Value) (wr : World) : Prop :=
  ∃ (j : Nat) (p : Option Addr) (c : Nat), j ≤ L.length ∧ v27 = .int .i64 (j : Int) ∧ v6 = .slice p (flat (L.take j)).length c ∧ IntO w.heap.size wr p c (flat (L.take j)) ∧ Below w.heap.size w wr

end Go.Proofs.YtienaogmljlmlaaDoor
end
section
namespace Go.Proofs.YtienaogmljlmlaaDoor
open Go.RowKit WordM


theorem IntPost.under {w W : World} {l : List Int} {e : Ending} {w' : World} (hb : Below w.heap.size w W) (h : IntPost W l e w') : IntPost w l e w' := by
  obtain ⟨p, c, he, ho, hb'⟩ := h
  exact ⟨p, c, he, ho.base hb.size, hb.trans (hb'.mono hb.size)⟩
theorem reverseI_none (w : World) : Calls Tryd.prog 30 #[.slice none 0 0] w fun e w' => e = .returned (.tuple #[]) ∧ w = w' := by
  go_enter Tryd.func30, Tryd.ntmps30
  go_wp2_with fail
  go_loop [2, 3] (fun v2 v3 => v2 = .int .i64 0 ∧ v3 = .int .i64 (-1)) (fun _ _ => 0)
  case atStart => exact ⟨rfl, rfl⟩
  case round =>
    obtain ⟨rfl, rfl⟩ := hrel
    go_wp2_with fail
    go_end0
    exact ⟨rfl, rfl⟩
set_option maxHeartbeats 1000000 in
theorem back_any (p : Option Addr) (n c : Nat) (l : List Int) (w : World) (hn : n = l.length) (h : IntV w.heap.size w p c l) (hl : l.length ≤ 17592186044000) :
    Calls Tryd.prog 10 #[.slice p n c] w (IntPost w l.reverse) := by
  subst hn
  have hc := cloneI_any p c l w h hl
  have HC := Lib.hid hc
  clear hc h
  go_enter Tryd.func10, Tryd.ntmps10
  go_wp2_with fail
  refine HC.out.mono ?_
  rintro e w1 ⟨p1, c1, rfl, ho1, hb1⟩
  rcases own_shape ho1 with ⟨hv, h0, _⟩ | ⟨g, cap, hv, hg, hglt, hcc, hm, hcl, _⟩
  · obtain ⟨rfl, hl0, rfl⟩ := by simpa using hv
    subst hl0
    have HB := Lib.hid hb1
    clear ho1 hb1 h0 hv
    go_wp2_with fail
    refine (reverseI_none _).mono ?_
    rintro e w' ⟨rfl, rfl⟩
    go_wp2_with fail
    go_ret
    exact ⟨none, 0, rfl, IntO.nothing _ _, HB.out⟩
  · obtain ⟨rfl, rfl⟩ : p1 = some ⟨g, 0, none⟩ ∧ c1 = cap := by simpa using hv
    have HB := Lib.hid (And.intro hb1 hg)
    have hr := reverseI_any w.heap.size g c1 l w1 (by omega) ho1
    clear ho1 hb1 hg hcl hv
    go_wp2_with fail
    refine hr.mono ?_
    rintro e w2 ⟨rfl, ho2, hgr⟩
    have hb2 : Below w.heap.size w w2 := HB.out.1.grown hgr HB.out.1.size (fun j hj => by obtain rfl := Option.some.inj hj; exact HB.out.2)
    have HO := Lib.hid (And.intro ho2 hb2)
    clear ho2 hgr hb2 hr
    go_wp2_with fail
    go_ret
    exact ⟨some ⟨g, 0, none⟩, c1, by rw [List.length_reverse]; rfl, by unfold IntO; rw [List.length_reverse]; exact HO.out.1, HO.out.2⟩

/-- how far a turn goes -/
def turnN (l : List Int) (z : Int) : Nat := (z % (l.length : Int)).toNat
def turnW (l : List Int) (z : Int) : List Int := rot l (turnN l z)
theorem turnW_length (l : List Int) (z : Int) : (turnW l z).length = l.length := rot_length _ _
end Go.Proofs.YtienaogmljlmlaaDoor
end
section
namespace Go.Proofs.YtienaogmljlmlaaDoor
open Go.RowKit Go.Extern.Stop Go.Stop Go.Extern WordM

/-- the word behind it, and no error -/
def NextOk (w : World) (k : Nat) (l : List Int) (e : Ending) (w' : World) : Prop := ∃ x, IsNext k l x ∧ IntOk w x e w'

theorem set_mid {l : List Int} {i : Nat} {y v : Int} (h : l[i]? = some y) (n : Nat) (z : Int) : (l.take (i + 1) ++ List.replicate n z).set i v = l.take i ++ v :: List.replicate n z := by
  have hi := ltI h
  have e : l.take (i + 1) = l.take i ++ [y] := by rw [List.take_add_one, h]; rfl
  rw [e, List.append_assoc, List.set_append_right _ _ (by rw [List.length_take]; omega), List.length_take, Nat.min_eq_left (by omega), Nat.sub_self]
  rfl
theorem take_rep {l : List Int} {i n : Nat} {y z : Int} (h : l[i]? = some y) (e : l = l.take (i + 1) ++ List.replicate n z) : l = l.take i ++ y :: List.replicate n z := by
  have e2 : l.take (i + 1) = l.take i ++ [y] := by rw [List.take_add_one, h]; rfl
  rw [e2, List.append_assoc] at e
  exact e
def NextRel (w : World) (k : Nat) (l : List Int) (p : Option Addr) (c : Nat) (v : Value) (wr : World) : Prop :=
  ∃ j : Nat, j ≤ l.length ∧ v = .int .i64 ((j : Int) - 1) ∧ l = l.take j ++ List.replicate (l.length - j) ((k : Int) - 1) ∧ IntO w.heap.size wr p c (l.take j ++ List.replicate (l.length - j) 0) ∧ Below w.heap.size w wr
end Go.Proofs.YtienaogmljlmlaaDoor
end
section
namespace Go.Proofs.YtienaogmljlmlaaDoor
open Go.RowKit NatM

theorem bsOf_strOfNums {l : List Nat} (h : ∀ x ∈ l, x < 256) : bsOf (strOfNums (l.map fun (d : Nat) => (d : Int))) = l := by
  unfold bsOf
  rw [strOfNums_data, List.map_map, List.map_map]
  conv => rhs; rw [← List.map_id l]
  apply List.map_congr_left
  intro x hx
  have := h x hx
  simp [UInt8.toNat_ofNat']
  omega
theorem strOfNums_bsOf (s : ByteArray) : strOfNums ((bsOf s).map fun (d : Nat) => (d : Int)) = s := by
  have h : (strOfNums ((bsOf s).map fun (d : Nat) => (d : Int))).data.toList = s.data.toList := by
    rw [strOfNums_data]
    unfold bsOf
    rw [List.map_map, List.map_map]
    conv => rhs; rw [← List.map_id s.data.toList]
    apply List.map_congr_left
    intro x _
    simp
  cases s with
  | mk d =>
    have := congrArg List.toArray h
    simp at this
    exact congrArg ByteArray.mk this
end Go.Proofs.YtienaogmljlmlaaDoor
end
section
namespace Go.Proofs.YtienaogmljlmlaaDoor
open Go.RowKit Go.Extern.Stop Go.Stop Go.Extern WordM NatM


/-- a text's digits as symbols -/
def sW (s : ByteArray) : List Int := (bsOf s).map fun (b : Nat) => (b : Int) - 48
theorem sW_length (s : ByteArray) : (sW s).length = s.size := by unfold sW; rw [List.length_map, bsOf_length]
theorem sW_get {s : ByteArray} {k : Nat} (h : k < s.size) : (sW s)[k]? = some ((s[k].toNat : Int) - 48) := by
  unfold sW
  rw [List.getElem?_map, bsOf_get h]; rfl
/-- of a text that is refused the number is 6 in place of 2 -/
def code6 (m : Nat) : Nat := if m = 2 then 6 else m

def ParseWRel (w : World) (n : Nat) (l : List Int) (p : Option Addr) (c : Nat) (J : Nat) (v : Value) (wr : World) : Prop :=
  ∃ j : Nat, j ≤ J ∧ v = .int .i64 (j : Int) ∧ IntO w.heap.size wr p c (l.take j ++ List.replicate (n - j) 0) ∧ Below w.heap.size w wr
theorem put_next {l : List Int} {j n : Nat} {x : Int} (h : l[j]? = some x) (hj : j < n) : (l.take j ++ List.replicate (n - j) 0).set j x = l.take (j + 1) ++ List.replicate (n - (j + 1)) 0 := by
  have hl := ltI h
  rw [List.set_append_right _ _ (by rw [List.length_take]; omega), List.length_take, Nat.min_eq_left (by omega), Nat.sub_self, List.take_add_one, h]
  obtain ⟨m, hm⟩ : ∃ m, n - j = m + 1 := ⟨n - j - 1, by omega⟩
  rw [hm, show n - (j + 1) = m by omega, List.replicate_succ]
  simp
theorem mid_len {l : List Int} {j n : Nat} (hl : j ≤ l.length) (hj : j ≤ n) : (l.take j ++ List.replicate (n - j) (0 : Int)).length = n := by simp; omega


end Go.Proofs.YtienaogmljlmlaaDoor
end
section
namespace Go.Proofs.YtienaogmljlmlaaDoor
open Go.RowKit Go.Extern.Stop Go.Stop Go.Extern WordM RuleM

/-- where Local refuses: the place and the number -/
def chkL (k r : Int) (t w : List Int) : Option (Nat × Nat) := match chkR k r t with
  | some i => some (i, 1)
  | none => if (w.length : Int) ≠ 2 * r + 1 then some (0, 3) else (w.findIdx? (badAt k)).map fun i => (i, 2)
/-- where Step refuses: the place and the number -/
def chkT (k r : Int) (t w : List Int) : Option (Nat × Nat) := match chkR k r t with
  | some i => some (i, 1)
  | none => if 4096 < w.length then some (0, 4) else (w.findIdx? (badAt k)).map fun i => (i, 2)
theorem chkL_none {k r : Int} {t w : List Int} (h : chkL k r t w = none) : ∃ K R : Nat, k = K ∧ r = R ∧ OkR K R t ∧ w.length = 2 * R + 1 ∧ okW K w := by
  unfold chkL at h
  split at h
  · cases h
  · rename_i hn
    obtain ⟨K, R, rfl, rfl, h3⟩ := chkR_none hn
    split at h
    · cases h
    · rw [Option.map_eq_none_iff, bad_none] at h
      exact ⟨K, R, rfl, rfl, h3, by omega, h⟩
theorem chkT_none {k r : Int} {t w : List Int} (h : chkT k r t w = none) : ∃ K R : Nat, k = K ∧ r = R ∧ OkR K R t ∧ w.length ≤ 4096 ∧ okW K w := by
  unfold chkT at h
  split at h
  · cases h
  · rename_i hn
    obtain ⟨K, R, rfl, rfl, h3⟩ := chkR_none hn
    split at h
    · cases h
    · rw [Option.map_eq_none_iff, bad_none] at h
      exact ⟨K, R, rfl, rfl, h3, by omega, h⟩
theorem chkT_ok {K R : Nat} {t w : List Int} (h : OkR K R t) (hl : w.length ≤ 4096) (hw : okW K w) : chkT K R t w = none := by
  unfold chkT
  rw [chkR_ok h]
  simp only []
  rw [if_neg (by omega), Option.map_eq_none_iff, bad_none]
  exact hw
theorem chkL_ok {K R : Nat} {t w : List Int} (h : OkR K R t) (hl : w.length = 2 * R + 1) (hw : okW K w) : chkL K R t w = none := by
  unfold chkL
  rw [chkR_ok h]
  simp only []
  rw [if_neg (by omega), Option.map_eq_none_iff, bad_none]
  exact hw

theorem valW_take1 {k : Nat} {l : List Int} {j : Nat} {x : Int} (h : l[j]? = some x) : valW k (l.take (j + 1)) = valW k (l.take j) * k + x.toNat := by
  rw [List.take_add_one, h]; exact valW_snoc k _ x
theorem val_small {k : Nat} {l : List Int} {j : Nat} (h4 : k ≤ 4) (ho : okW k l) (hj : j ≤ 7) : valW k (l.take j) < 16384 := by
  have h1 := valW_lt (okW_take ho j)
  have h2 : k ^ (l.take j).length ≤ 4 ^ (l.take j).length := Nat.pow_le_pow_left h4 _
  have h3 : 4 ^ (l.take j).length ≤ 4 ^ 7 := Nat.pow_le_pow_right (by omega) (by rw [List.length_take]; omega)
  have h5 : (4 : Nat) ^ 7 = 16384 := by decide
  omega

/-- a number, and no error -/
def IntOk1 (w : World) (x : Int) (e : Ending) (w' : World) : Prop := e = .returned (.tuple #[.int .i64 x, .nilIface]) ∧ Below w.heap.size w w'


end Go.Proofs.YtienaogmljlmlaaDoor
end
section
namespace Go.Proofs.YtienaogmljlmlaaDoor
open Go.RowKit Go.Extern.Stop Go.Stop Go.Extern WordM RuleM

set_option maxRecDepth 100000 in
set_option maxHeartbeats 2000000 in
theorem step_short (k r : Nat) (p q : Option Addr) (n c m d : Nat) (t l : List Int) (w : World) (hn : n = t.length) (hm : m = l.length) (h : IntV w.heap.size w p c t) (hl : IntV w.heap.size w q d l) (ho : OkR k r t) (hlen : m ≤ 2 * r) (hw : okW k l) :
    Calls Tryd.prog 25 #[.agg #[.int .i64 (k : Int), .int .i64 (r : Int), .slice p n c], .slice q m d] w (IntOk w (imgW k r t l)) := by
  have h4 := ho.k4
  have h3 := ho.r3
  have hle := hl.le
  have hcap := hl.cap
  unfold maxLen at hcap
  have hmd : m ≤ d := by omega
  have hst := strayN_ok hw
  rw [← hm] at hst
  have hnil := imgW_nil (k := k) (t := t) (w := l) (r := r) (by omega)
  have H := Lib.hid (And.intro h (And.intro hn (And.intro ho (And.intro hst (And.intro hl (And.intro hm hnil))))))
  clear h hn ho hst hl hm hw hle hnil
  obtain ⟨R2, hR2⟩ : ∃ R2 : Nat, 2 * r = R2 := ⟨_, rfl⟩
  have w2r : IntKind.i64.wrap (2 * (r : Int)) = (R2 : Int) := by rw [IntWalk.i64_in _ (by omega)]; omega
  have hmR : m ≤ R2 := by omega
  have hm4 : ¬ 4096 < m := by omega
  clear hR2 hlen
  go_enter Tryd.func25, Tryd.ntmps25
  go_wp2_with fail
  obtain ⟨w0, hw0⟩ : ∃ w0, w0 = w.alloc (.cells #[.int .i64 (k : Int), .int .i64 (r : Int), .slice p n c] 24) := ⟨_, rfl⟩
  have hb0 : Below w.heap.size w w0 := by rw [hw0]; exact (Below.refl _ _).alloc (Nat.le_refl _) _
  have hE0 : Rul3 w0 w.heap.size (.int .i64 (k : Int)) (.int .i64 (r : Int)) (.slice p n c) := by rw [hw0]; exact Rul3.new w _ _ _
  rw [← hw0]
  obtain ⟨⟨hf0, hf1, hf2⟩, hc0, hc1, hc2⟩ := hE0.facts
  have HE := Lib.hid (And.intro hE0 hb0)
  clear hw0 hE0 hb0
  go_wp2_with fail
  refine (rcheck_ok k r p n c t w0 H.out.2.1 (H.out.1.next HE.out.2) H.out.2.2.1).mono ?_
  rintro e w1 ⟨rfl, hb1⟩
  have H1 := Lib.hid (And.intro (HE.out.1.next hb1) (HE.out.2.trans (hb1.mono HE.out.2.size)))
  clear hb1 hf0 hf1 hf2 hc0 hc1 hc2
  obtain ⟨⟨hf0, hf1, hf2⟩, hc0, hc1, hc2⟩ := H1.out.1.facts
  go_wp2_with fail
  refine (stray_any (k : Int) q m d l w1 H.out.2.2.2.2.2.1 (H.out.2.2.2.2.1.next H1.out.2)).mono ?_
  rintro e w2 ⟨rfl, rfl⟩
  rw [H.out.2.2.2.1]
  go_wp2_with fail
  go_ret2
  exact ⟨none, 0, by rw [H.out.2.2.2.2.2.2]; rfl, by rw [H.out.2.2.2.2.2.2]; exact IntO.nothing _ _, H1.out.2⟩

def StepRel (w1 : World) (k S m R2 u : Nat) (l I : List Int) (v9 v46 : Value) (wr : World) : Prop :=
  ∃ j : Nat, j ≤ m ∧ v46 = .int .i64 (j : Int) ∧ v9 = .int .i64 ((valW k (l.take j) % S : Nat) : Int) ∧ IntO w1.heap.size wr (some ⟨w1.heap.size, 0, none⟩) u (I.take (j - R2) ++ List.replicate (u - (j - R2)) 0) ∧ Below w1.heap.size w1 wr
set_option maxRecDepth 100000 in
set_option maxHeartbeats 4000000 in
theorem step_long (k r : Nat) (p q : Option Addr) (n c m d : Nat) (t l : List Int) (w : World) (hn : n = t.length) (hm : m = l.length) (h : IntV w.heap.size w p c t) (hl : IntV w.heap.size w q d l) (ho : OkR k r t) (hlen : 2 * r < m) (hm4 : m ≤ 4096) (hw : okW k l) :
    Calls Tryd.prog 25 #[.agg #[.int .i64 (k : Int), .int .i64 (r : Int), .slice p n c], .slice q m d] w (IntOk w (imgW k r t l)) := by
  have h1 := ho.k1
  have h4 := ho.k4
  have h3 := ho.r3
  have hle := hl.le
  have hcap := hl.cap
  have hcap2 := h.cap
  have hle2 := h.le
  unfold maxLen at hcap hcap2
  have hmd : m ≤ d := by omega
  have hnc : n ≤ c := by omega
  have hst := strayN_ok hw
  rw [← hm] at hst
  have hn16 : n ≤ 16384 := by rw [hn, ho.len]; exact pow_le h4 h3
  have hn1 : 1 ≤ n := by rw [hn, ho.len]; exact pow_pos h1
  obtain ⟨R2, hR2⟩ : ∃ R2 : Nat, 2 * r = R2 := ⟨_, rfl⟩
  have hS : n = k ^ (R2 + 1) := by rw [hn, ho.len, hR2]
  have hil := imgW_length k r t l
  have hig := fun i => @imgW_get k r t l i
  rw [hR2] at hil hig
  obtain ⟨I, hI⟩ : ∃ I, imgW k r t l = I := ⟨_, rfl⟩
  rw [hI] at hil ⊢
  simp only [hI] at hig
  obtain ⟨u, hu⟩ : ∃ u, m - R2 = u := ⟨_, rfl⟩
  have hIu : I.length = u := by rw [hil, ← hm, hu]
  have w2r : IntKind.i64.wrap (2 * (r : Int)) = (R2 : Int) := by rw [IntWalk.i64_in _ (by omega)]; omega
  have wmu : IntKind.i64.wrap ((m : Int) - (R2 : Int)) = (u : Int) := by rw [IntWalk.i64_in _ (by omega)]; omega
  have hmR : ¬ m ≤ R2 := by omega
  have hR6 : R2 ≤ 6 := by omega
  have hu4 : u ≤ 4096 := by omega
  have hmk := makeI u (by omega)
  have H := Lib.hid (And.intro h (And.intro hn (And.intro ho (And.intro hst (And.intro hl (And.intro hm (And.intro hig (And.intro hIu (And.intro hS (And.intro hw hu))))))))))
  clear h hn ho hst hl hm hw hle hle2 hig hIu hil hI hS hlen hR2 hu
  go_enter Tryd.func25, Tryd.ntmps25
  go_wp2_with fail
  obtain ⟨w0, hw0⟩ : ∃ w0, w0 = w.alloc (.cells #[.int .i64 (k : Int), .int .i64 (r : Int), .slice p n c] 24) := ⟨_, rfl⟩
  have hb0 : Below w.heap.size w w0 := by rw [hw0]; exact (Below.refl _ _).alloc (Nat.le_refl _) _
  have hE0 : Rul3 w0 w.heap.size (.int .i64 (k : Int)) (.int .i64 (r : Int)) (.slice p n c) := by rw [hw0]; exact Rul3.new w _ _ _
  rw [← hw0]
  obtain ⟨⟨hf0, hf1, hf2⟩, hc0, hc1, hc2⟩ := hE0.facts
  have HE := Lib.hid (And.intro hE0 hb0)
  clear hw0 hE0 hb0
  go_wp2_with fail
  refine (rcheck_ok k r p n c t w0 H.out.2.1 (H.out.1.next HE.out.2) H.out.2.2.1).mono ?_
  rintro e w1 ⟨rfl, hb1⟩
  have H1 := Lib.hid (And.intro (HE.out.1.next hb1) (HE.out.2.trans (hb1.mono HE.out.2.size)))
  clear hb1 hf0 hf1 hf2 hc0 hc1 hc2
  obtain ⟨⟨hf0, hf1, hf2⟩, hc0, hc1, hc2⟩ := H1.out.1.facts
  have hs01 : w.heap.size < w1.heap.size := H1.out.1.lt
  go_wp2_with fail
  refine (stray_any (k : Int) q m d l w1 H.out.2.2.2.2.2.1 (H.out.2.2.2.2.1.next H1.out.2)).mono ?_
  rintro e w2 ⟨rfl, rfl⟩
  rw [H.out.2.2.2.1]
  have hmk1 := hmk w1
  have ho0 := IntO.made w1 u (by omega)
  have hbm : Below w1.heap.size w1 (w1.alloc (.cells (madeCells #[.int .i64 0] u) 3)) := (Below.refl _ _).alloc (Nat.le_refl _) _
  have HO := Lib.hid (And.intro ho0 hbm)
  clear hmk ho0 hbm
  go_wp2_with fail
  clear hmk1
  go_loopw [9, 46] (fun v9 v46 wr => StepRel w1 k n m R2 u l I v9 v46 wr) (fun _ v _ => m - (intOf v).toNat)
  case atStart => exact ⟨0, Nat.zero_le _, rfl, by simp [valW], by simpa using HO.out.1, HO.out.2⟩
  case round =>
    obtain ⟨j, hj, rfl, rfl, ho, hb⟩ := hrel
    have hbw : Below w.heap.size w wr := H1.out.2.trans (hb.mono H1.out.2.size)
    have hBx := H1.out.1.next hb
    clear hf0 hf1 hf2 hc0 hc1 hc2
    obtain ⟨⟨hf0, hf1, hf2⟩, hc0, hc1, hc2⟩ := hBx.facts
    by_cases hlt : j < m
    · have hml := H.out.2.2.2.2.2.1
      obtain ⟨b, off, rfl, hbb, hc⟩ := H.out.2.2.2.2.1.cell (by rintro rfl; simp at hml; omega)
      obtain ⟨x, hx⟩ := getI (l := l) (k := j) (by omega)
      have hcx : wr.cell? ⟨b, off + j, none⟩ = some (.int .i64 x) := (hbw.cell (p := ⟨b, off + j, none⟩) hbb).trans (hc j x hx)
      have hxo := H.out.2.2.2.2.2.2.2.2.2.1 x (List.mem_of_getElem? hx)
      have hstep := step_mod (k := k) (S := n) hx
      obtain ⟨y, rfl⟩ : ∃ y : Nat, x = (y : Int) := ⟨x.toNat, by omega⟩
      rw [Int.toNat_natCast] at hstep
      have hv1 : valW k (l.take j) % n < n := Nat.mod_lt _ (by omega)
      have hv2 : valW k (l.take (j + 1)) % n < n := Nat.mod_lt _ (by omega)
      obtain ⟨v, hv⟩ : ∃ v, valW k (l.take j) % n = v := ⟨_, rfl⟩
      obtain ⟨z, hz⟩ : ∃ z, valW k (l.take (j + 1)) % n = z := ⟨_, rfl⟩
      rw [hv] at hstep hv1 ⊢
      rw [hz] at hstep hv2
      obtain ⟨a, ha⟩ : ∃ a, v * k = a := ⟨_, rfl⟩
      have ha16 : a ≤ 16384 * 4 := by rw [← ha]; exact Nat.mul_le_mul (by omega) h4
      have hvk : ((v : Int) * (k : Int)) = (a : Int) := by rw [← ha]; push_cast; rfl
      rw [ha] at hstep
      have wvk : IntKind.i64.wrap ((v : Int) * (k : Int)) = (a : Int) := by rw [hvk, IntWalk.i64_in _ (by omega)]
      have wax : IntKind.i64.wrap ((a : Int) + (y : Int)) = (a : Int) + (y : Int) := by rw [IntWalk.i64_in _ (by omega)]
      have e1 : ((a : Int) + (y : Int)) % (n : Int) = (z : Int) := by rw [← hstep]; push_cast; rfl
      have t1 : ((a : Int) + (y : Int)).tmod (n : Int) = (z : Int) := by rw [Int.tmod_eq_emod_of_nonneg (by omega), e1]
      have hn0 : ¬ (n : Int) = 0 := by omega
      by_cases hjR : j < R2
      · have e2 : j - R2 = 0 := by omega
        have e3 : j + 1 - R2 = 0 := by omega
        rw [e2] at ho
        have HS := Lib.hid (And.intro hz (And.intro hb (And.intro ho e3)))
        clear hc hx hv hz ha hvk hstep hml hb ho hbw hBx e2 e3
        go_wp2_with fail
        go_roundw
        case rel => exact ⟨j + 1, by omega, by go_num, by rw [HS.out.1], by rw [HS.out.2.2.2]; exact HS.out.2.2.1, HS.out.2.1⟩
        case measure => simp [intOf]; omega
      · obtain ⟨i, hi⟩ : ∃ i, j - R2 = i := ⟨_, rfl⟩
        have hiu : i < u := by have := H.out.2.2.2.2.2.2.2.2.2.2; omega
        have wji : IntKind.i64.wrap ((j : Int) - (R2 : Int)) = (i : Int) := by rw [IntWalk.i64_in _ (by omega)]; omega
        have hIi := H.out.2.2.2.2.2.2.1 i (by have := H.out.2.2.2.2.2.2.2.2.2.2; omega)
        have hwm := win_mod (k := k) (w := l) (i := i) (n := R2 + 1) H.out.2.2.2.2.2.2.2.2.2.1 (by omega)
        rw [show i + (R2 + 1) = j + 1 by omega, ← H.out.2.2.2.2.2.2.2.2.1, hz] at hwm
        rw [← hwm] at hIi
        have hzt : z < t.length := by have := H.out.2.1; omega
        have hg := ent_get hzt
        obtain ⟨b2, off2, rfl, hb2, hc2'⟩ := H.out.1.cell (by rintro rfl; simp at hzt)
        have hcz : wr.cell? ⟨b2, off2 + z, none⟩ = some (.int .i64 (ent t z)) := (hbw.cell (p := ⟨b2, off2 + z, none⟩) hb2).trans (hc2' _ _ hg)
        obtain ⟨f, hf⟩ : ∃ f, ent t z = f := ⟨_, rfl⟩
        rw [hf] at hcz hIi
        rw [hi] at ho
        have hput := put_next hIi hiu
        have hmid := mid_len (l := I) (j := i) (n := u) (by have := H.out.2.2.2.2.2.2.2.1; omega) (by omega)
        obtain ⟨xs, hxs⟩ : ∃ xs, I.take i ++ List.replicate (u - i) (0 : Int) = xs := ⟨_, rfl⟩
        rw [hxs] at ho hput hmid
        have hown : wr.ownsRow w1.heap.size 3 1 (.slice (some ⟨w1.heap.size, 0, none⟩) u u) u (cI xs) := by
          unfold IntO at ho
          rwa [hmid] at ho
        obtain ⟨y0, hy0⟩ := getI (l := xs) (k := i) (by omega)
        have hcy : wr.cell? ⟨w1.heap.size, i, none⟩ = some (.int .i64 y0) := (hown.cellAt i (by omega)).trans (cI_get hy0)
        have hfy : wr.frozen? ⟨w1.heap.size, i, none⟩ = false := hown.frozenAt i
        obtain ⟨s1, t1'⟩ := hown.stored i (.int .i64 f)
        rw [← cI_set, hput] at s1
        have hb1 : Below w1.heap.size w1 (wr.setCell ⟨w1.heap.size, i, none⟩ (.int .i64 f)) := hb.setCell (p := ⟨w1.heap.size, i, none⟩) (Nat.le_refl _) _
        have hmid1 := mid_len (l := I) (j := i + 1) (n := u) (by have := H.out.2.2.2.2.2.2.2.1; omega) (by omega)
        have hij : j + 1 - R2 = i + 1 := by omega
        have HS := Lib.hid (And.intro hz (And.intro hb1 (And.intro s1 (And.intro hmid1 hij))))
        have hzn : z < n := hv2
        clear hc hx hv hz ha hvk hstep hml hb ho hbw hBx hi hIi hwm hzt hg hf hput hmid hxs hown s1 t1' hb1 hmid1 hij hc2' hy0
        go_wp2_with fail
        go_region
        go_wp2_with fail
        go_roundw
        case rel => exact ⟨j + 1, by omega, by go_num, by rw [HS.out.1], by rw [HS.out.2.2.2.2]; unfold IntO; rw [HS.out.2.2.2.1]; exact HS.out.2.2.1, HS.out.2.1.drew⟩
        case measure => simp [intOf]; omega
    · obtain rfl : j = m := by omega
      have hju : j - R2 = u := H.out.2.2.2.2.2.2.2.2.2.2
      have hIu := H.out.2.2.2.2.2.2.2.1
      have he : I.take u ++ List.replicate (u - u) (0 : Int) = I := by rw [Nat.sub_self, List.replicate_zero, List.append_nil, ← hIu, List.take_length]
      rw [hju, he] at ho
      have HF := Lib.hid (And.intro (ho.base (Nat.le_of_lt hs01)) hbw)
      clear ho hb he hbw hBx hju hIu
      go_wp2_with fail
      go_ret2
      exact ⟨_, _, by rw [H.out.2.2.2.2.2.2.2.1]; rfl, HF.out.1, HF.out.2⟩
end Go.Proofs.YtienaogmljlmlaaDoor
end
section
namespace Go.Proofs.YtienaogmljlmlaaDoor
open Go.RowKit Go.Extern.Stop Go.Stop Go.Extern WordM NatM

theorem makeB (n : Nat) (hn : n ≤ 17592186044000) (w : World) :
    (Instr.makeSlice 88 (.int .i64 (n : Int)) (.int .i64 (n : Int))).run Tryd.prog w = .ok (.slice (some ⟨w.heap.size, 0, none⟩) n n) (w.alloc (.cells (madeCells #[.int .u8 0] n) 5)) := by
  obtain ⟨i0, hi, hz0, hz1, hz2⟩ := info_parts info8
  have h := run_make (P := Tryd.prog) w 88 5 i0 (.int .u8 0) Tryd.underlying88 hi hz0 .i64 .i64 n n (by omega) (by omega) (by rw [hz2]; omega) (by omega)
  rw [hz1] at h
  simpa [Value.cells] using h
/-- bytes in a block of the call's own -/
def ByteO (base : Nat) (w : World) (g n : Nat) (l : List Nat) : Prop := w.ownsRow base 5 1 (.slice (some ⟨g, 0, none⟩) n n) n (cells8 l)
theorem ByteO.made (w : World) (n : Nat) (hn : n ≤ 17592186044000) : ByteO w.heap.size (w.alloc (.cells (madeCells #[.int .u8 0] n) 5)) w.heap.size n (List.replicate n 0) := by
  refine ⟨by simp [cells8], Or.inr ⟨w.heap.size, n, madeCells #[.int .u8 0] n, rfl, Nat.le_refl _, heap_newN _ _, Nat.le_refl _, by unfold maxLen; omega, by rw [size_madeCells, Nat.mul_one], ?_⟩⟩
  rw [madeI_list, Nat.mul_one, List.take_of_length_le (by simp)]
  simp [cells8]

/-- the digits of a word's text -/
def txL (l : List Int) : List Nat := l.map fun x => 48 + x.toNat
def txW (l : List Int) : ByteArray := strOfNums ((txL l).map fun (d : Nat) => (d : Int))
theorem txL_length (l : List Int) : (txL l).length = l.length := by simp [txL]
theorem txL_get {l : List Int} {j : Nat} {x : Int} (h : l[j]? = some x) : (txL l)[j]? = some (48 + x.toNat) := by simp [txL, h]
theorem txW_size (l : List Int) : (txW l).size = l.length := by unfold txW; rw [strOfNums_size, List.length_map, txL_length]
/-- read back -/
theorem sW_txW {k : Nat} (hk : k ≤ 4) {l : List Int} (h : okW k l) : sW (txW l) = l := by
  unfold sW txW
  rw [bsOf_strOfNums]
  · unfold txL
    rw [List.map_map]
    conv => rhs; rw [← List.map_id l]
    apply List.map_congr_left
    intro x hx
    have := h x hx
    simp
    omega
  · intro x hx
    unfold txL at hx
    obtain ⟨y, hy, rfl⟩ := List.mem_map.1 hx
    have := h y hy
    omega
/-- written again -/
theorem txW_sW {k : Nat} {s : ByteArray} (h : okW k (sW s)) : txW (sW s) = s := by
  unfold txW
  have e : txL (sW s) = bsOf s := by
    unfold txL
    unfold sW at h ⊢
    rw [List.map_map]
    conv => rhs; rw [← List.map_id (bsOf s)]
    apply List.map_congr_left
    intro x hx
    have := h ((x : Int) - 48) (List.mem_map.2 ⟨x, hx, rfl⟩)
    simp
    omega
  rw [e, strOfNums_bsOf]
theorem put_nextB {l : List Nat} {j n x : Nat} (h : l[j]? = some x) (hj : j < n) : (l.take j ++ List.replicate (n - j) 0).set j x = l.take (j + 1) ++ List.replicate (n - (j + 1)) 0 := by
  have hl := (List.getElem?_eq_some_iff.1 h).1
  rw [List.set_append_right _ _ (by rw [List.length_take]; omega), List.length_take, Nat.min_eq_left (by omega), Nat.sub_self, List.take_add_one, h]
  obtain ⟨m, hm⟩ : ∃ m, n - j = m + 1 := ⟨n - j - 1, by omega⟩
  rw [hm, show n - (j + 1) = m by omega, List.replicate_succ]
  simp

/-- a text, and no error -/
def StrOk (w : World) (s : ByteArray) (e : Ending) (w' : World) : Prop := e = .returned (.tuple #[.string s, .nilIface]) ∧ Below w.heap.size w w'
def TextWRel (w : World) (n g : Nat) (l : List Int) (v : Value) (wr : World) : Prop :=
  ∃ j : Nat, j ≤ n ∧ v = .int .i64 (j : Int) ∧ ByteO w.heap.size wr g n ((txL l).take j ++ List.replicate (n - j) 0) ∧ Below w.heap.size w wr
end Go.Proofs.YtienaogmljlmlaaDoor
end
section
namespace Go.Proofs
open Go.Shelf
def Tryd.lays129_ren : Go.Shelf.Ren := ⟨fun | 129 => 88 | n => n, fun | 53 => 91 | 3 => 3 | 4 => 4 | 46 => 92 | 5 => 5 | 9 => 9 | n => n, fun | n => n⟩
theorem Tryd.lays129 : Go.Proofs.Lays.n129 Tryd.prog Tryd.lays129_ren := {
  mixed := by kernel_rfl
  f129 := Tryd.func88.trans (congrArg some (by kernel_rfl))
  t3 := Tryd.underlying3
  a3 := Tryd.isAgg3
  z3 := Tryd.sizeOf3
  v3 := Tryd.zeroValue3
  t4 := Tryd.underlying4
  a4 := Tryd.isAgg4
  z4 := Tryd.sizeOf4
  v4 := Tryd.zeroValue4
  t5 := Tryd.underlying5
  a5 := Tryd.isAgg5
  z5 := Tryd.sizeOf5
  v5 := Tryd.zeroValue5
  t9 := Tryd.underlying9
  a9 := Tryd.isAgg9
  z9 := Tryd.sizeOf9
  v9 := Tryd.zeroValue9
  t46 := Tryd.underlying92
  a46 := Tryd.isAgg92
  z46 := Tryd.sizeOf92
  v46 := Tryd.zeroValue92
  t53 := Tryd.underlying91
  a53 := Tryd.isAgg91
  z53 := Tryd.sizeOf91
  v53 := Tryd.zeroValue91 }
theorem Tryd.bits_Len64 (x : Int) (w : World) (h0 : 0 ≤ x) (h1 : x ≤ 18446744073709551615) :
    Calls Tryd.prog 88 #[.int .u64 x] w fun e w' => e = .returned (.int .i64 (Lib.bitLen x.toNat)) ∧ w' = w := Any.bits_Len64 Tryd.lays129 x w h0 h1
def Tryd.lays317_ren : Go.Shelf.Ren := ⟨fun | 317 => 87 | n => n, fun | 3 => 3 | 46 => 92 | n => n, fun | n => n⟩
theorem Tryd.lays317 : Go.Proofs.Lays.n317 Tryd.prog Tryd.lays317_ren := {
  mixed := by kernel_rfl
  f317 := Tryd.func87.trans (congrArg some (by kernel_rfl))
  t3 := Tryd.underlying3
  a3 := Tryd.isAgg3
  z3 := Tryd.sizeOf3
  v3 := Tryd.zeroValue3
  t46 := Tryd.underlying92
  a46 := Tryd.isAgg92
  z46 := Tryd.sizeOf92
  v46 := Tryd.zeroValue92 }
open Go.Lib in
theorem Tryd.internal_strconv_log10Pow2 (x : Nat) (h : x ≤ 64) (w : World) :
    Calls Tryd.prog 87 #[.int .i64 x] w fun e w' => e = .returned (.int .i64 (Lib.l10 x)) ∧ w' = w := Any.internal_strconv_log10Pow2 Tryd.lays317 x h w
def Tryd.lays318_ren : Go.Shelf.Ren := ⟨fun | 318 => 89 | n => n, fun | 3 => 3 | 4 => 4 | n => n, fun | n => n⟩
theorem Tryd.lays318 : Go.Proofs.Lays.n318 Tryd.prog Tryd.lays318_ren := {
  mixed := by kernel_rfl
  f318 := Tryd.func89.trans (congrArg some (by kernel_rfl))
  t3 := Tryd.underlying3
  a3 := Tryd.isAgg3
  z3 := Tryd.sizeOf3
  v3 := Tryd.zeroValue3
  t4 := Tryd.underlying4
  a4 := Tryd.isAgg4
  z4 := Tryd.sizeOf4
  v4 := Tryd.zeroValue4 }
open Go.Lib in
theorem Tryd.internal_strconv_bool2_int (b : Bool) (w : World) :
    Calls Tryd.prog 89 #[.bool b] w fun e w' => e = .returned (.int .i64 (if b then 1 else 0)) ∧ w' = w := Any.internal_strconv_bool2_int Tryd.lays318 b w
def Tryd.lays283_ren : Go.Shelf.Ren := ⟨fun | 283 => 82 | n => n, fun | 3 => 3 | 9 => 9 | 4 => 4 | n => n, fun | n => n⟩
theorem Tryd.lays283 : Go.Proofs.Lays.n283 Tryd.prog Tryd.lays283_ren := {
  mixed := by kernel_rfl
  f283 := Tryd.func82.trans (congrArg some (by kernel_rfl))
  t3 := Tryd.underlying3
  a3 := Tryd.isAgg3
  z3 := Tryd.sizeOf3
  v3 := Tryd.zeroValue3
  t4 := Tryd.underlying4
  a4 := Tryd.isAgg4
  z4 := Tryd.sizeOf4
  v4 := Tryd.zeroValue4
  t9 := Tryd.underlying9
  a9 := Tryd.isAgg9
  z9 := Tryd.sizeOf9
  v9 := Tryd.zeroValue9 }
open Go.Lib in
theorem Tryd.internal_strconv_small (i : Nat) (h : i < 100) (w : World) :
    Calls Tryd.prog 82 #[.int .i64 i] w fun e w' => e = .returned (.string ⟨(Lib.decDigits i).toArray⟩) ∧ w' = w := Any.internal_strconv_small Tryd.lays283 i h w
def Tryd.laysM284_ren : Go.Shelf.Ren := ⟨fun | 284 => 83 | 129 => 88 | 317 => 87 | 318 => 89 | n => n, fun | 53 => 91 | 3 => 3 | 212 => 112 | 0 => 0 | 4 => 4 | 46 => 92 | 5 => 5 | 9 => 9 | n => n, fun | 17 => 13 | n => n⟩
theorem Tryd.laysM284 : Go.Proofs.LaysM.n284 Tryd.prog Tryd.laysM284_ren := {
  mixed := by kernel_rfl
  f129 := Tryd.func88.trans (congrArg some (by kernel_rfl))
  f284 := Tryd.func83.trans (congrArg some (by kernel_rfl))
  f317 := Tryd.func87.trans (congrArg some (by kernel_rfl))
  f318 := Tryd.func89.trans (congrArg some (by kernel_rfl))
  t0 := Tryd.underlying0
  a0 := Tryd.isAgg0
  z0 := Tryd.sizeOf0
  v0 := Tryd.zeroValue0
  t3 := Tryd.underlying3
  a3 := Tryd.isAgg3
  z3 := Tryd.sizeOf3
  v3 := Tryd.zeroValue3
  t4 := Tryd.underlying4
  a4 := Tryd.isAgg4
  z4 := Tryd.sizeOf4
  v4 := Tryd.zeroValue4
  t5 := Tryd.underlying5
  a5 := Tryd.isAgg5
  z5 := Tryd.sizeOf5
  v5 := Tryd.zeroValue5
  t9 := Tryd.underlying9
  a9 := Tryd.isAgg9
  z9 := Tryd.sizeOf9
  v9 := Tryd.zeroValue9
  t46 := Tryd.underlying92
  a46 := Tryd.isAgg92
  z46 := Tryd.sizeOf92
  v46 := Tryd.zeroValue92
  t53 := Tryd.underlying91
  a53 := Tryd.isAgg91
  z53 := Tryd.sizeOf91
  v53 := Tryd.zeroValue91
  t212 := Tryd.underlying112
  a212 := Tryd.isAgg112
  z212 := Tryd.sizeOf112
  v212 := Tryd.zeroValue112
  g17 := by kernel_rfl
  i0 := by kernel_rfl
  i3 := by kernel_rfl
  i4 := by kernel_rfl
  i5 := by kernel_rfl
  i9 := by kernel_rfl
  i46 := by kernel_rfl
  i53 := by kernel_rfl
  i212 := by kernel_rfl
  m17 := by kernel_rfl }
open Go.Lib in
theorem Tryd.internal_strconv_numDigits (u : Nat) (h1 : 1 ≤ u) (h2 : u < 18446744073709551616) (w : World) (htab : Lib.TabIs Tryd.prog w "internal/strconv.uint64pow10" .u64 Lib.pow10Tab) :
    Calls Tryd.prog 83 #[.int .u64 u] w fun e w' => e = .returned (.int .i64 (Lib.nDigits u)) ∧ w' = w := Any.internal_strconv_numDigits Tryd.laysM284 u h1 h2 w htab
def Tryd.lays285_ren : Go.Shelf.Ren := ⟨fun | 285 => 84 | n => n, fun | 37 => 88 | 53 => 91 | 3 => 3 | 4 => 4 | 51 => 84 | 9 => 9 | 5 => 5 | 0 => 0 | n => n, fun | n => n⟩
theorem Tryd.lays285 : Go.Proofs.Lays.n285 Tryd.prog Tryd.lays285_ren := {
  mixed := by kernel_rfl
  f285 := Tryd.func84.trans (congrArg some (by kernel_rfl))
  t0 := Tryd.underlying0
  a0 := Tryd.isAgg0
  z0 := Tryd.sizeOf0
  v0 := Tryd.zeroValue0
  t3 := Tryd.underlying3
  a3 := Tryd.isAgg3
  z3 := Tryd.sizeOf3
  v3 := Tryd.zeroValue3
  t4 := Tryd.underlying4
  a4 := Tryd.isAgg4
  z4 := Tryd.sizeOf4
  v4 := Tryd.zeroValue4
  t5 := Tryd.underlying5
  a5 := Tryd.isAgg5
  z5 := Tryd.sizeOf5
  v5 := Tryd.zeroValue5
  t9 := Tryd.underlying9
  a9 := Tryd.isAgg9
  z9 := Tryd.sizeOf9
  v9 := Tryd.zeroValue9
  t37 := Tryd.underlying88
  a37 := Tryd.isAgg88
  z37 := Tryd.sizeOf88
  v37 := Tryd.zeroValue88
  t51 := Tryd.underlying84
  a51 := Tryd.isAgg84
  z51 := Tryd.sizeOf84
  v51 := Tryd.zeroValue84
  t53 := Tryd.underlying91
  a53 := Tryd.isAgg91
  z53 := Tryd.sizeOf91
  v53 := Tryd.zeroValue91 }
open Go.RowKit Go.Sort Go.Lib in
theorem Tryd.internal_strconv_formatBase10 (blk off cap : Nat) (u : Nat) (d : Array UInt8) (w : World) (hH : Holds (fun (b : UInt8) => Value.int .u8 (b.toNat : Int)) w blk off d) (hu : u < 10 ^ d.size) (hu64 : u < 18446744073709551616) (hsz : d.size < 4611686018427387904) :
    Calls Tryd.prog 84 #[.slice (some ⟨blk, off, none⟩) d.size cap, .int .u64 u] w fun e w' =>
      e = .returned (.tuple #[]) ∧ ∃ (n v' : Nat) (dk : Array UInt8), w' = (putRow (fun (b : UInt8) => Value.int .u8 (b.toNat : Int)) w blk off dk).drewN n ∧ FmtInv d.size u 0 v' dk := Any.internal_strconv_formatBase10 Tryd.lays285 blk off cap u d w hH hu hu64 hsz
def Tryd.laysM246_ren : Go.Shelf.Ren := ⟨fun | 246 => 78 | 283 => 82 | 284 => 83 | 285 => 84 | 286 => 85 | 129 => 88 | 317 => 87 | 318 => 89 | 319 => 90 | 320 => 91 | 337 => 93 | 338 => 94 | n => n, fun | 2 => 2 | 3 => 3 | 9 => 9 | 4 => 4 | 171 => 106 | 0 => 0 | 53 => 91 | 37 => 88 | 5 => 5 | 173 => 109 | 212 => 112 | 51 => 84 | 20 => 20 | 213 => 113 | 46 => 92 | 232 => 116 | 233 => 117 | n => n, fun | 17 => 13 | 18 => 14 | 19 => 15 | n => n⟩
theorem Tryd.laysM246 : Go.Proofs.LaysM.n246 Tryd.prog Tryd.laysM246_ren := {
  mixed := by kernel_rfl
  f129 := Tryd.func88.trans (congrArg some (by kernel_rfl))
  f246 := Tryd.func78.trans (congrArg some (by kernel_rfl))
  f283 := Tryd.func82.trans (congrArg some (by kernel_rfl))
  f284 := Tryd.func83.trans (congrArg some (by kernel_rfl))
  f285 := Tryd.func84.trans (congrArg some (by kernel_rfl))
  f286 := Tryd.func85.trans (congrArg some (by kernel_rfl))
  f317 := Tryd.func87.trans (congrArg some (by kernel_rfl))
  f318 := Tryd.func89.trans (congrArg some (by kernel_rfl))
  f319 := Tryd.func90.trans (congrArg some (by kernel_rfl))
  f320 := Tryd.func91.trans (congrArg some (by kernel_rfl))
  f337 := Tryd.func93.trans (congrArg some (by kernel_rfl))
  f338 := Tryd.func94.trans (congrArg some (by kernel_rfl))
  t0 := Tryd.underlying0
  a0 := Tryd.isAgg0
  z0 := Tryd.sizeOf0
  v0 := Tryd.zeroValue0
  t2 := Tryd.underlying2
  a2 := Tryd.isAgg2
  z2 := Tryd.sizeOf2
  v2 := Tryd.zeroValue2
  t3 := Tryd.underlying3
  a3 := Tryd.isAgg3
  z3 := Tryd.sizeOf3
  v3 := Tryd.zeroValue3
  t4 := Tryd.underlying4
  a4 := Tryd.isAgg4
  z4 := Tryd.sizeOf4
  v4 := Tryd.zeroValue4
  t5 := Tryd.underlying5
  a5 := Tryd.isAgg5
  z5 := Tryd.sizeOf5
  v5 := Tryd.zeroValue5
  t9 := Tryd.underlying9
  a9 := Tryd.isAgg9
  z9 := Tryd.sizeOf9
  v9 := Tryd.zeroValue9
  t20 := Tryd.underlying20
  a20 := Tryd.isAgg20
  z20 := Tryd.sizeOf20
  v20 := Tryd.zeroValue20
  t37 := Tryd.underlying88
  a37 := Tryd.isAgg88
  z37 := Tryd.sizeOf88
  v37 := Tryd.zeroValue88
  t46 := Tryd.underlying92
  a46 := Tryd.isAgg92
  z46 := Tryd.sizeOf92
  v46 := Tryd.zeroValue92
  t51 := Tryd.underlying84
  a51 := Tryd.isAgg84
  z51 := Tryd.sizeOf84
  v51 := Tryd.zeroValue84
  t53 := Tryd.underlying91
  a53 := Tryd.isAgg91
  z53 := Tryd.sizeOf91
  v53 := Tryd.zeroValue91
  t171 := Tryd.underlying106
  a171 := Tryd.isAgg106
  z171 := Tryd.sizeOf106
  v171 := Tryd.zeroValue106
  t173 := Tryd.underlying109
  a173 := Tryd.isAgg109
  z173 := Tryd.sizeOf109
  v173 := Tryd.zeroValue109
  t212 := Tryd.underlying112
  a212 := Tryd.isAgg112
  z212 := Tryd.sizeOf112
  v212 := Tryd.zeroValue112
  t213 := Tryd.underlying113
  a213 := Tryd.isAgg113
  z213 := Tryd.sizeOf113
  t232 := Tryd.underlying116
  a232 := Tryd.isAgg116
  z232 := Tryd.sizeOf116
  v232 := Tryd.zeroValue116
  t233 := Tryd.underlying117
  a233 := Tryd.isAgg117
  z233 := Tryd.sizeOf117
  v233 := Tryd.zeroValue117
  g17 := by kernel_rfl
  g18 := by kernel_rfl
  g19 := by kernel_rfl
  i0 := by kernel_rfl
  i2 := by kernel_rfl
  i3 := by kernel_rfl
  i4 := by kernel_rfl
  i5 := by kernel_rfl
  i9 := by kernel_rfl
  i20 := by kernel_rfl
  i37 := by kernel_rfl
  i46 := by kernel_rfl
  i51 := by kernel_rfl
  i53 := by kernel_rfl
  i171 := by kernel_rfl
  i173 := by kernel_rfl
  i212 := by kernel_rfl
  i232 := by kernel_rfl
  i233 := by kernel_rfl
  m17 := by kernel_rfl
  m18 := by kernel_rfl
  m19 := by kernel_rfl }
open Go.RowKit Go.Sort Go.Lib in
theorem Tryd.internal_strconv_FormatInt_10 (n : Int) (h0 : -9223372036854775808 ≤ n) (h1 : n ≤ 9223372036854775807) (w : World) (htab : Lib.TabIs Tryd.prog w "internal/strconv.uint64pow10" .u64 Lib.pow10Tab) :
    Calls Tryd.prog 78 #[.int .i64 n, .int .i64 10] w fun e w' => e = .returned (.string ⟨(Lib.itoa n).toArray⟩) ∧ ∃ k os, w' = grow (w.drewN k) os := Any.internal_strconv_FormatInt_10 Tryd.laysM246 n h0 h1 w htab
def Tryd.lays246_ren : Go.Shelf.Ren := ⟨fun | 246 => 78 | 283 => 82 | 284 => 83 | 285 => 84 | 286 => 85 | 129 => 88 | 317 => 87 | 318 => 89 | 319 => 90 | 320 => 91 | 337 => 93 | 338 => 94 | n => n, fun | 2 => 2 | 3 => 3 | 9 => 9 | 4 => 4 | 171 => 106 | 0 => 0 | 53 => 91 | 37 => 88 | 5 => 5 | 173 => 109 | 212 => 112 | 51 => 84 | 20 => 20 | 213 => 113 | 46 => 92 | 232 => 116 | 233 => 117 | n => n, fun | 17 => 13 | 18 => 14 | 19 => 15 | n => n⟩
theorem Tryd.lays246 : Go.Proofs.Lays.n246 Tryd.prog Tryd.lays246_ren := {
  mixed := by kernel_rfl
  f129 := Tryd.func88.trans (congrArg some (by kernel_rfl))
  f246 := Tryd.func78.trans (congrArg some (by kernel_rfl))
  f283 := Tryd.func82.trans (congrArg some (by kernel_rfl))
  f284 := Tryd.func83.trans (congrArg some (by kernel_rfl))
  f285 := Tryd.func84.trans (congrArg some (by kernel_rfl))
  f286 := Tryd.func85.trans (congrArg some (by kernel_rfl))
  f317 := Tryd.func87.trans (congrArg some (by kernel_rfl))
  f318 := Tryd.func89.trans (congrArg some (by kernel_rfl))
  f319 := Tryd.func90.trans (congrArg some (by kernel_rfl))
  f320 := Tryd.func91.trans (congrArg some (by kernel_rfl))
  f337 := Tryd.func93.trans (congrArg some (by kernel_rfl))
  f338 := Tryd.func94.trans (congrArg some (by kernel_rfl))
  t0 := Tryd.underlying0
  a0 := Tryd.isAgg0
  z0 := Tryd.sizeOf0
  v0 := Tryd.zeroValue0
  t2 := Tryd.underlying2
  a2 := Tryd.isAgg2
  z2 := Tryd.sizeOf2
  v2 := Tryd.zeroValue2
  t3 := Tryd.underlying3
  a3 := Tryd.isAgg3
  z3 := Tryd.sizeOf3
  v3 := Tryd.zeroValue3
  t4 := Tryd.underlying4
  a4 := Tryd.isAgg4
  z4 := Tryd.sizeOf4
  v4 := Tryd.zeroValue4
  t5 := Tryd.underlying5
  a5 := Tryd.isAgg5
  z5 := Tryd.sizeOf5
  v5 := Tryd.zeroValue5
  t9 := Tryd.underlying9
  a9 := Tryd.isAgg9
  z9 := Tryd.sizeOf9
  v9 := Tryd.zeroValue9
  t20 := Tryd.underlying20
  a20 := Tryd.isAgg20
  z20 := Tryd.sizeOf20
  v20 := Tryd.zeroValue20
  t37 := Tryd.underlying88
  a37 := Tryd.isAgg88
  z37 := Tryd.sizeOf88
  v37 := Tryd.zeroValue88
  t46 := Tryd.underlying92
  a46 := Tryd.isAgg92
  z46 := Tryd.sizeOf92
  v46 := Tryd.zeroValue92
  t51 := Tryd.underlying84
  a51 := Tryd.isAgg84
  z51 := Tryd.sizeOf84
  v51 := Tryd.zeroValue84
  t53 := Tryd.underlying91
  a53 := Tryd.isAgg91
  z53 := Tryd.sizeOf91
  v53 := Tryd.zeroValue91
  t171 := Tryd.underlying106
  a171 := Tryd.isAgg106
  z171 := Tryd.sizeOf106
  v171 := Tryd.zeroValue106
  t173 := Tryd.underlying109
  a173 := Tryd.isAgg109
  z173 := Tryd.sizeOf109
  v173 := Tryd.zeroValue109
  t212 := Tryd.underlying112
  a212 := Tryd.isAgg112
  z212 := Tryd.sizeOf112
  v212 := Tryd.zeroValue112
  t213 := Tryd.underlying113
  a213 := Tryd.isAgg113
  z213 := Tryd.sizeOf113
  t232 := Tryd.underlying116
  a232 := Tryd.isAgg116
  z232 := Tryd.sizeOf116
  v232 := Tryd.zeroValue116
  t233 := Tryd.underlying117
  a233 := Tryd.isAgg117
  z233 := Tryd.sizeOf117
  v233 := Tryd.zeroValue117
  g17 := by kernel_rfl
  g18 := by kernel_rfl
  g19 := by kernel_rfl }
open Go.RowKit Go.Sort Go.Lib in
theorem Tryd.internal_strconv_FormatInt_10_small (i : Nat) (hi : i < 100) (w : World) :
    Calls Tryd.prog 78 #[.int .i64 i, .int .i64 10] w fun e w' => e = .returned (.string ⟨(Lib.decDigits i).toArray⟩) ∧ w' = w := Any.internal_strconv_FormatInt_10_small Tryd.lays246 i hi w
def Tryd.laysM243_ren : Go.Shelf.Ren := ⟨fun | 243 => 65 | 246 => 78 | 283 => 82 | 284 => 83 | 285 => 84 | 286 => 85 | 129 => 88 | 317 => 87 | 318 => 89 | 319 => 90 | 320 => 91 | 337 => 93 | 338 => 94 | n => n, fun | 3 => 3 | 9 => 9 | 2 => 2 | 4 => 4 | 171 => 106 | 0 => 0 | 53 => 91 | 37 => 88 | 5 => 5 | 173 => 109 | 212 => 112 | 51 => 84 | 20 => 20 | 213 => 113 | 46 => 92 | 232 => 116 | 233 => 117 | n => n, fun | 17 => 13 | 18 => 14 | 19 => 15 | n => n⟩
theorem Tryd.laysM243 : Go.Proofs.LaysM.n243 Tryd.prog Tryd.laysM243_ren := {
  mixed := by kernel_rfl
  f129 := Tryd.func88.trans (congrArg some (by kernel_rfl))
  f243 := Tryd.func65.trans (congrArg some (by kernel_rfl))
  f246 := Tryd.func78.trans (congrArg some (by kernel_rfl))
  f283 := Tryd.func82.trans (congrArg some (by kernel_rfl))
  f284 := Tryd.func83.trans (congrArg some (by kernel_rfl))
  f285 := Tryd.func84.trans (congrArg some (by kernel_rfl))
  f286 := Tryd.func85.trans (congrArg some (by kernel_rfl))
  f317 := Tryd.func87.trans (congrArg some (by kernel_rfl))
  f318 := Tryd.func89.trans (congrArg some (by kernel_rfl))
  f319 := Tryd.func90.trans (congrArg some (by kernel_rfl))
  f320 := Tryd.func91.trans (congrArg some (by kernel_rfl))
  f337 := Tryd.func93.trans (congrArg some (by kernel_rfl))
  f338 := Tryd.func94.trans (congrArg some (by kernel_rfl))
  t0 := Tryd.underlying0
  a0 := Tryd.isAgg0
  z0 := Tryd.sizeOf0
  v0 := Tryd.zeroValue0
  t2 := Tryd.underlying2
  a2 := Tryd.isAgg2
  z2 := Tryd.sizeOf2
  v2 := Tryd.zeroValue2
  t3 := Tryd.underlying3
  a3 := Tryd.isAgg3
  z3 := Tryd.sizeOf3
  v3 := Tryd.zeroValue3
  t4 := Tryd.underlying4
  a4 := Tryd.isAgg4
  z4 := Tryd.sizeOf4
  v4 := Tryd.zeroValue4
  t5 := Tryd.underlying5
  a5 := Tryd.isAgg5
  z5 := Tryd.sizeOf5
  v5 := Tryd.zeroValue5
  t9 := Tryd.underlying9
  a9 := Tryd.isAgg9
  z9 := Tryd.sizeOf9
  v9 := Tryd.zeroValue9
  t20 := Tryd.underlying20
  a20 := Tryd.isAgg20
  z20 := Tryd.sizeOf20
  v20 := Tryd.zeroValue20
  t37 := Tryd.underlying88
  a37 := Tryd.isAgg88
  z37 := Tryd.sizeOf88
  v37 := Tryd.zeroValue88
  t46 := Tryd.underlying92
  a46 := Tryd.isAgg92
  z46 := Tryd.sizeOf92
  v46 := Tryd.zeroValue92
  t51 := Tryd.underlying84
  a51 := Tryd.isAgg84
  z51 := Tryd.sizeOf84
  v51 := Tryd.zeroValue84
  t53 := Tryd.underlying91
  a53 := Tryd.isAgg91
  z53 := Tryd.sizeOf91
  v53 := Tryd.zeroValue91
  t171 := Tryd.underlying106
  a171 := Tryd.isAgg106
  z171 := Tryd.sizeOf106
  v171 := Tryd.zeroValue106
  t173 := Tryd.underlying109
  a173 := Tryd.isAgg109
  z173 := Tryd.sizeOf109
  v173 := Tryd.zeroValue109
  t212 := Tryd.underlying112
  a212 := Tryd.isAgg112
  z212 := Tryd.sizeOf112
  v212 := Tryd.zeroValue112
  t213 := Tryd.underlying113
  a213 := Tryd.isAgg113
  z213 := Tryd.sizeOf113
  t232 := Tryd.underlying116
  a232 := Tryd.isAgg116
  z232 := Tryd.sizeOf116
  v232 := Tryd.zeroValue116
  t233 := Tryd.underlying117
  a233 := Tryd.isAgg117
  z233 := Tryd.sizeOf117
  v233 := Tryd.zeroValue117
  g17 := by kernel_rfl
  g18 := by kernel_rfl
  g19 := by kernel_rfl
  i0 := by kernel_rfl
  i2 := by kernel_rfl
  i3 := by kernel_rfl
  i4 := by kernel_rfl
  i5 := by kernel_rfl
  i9 := by kernel_rfl
  i20 := by kernel_rfl
  i37 := by kernel_rfl
  i46 := by kernel_rfl
  i51 := by kernel_rfl
  i53 := by kernel_rfl
  i171 := by kernel_rfl
  i173 := by kernel_rfl
  i212 := by kernel_rfl
  i232 := by kernel_rfl
  i233 := by kernel_rfl
  m17 := by kernel_rfl
  m18 := by kernel_rfl
  m19 := by kernel_rfl }
open Go.RowKit Go.Sort Go.Lib in
theorem Tryd.internal_strconv_Itoa (n : Int) (h0 : -9223372036854775808 ≤ n) (h1 : n ≤ 9223372036854775807) (w : World) (htab : Lib.TabIs Tryd.prog w "internal/strconv.uint64pow10" .u64 Lib.pow10Tab) :
    Calls Tryd.prog 65 #[.int .i64 n] w fun e w' => e = .returned (.string ⟨(Lib.itoa n).toArray⟩) ∧ ∃ k os, w' = grow (w.drewN k) os := Any.internal_strconv_Itoa Tryd.laysM243 n h0 h1 w htab
def Tryd.lays243_ren : Go.Shelf.Ren := ⟨fun | 243 => 65 | 246 => 78 | 283 => 82 | 284 => 83 | 285 => 84 | 286 => 85 | 129 => 88 | 317 => 87 | 318 => 89 | 319 => 90 | 320 => 91 | 337 => 93 | 338 => 94 | n => n, fun | 3 => 3 | 9 => 9 | 2 => 2 | 4 => 4 | 171 => 106 | 0 => 0 | 53 => 91 | 37 => 88 | 5 => 5 | 173 => 109 | 212 => 112 | 51 => 84 | 20 => 20 | 213 => 113 | 46 => 92 | 232 => 116 | 233 => 117 | n => n, fun | 17 => 13 | 18 => 14 | 19 => 15 | n => n⟩
theorem Tryd.lays243 : Go.Proofs.Lays.n243 Tryd.prog Tryd.lays243_ren := {
  mixed := by kernel_rfl
  f129 := Tryd.func88.trans (congrArg some (by kernel_rfl))
  f243 := Tryd.func65.trans (congrArg some (by kernel_rfl))
  f246 := Tryd.func78.trans (congrArg some (by kernel_rfl))
  f283 := Tryd.func82.trans (congrArg some (by kernel_rfl))
  f284 := Tryd.func83.trans (congrArg some (by kernel_rfl))
  f285 := Tryd.func84.trans (congrArg some (by kernel_rfl))
  f286 := Tryd.func85.trans (congrArg some (by kernel_rfl))
  f317 := Tryd.func87.trans (congrArg some (by kernel_rfl))
  f318 := Tryd.func89.trans (congrArg some (by kernel_rfl))
  f319 := Tryd.func90.trans (congrArg some (by kernel_rfl))
  f320 := Tryd.func91.trans (congrArg some (by kernel_rfl))
  f337 := Tryd.func93.trans (congrArg some (by kernel_rfl))
  f338 := Tryd.func94.trans (congrArg some (by kernel_rfl))
  t0 := Tryd.underlying0
  a0 := Tryd.isAgg0
  z0 := Tryd.sizeOf0
  v0 := Tryd.zeroValue0
  t2 := Tryd.underlying2
  a2 := Tryd.isAgg2
  z2 := Tryd.sizeOf2
  v2 := Tryd.zeroValue2
  t3 := Tryd.underlying3
  a3 := Tryd.isAgg3
  z3 := Tryd.sizeOf3
  v3 := Tryd.zeroValue3
  t4 := Tryd.underlying4
  a4 := Tryd.isAgg4
  z4 := Tryd.sizeOf4
  v4 := Tryd.zeroValue4
  t5 := Tryd.underlying5
  a5 := Tryd.isAgg5
  z5 := Tryd.sizeOf5
  v5 := Tryd.zeroValue5
  t9 := Tryd.underlying9
  a9 := Tryd.isAgg9
  z9 := Tryd.sizeOf9
  v9 := Tryd.zeroValue9
  t20 := Tryd.underlying20
  a20 := Tryd.isAgg20
  z20 := Tryd.sizeOf20
  v20 := Tryd.zeroValue20
  t37 := Tryd.underlying88
  a37 := Tryd.isAgg88
  z37 := Tryd.sizeOf88
  v37 := Tryd.zeroValue88
  t46 := Tryd.underlying92
  a46 := Tryd.isAgg92
  z46 := Tryd.sizeOf92
  v46 := Tryd.zeroValue92
  t51 := Tryd.underlying84
  a51 := Tryd.isAgg84
  z51 := Tryd.sizeOf84
  v51 := Tryd.zeroValue84
  t53 := Tryd.underlying91
  a53 := Tryd.isAgg91
  z53 := Tryd.sizeOf91
  v53 := Tryd.zeroValue91
  t171 := Tryd.underlying106
  a171 := Tryd.isAgg106
  z171 := Tryd.sizeOf106
  v171 := Tryd.zeroValue106
  t173 := Tryd.underlying109
  a173 := Tryd.isAgg109
  z173 := Tryd.sizeOf109
  v173 := Tryd.zeroValue109
  t212 := Tryd.underlying112
  a212 := Tryd.isAgg112
  z212 := Tryd.sizeOf112
  v212 := Tryd.zeroValue112
  t213 := Tryd.underlying113
  a213 := Tryd.isAgg113
  z213 := Tryd.sizeOf113
  t232 := Tryd.underlying116
  a232 := Tryd.isAgg116
  z232 := Tryd.sizeOf116
  v232 := Tryd.zeroValue116
  t233 := Tryd.underlying117
  a233 := Tryd.isAgg117
  z233 := Tryd.sizeOf117
  v233 := Tryd.zeroValue117
  g17 := by kernel_rfl
  g18 := by kernel_rfl
  g19 := by kernel_rfl }
open Go.RowKit Go.Sort Go.Lib in
theorem Tryd.internal_strconv_Itoa_small (i : Nat) (hi : i < 100) (w : World) :
    Calls Tryd.prog 65 #[.int .i64 i] w fun e w' => e = .returned (.string ⟨(Lib.decDigits i).toArray⟩) ∧ w' = w := Any.internal_strconv_Itoa_small Tryd.lays243 i hi w
def Tryd.laysM171_ren : Go.Shelf.Ren := ⟨fun | 171 => 50 | 243 => 65 | 246 => 78 | 283 => 82 | 284 => 83 | 285 => 84 | 286 => 85 | 129 => 88 | 317 => 87 | 318 => 89 | 319 => 90 | 320 => 91 | 337 => 93 | 338 => 94 | n => n, fun | 3 => 3 | 9 => 9 | 2 => 2 | 4 => 4 | 171 => 106 | 0 => 0 | 53 => 91 | 37 => 88 | 5 => 5 | 173 => 109 | 212 => 112 | 51 => 84 | 20 => 20 | 213 => 113 | 46 => 92 | 232 => 116 | 233 => 117 | n => n, fun | 17 => 13 | 18 => 14 | 19 => 15 | n => n⟩
theorem Tryd.laysM171 : Go.Proofs.LaysM.n171 Tryd.prog Tryd.laysM171_ren := {
  mixed := by kernel_rfl
  f129 := Tryd.func88.trans (congrArg some (by kernel_rfl))
  f171 := Tryd.func50.trans (congrArg some (by kernel_rfl))
  f243 := Tryd.func65.trans (congrArg some (by kernel_rfl))
  f246 := Tryd.func78.trans (congrArg some (by kernel_rfl))
  f283 := Tryd.func82.trans (congrArg some (by kernel_rfl))
  f284 := Tryd.func83.trans (congrArg some (by kernel_rfl))
  f285 := Tryd.func84.trans (congrArg some (by kernel_rfl))
  f286 := Tryd.func85.trans (congrArg some (by kernel_rfl))
  f317 := Tryd.func87.trans (congrArg some (by kernel_rfl))
  f318 := Tryd.func89.trans (congrArg some (by kernel_rfl))
  f319 := Tryd.func90.trans (congrArg some (by kernel_rfl))
  f320 := Tryd.func91.trans (congrArg some (by kernel_rfl))
  f337 := Tryd.func93.trans (congrArg some (by kernel_rfl))
  f338 := Tryd.func94.trans (congrArg some (by kernel_rfl))
  t0 := Tryd.underlying0
  a0 := Tryd.isAgg0
  z0 := Tryd.sizeOf0
  v0 := Tryd.zeroValue0
  t2 := Tryd.underlying2
  a2 := Tryd.isAgg2
  z2 := Tryd.sizeOf2
  v2 := Tryd.zeroValue2
  t3 := Tryd.underlying3
  a3 := Tryd.isAgg3
  z3 := Tryd.sizeOf3
  v3 := Tryd.zeroValue3
  t4 := Tryd.underlying4
  a4 := Tryd.isAgg4
  z4 := Tryd.sizeOf4
  v4 := Tryd.zeroValue4
  t5 := Tryd.underlying5
  a5 := Tryd.isAgg5
  z5 := Tryd.sizeOf5
  v5 := Tryd.zeroValue5
  t9 := Tryd.underlying9
  a9 := Tryd.isAgg9
  z9 := Tryd.sizeOf9
  v9 := Tryd.zeroValue9
  t20 := Tryd.underlying20
  a20 := Tryd.isAgg20
  z20 := Tryd.sizeOf20
  v20 := Tryd.zeroValue20
  t37 := Tryd.underlying88
  a37 := Tryd.isAgg88
  z37 := Tryd.sizeOf88
  v37 := Tryd.zeroValue88
  t46 := Tryd.underlying92
  a46 := Tryd.isAgg92
  z46 := Tryd.sizeOf92
  v46 := Tryd.zeroValue92
  t51 := Tryd.underlying84
  a51 := Tryd.isAgg84
  z51 := Tryd.sizeOf84
  v51 := Tryd.zeroValue84
  t53 := Tryd.underlying91
  a53 := Tryd.isAgg91
  z53 := Tryd.sizeOf91
  v53 := Tryd.zeroValue91
  t171 := Tryd.underlying106
  a171 := Tryd.isAgg106
  z171 := Tryd.sizeOf106
  v171 := Tryd.zeroValue106
  t173 := Tryd.underlying109
  a173 := Tryd.isAgg109
  z173 := Tryd.sizeOf109
  v173 := Tryd.zeroValue109
  t212 := Tryd.underlying112
  a212 := Tryd.isAgg112
  z212 := Tryd.sizeOf112
  v212 := Tryd.zeroValue112
  t213 := Tryd.underlying113
  a213 := Tryd.isAgg113
  z213 := Tryd.sizeOf113
  t232 := Tryd.underlying116
  a232 := Tryd.isAgg116
  z232 := Tryd.sizeOf116
  v232 := Tryd.zeroValue116
  t233 := Tryd.underlying117
  a233 := Tryd.isAgg117
  z233 := Tryd.sizeOf117
  v233 := Tryd.zeroValue117
  g17 := by kernel_rfl
  g18 := by kernel_rfl
  g19 := by kernel_rfl
  i0 := by kernel_rfl
  i2 := by kernel_rfl
  i3 := by kernel_rfl
  i4 := by kernel_rfl
  i5 := by kernel_rfl
  i9 := by kernel_rfl
  i20 := by kernel_rfl
  i37 := by kernel_rfl
  i46 := by kernel_rfl
  i51 := by kernel_rfl
  i53 := by kernel_rfl
  i171 := by kernel_rfl
  i173 := by kernel_rfl
  i212 := by kernel_rfl
  i232 := by kernel_rfl
  i233 := by kernel_rfl
  m17 := by kernel_rfl
  m18 := by kernel_rfl
  m19 := by kernel_rfl }
open Go.RowKit Go.Sort Go.Lib in
theorem Tryd.strconv_Itoa (n : Int) (h0 : -9223372036854775808 ≤ n) (h1 : n ≤ 9223372036854775807) (w : World) (htab : Lib.TabIs Tryd.prog w "internal/strconv.uint64pow10" .u64 Lib.pow10Tab) :
    Calls Tryd.prog 50 #[.int .i64 n] w fun e w' => e = .returned (.string ⟨(Lib.itoa n).toArray⟩) ∧ ∃ k os, w' = grow (w.drewN k) os := Any.strconv_Itoa Tryd.laysM171 n h0 h1 w htab
def Tryd.lays171_ren : Go.Shelf.Ren := ⟨fun | 171 => 50 | 243 => 65 | 246 => 78 | 283 => 82 | 284 => 83 | 285 => 84 | 286 => 85 | 129 => 88 | 317 => 87 | 318 => 89 | 319 => 90 | 320 => 91 | 337 => 93 | 338 => 94 | n => n, fun | 3 => 3 | 9 => 9 | 2 => 2 | 4 => 4 | 171 => 106 | 0 => 0 | 53 => 91 | 37 => 88 | 5 => 5 | 173 => 109 | 212 => 112 | 51 => 84 | 20 => 20 | 213 => 113 | 46 => 92 | 232 => 116 | 233 => 117 | n => n, fun | 17 => 13 | 18 => 14 | 19 => 15 | n => n⟩
theorem Tryd.lays171 : Go.Proofs.Lays.n171 Tryd.prog Tryd.lays171_ren := {
  mixed := by kernel_rfl
  f129 := Tryd.func88.trans (congrArg some (by kernel_rfl))
  f171 := Tryd.func50.trans (congrArg some (by kernel_rfl))
  f243 := Tryd.func65.trans (congrArg some (by kernel_rfl))
  f246 := Tryd.func78.trans (congrArg some (by kernel_rfl))
  f283 := Tryd.func82.trans (congrArg some (by kernel_rfl))
  f284 := Tryd.func83.trans (congrArg some (by kernel_rfl))
  f285 := Tryd.func84.trans (congrArg some (by kernel_rfl))
  f286 := Tryd.func85.trans (congrArg some (by kernel_rfl))
  f317 := Tryd.func87.trans (congrArg some (by kernel_rfl))
  f318 := Tryd.func89.trans (congrArg some (by kernel_rfl))
  f319 := Tryd.func90.trans (congrArg some (by kernel_rfl))
  f320 := Tryd.func91.trans (congrArg some (by kernel_rfl))
  f337 := Tryd.func93.trans (congrArg some (by kernel_rfl))
  f338 := Tryd.func94.trans (congrArg some (by kernel_rfl))
  t0 := Tryd.underlying0
  a0 := Tryd.isAgg0
  z0 := Tryd.sizeOf0
  v0 := Tryd.zeroValue0
  t2 := Tryd.underlying2
  a2 := Tryd.isAgg2
  z2 := Tryd.sizeOf2
  v2 := Tryd.zeroValue2
  t3 := Tryd.underlying3
  a3 := Tryd.isAgg3
  z3 := Tryd.sizeOf3
  v3 := Tryd.zeroValue3
  t4 := Tryd.underlying4
  a4 := Tryd.isAgg4
  z4 := Tryd.sizeOf4
  v4 := Tryd.zeroValue4
  t5 := Tryd.underlying5
  a5 := Tryd.isAgg5
  z5 := Tryd.sizeOf5
  v5 := Tryd.zeroValue5
  t9 := Tryd.underlying9
  a9 := Tryd.isAgg9
  z9 := Tryd.sizeOf9
  v9 := Tryd.zeroValue9
  t20 := Tryd.underlying20
  a20 := Tryd.isAgg20
  z20 := Tryd.sizeOf20
  v20 := Tryd.zeroValue20
  t37 := Tryd.underlying88
  a37 := Tryd.isAgg88
  z37 := Tryd.sizeOf88
  v37 := Tryd.zeroValue88
  t46 := Tryd.underlying92
  a46 := Tryd.isAgg92
  z46 := Tryd.sizeOf92
  v46 := Tryd.zeroValue92
  t51 := Tryd.underlying84
  a51 := Tryd.isAgg84
  z51 := Tryd.sizeOf84
  v51 := Tryd.zeroValue84
  t53 := Tryd.underlying91
  a53 := Tryd.isAgg91
  z53 := Tryd.sizeOf91
  v53 := Tryd.zeroValue91
  t171 := Tryd.underlying106
  a171 := Tryd.isAgg106
  z171 := Tryd.sizeOf106
  v171 := Tryd.zeroValue106
  t173 := Tryd.underlying109
  a173 := Tryd.isAgg109
  z173 := Tryd.sizeOf109
  v173 := Tryd.zeroValue109
  t212 := Tryd.underlying112
  a212 := Tryd.isAgg112
  z212 := Tryd.sizeOf112
  v212 := Tryd.zeroValue112
  t213 := Tryd.underlying113
  a213 := Tryd.isAgg113
  z213 := Tryd.sizeOf113
  t232 := Tryd.underlying116
  a232 := Tryd.isAgg116
  z232 := Tryd.sizeOf116
  v232 := Tryd.zeroValue116
  t233 := Tryd.underlying117
  a233 := Tryd.isAgg117
  z233 := Tryd.sizeOf117
  v233 := Tryd.zeroValue117
  g17 := by kernel_rfl
  g18 := by kernel_rfl
  g19 := by kernel_rfl }
open Go.RowKit Go.Sort Go.Lib in
theorem Tryd.strconv_Itoa_small (i : Nat) (hi : i < 100) (w : World) :
    Calls Tryd.prog 50 #[.int .i64 i] w fun e w' => e = .returned (.string ⟨(Lib.decDigits i).toArray⟩) ∧ w' = w := Any.strconv_Itoa_small Tryd.lays171 i hi w
def Tryd.lays108_ren : Go.Shelf.Ren := ⟨fun | 108 => 54 | n => n, fun | 28 => 22 | 3 => 3 | 0 => 0 | 4 => 4 | n => n, fun | n => n⟩
theorem Tryd.lays108 : Go.Proofs.Lays.n108 Tryd.prog Tryd.lays108_ren := {
  mixed := by kernel_rfl
  f108 := Tryd.func54.trans (congrArg some (by kernel_rfl))
  t0 := Tryd.underlying0
  a0 := Tryd.isAgg0
  z0 := Tryd.sizeOf0
  v0 := Tryd.zeroValue0
  t3 := Tryd.underlying3
  a3 := Tryd.isAgg3
  z3 := Tryd.sizeOf3
  v3 := Tryd.zeroValue3
  t4 := Tryd.underlying4
  a4 := Tryd.isAgg4
  z4 := Tryd.sizeOf4
  v4 := Tryd.zeroValue4
  t28 := Tryd.underlying22
  a28 := Tryd.isAgg22
  z28 := Tryd.sizeOf22
  v28 := Tryd.zeroValue22 }
open Go.Lib in
theorem Tryd.slices_Index_int (b off n c : Nat) (zs : List Int) (x : Int) (w : World) (hz : n ≤ zs.length) (hbig : n ≤ 9223372036854775807) (hc : ∀ j, j < zs.length → w.cell? ⟨b, off + j, none⟩ = some (.int .i64 (zs.getD j 0))) :
    Calls Tryd.prog 54 #[.slice (some ⟨b, off, none⟩) n c, .int .i64 x] w fun e w' => e = .returned (.int .i64 (Lib.idxOf (zs.take n) x)) ∧ w' = w := Any.slices_Index_int Tryd.lays108 b off n c zs x w hz hbig hc
open Go.Lib in
theorem Tryd.slices_Index_int_empty (a : Option Addr) (c : Nat) (x : Int) (w : World) :
    Calls Tryd.prog 54 #[.slice a 0 c, .int .i64 x] w fun e w' => e = .returned (.int .i64 (Lib.idxOf [] x)) ∧ w' = w := Any.slices_Index_int_empty Tryd.lays108 a c x w
def Tryd.lays112_ren : Go.Shelf.Ren := ⟨fun | 112 => 30 | n => n, fun | 28 => 22 | 3 => 3 | 4 => 4 | 0 => 0 | n => n, fun | n => n⟩
theorem Tryd.lays112 : Go.Proofs.Lays.n112 Tryd.prog Tryd.lays112_ren := {
  mixed := by kernel_rfl
  f112 := Tryd.func30.trans (congrArg some (by kernel_rfl))
  t0 := Tryd.underlying0
  a0 := Tryd.isAgg0
  z0 := Tryd.sizeOf0
  v0 := Tryd.zeroValue0
  t3 := Tryd.underlying3
  a3 := Tryd.isAgg3
  z3 := Tryd.sizeOf3
  v3 := Tryd.zeroValue3
  t4 := Tryd.underlying4
  a4 := Tryd.isAgg4
  z4 := Tryd.sizeOf4
  v4 := Tryd.zeroValue4
  t28 := Tryd.underlying22
  a28 := Tryd.isAgg22
  z28 := Tryd.sizeOf22
  v28 := Tryd.zeroValue22 }
open Go.RowKit Go.Lib Go.Sort in
theorem Tryd.slices_Reverse_int_arr (blk off cap : Nat) (d : Array Int) (w : World) (hH : Holds encI w blk off d) (hsz : d.size ≤ 9223372036854775807) :
    Calls Tryd.prog 30 #[.slice (some ⟨blk, off, none⟩) d.size cap] w fun e w' => e = .returned (.tuple #[]) ∧ ∃ n, w' = putRow encI (Sort.ahead w n) blk off d.reverse := Any.slices_Reverse_int_arr Tryd.lays112 blk off cap d w hH hsz
open Go.RowKit Go.Lib Go.Sort in
theorem Tryd.slices_Reverse_int (blk off cap : Nat) (zs : List Int) (w : World) (hH : Holds (Value.int .i64) w blk off zs.toArray) (hsz : zs.length ≤ 9223372036854775807) :
    Calls Tryd.prog 30 #[.slice (some ⟨blk, off, none⟩) zs.length cap] w fun e w' => e = .returned (.tuple #[]) ∧ ∃ n, w' = putRow (Value.int .i64) (Sort.ahead w n) blk off zs.reverse.toArray := Any.slices_Reverse_int Tryd.lays112 blk off cap zs w hH hsz
open Go.RowKit Go.Lib Go.Sort in
theorem Tryd.slices_Reverse_int_empty (a : Option Addr) (cap : Nat) (w : World) :
    Calls Tryd.prog 30 #[.slice a 0 cap] w fun e w' => e = .returned (.tuple #[]) ∧ w' = w := Any.slices_Reverse_int_empty Tryd.lays112 a cap w
def Tryd.lays111_ren : Go.Shelf.Ren := ⟨fun | 111 => 40 | n => n, fun | 28 => 22 | 3 => 3 | 4 => 4 | 0 => 0 | n => n, fun | n => n⟩
theorem Tryd.lays111 : Go.Proofs.Lays.n111 Tryd.prog Tryd.lays111_ren := {
  mixed := by kernel_rfl
  f111 := Tryd.func40.trans (congrArg some (by kernel_rfl))
  t0 := Tryd.underlying0
  a0 := Tryd.isAgg0
  z0 := Tryd.sizeOf0
  v0 := Tryd.zeroValue0
  t3 := Tryd.underlying3
  a3 := Tryd.isAgg3
  z3 := Tryd.sizeOf3
  v3 := Tryd.zeroValue3
  t4 := Tryd.underlying4
  a4 := Tryd.isAgg4
  z4 := Tryd.sizeOf4
  v4 := Tryd.zeroValue4
  t28 := Tryd.underlying22
  a28 := Tryd.isAgg22
  z28 := Tryd.sizeOf22
  v28 := Tryd.zeroValue22 }
open Go.RowKit Go.Lib in
theorem Tryd.slices_Equal_int (b1 o1 n c b2 o2 m d : Nat) (xs ys : List Int) (w : World) (hx : n ≤ xs.length) (hy : m ≤ ys.length) (hbig : n ≤ 9223372036854775807) (hbig2 : m ≤ 9223372036854775807) (hc1 : ∀ j, j < xs.length → w.cell? ⟨b1, o1 + j, none⟩ = some (.int .i64 (xs.getD j 0))) (hc2 : ∀ j, j < ys.length → w.cell? ⟨b2, o2 + j, none⟩ = some (.int .i64 (ys.getD j 0))) :
    Calls Tryd.prog 40 #[.slice (some ⟨b1, o1, none⟩) n c, .slice (some ⟨b2, o2, none⟩) m d] w fun e w' => e = .returned (.bool (xs.take n == ys.take m)) ∧ ∃ q, w' = w.drewN q := Any.slices_Equal_int Tryd.lays111 b1 o1 n c b2 o2 m d xs ys w hx hy hbig hbig2 hc1 hc2
open Go.RowKit Go.Lib in
theorem Tryd.slices_Equal_int_empty (a1 a2 : Option Addr) (c m d : Nat) (w : World) (hbig2 : m ≤ 9223372036854775807) :
    Calls Tryd.prog 40 #[.slice a1 0 c, .slice a2 m d] w fun e w' => e = .returned (.bool (decide (m = 0))) ∧ w' = w := Any.slices_Equal_int_empty Tryd.lays111 a1 a2 c m d w hbig2
def Tryd.laysNm215_ren : Go.Shelf.Ren := ⟨fun | 15 => 29 | n => n, fun | 22 => 22 | 3 => 3 | 4 => 4 | n => n, fun | n => n⟩
theorem Tryd.laysNm215 : Go.Proofs.Lays2.n15 Tryd.prog Tryd.laysNm215_ren := {
  mixed := by kernel_rfl
  f15 := Tryd.func29.trans (congrArg some (by kernel_rfl))
  t3 := Tryd.underlying3
  a3 := Tryd.isAgg3
  z3 := Tryd.sizeOf3
  v3 := Tryd.zeroValue3
  t4 := Tryd.underlying4
  a4 := Tryd.isAgg4
  z4 := Tryd.sizeOf4
  v4 := Tryd.zeroValue4
  t22 := Tryd.underlying22
  a22 := Tryd.isAgg22
  z22 := Tryd.sizeOf22
  v22 := Tryd.zeroValue22
  i3 := by kernel_rfl }
open Go.RowKit Go.Lib in
theorem Tryd.slices_Clone_int (b off n c : Nat) (zs : List Int) (w : World) (hz : n ≤ zs.length) (hbig : n * 8 ≤ 140737488355328) (hc : ∀ j, j < zs.length → w.cell? ⟨b, off + j, none⟩ = some (.int .i64 (zs.getD j 0))) :
    Calls Tryd.prog 29 #[.slice (some ⟨b, off, none⟩) n c] w fun e w' => ∃ v', e = .returned v' ∧ w'.ownsRow w.heap.size 3 1 v' n ((zs.take n).map (Value.int .i64)) ∧ v' ≠ .slice none 0 0 ∧ Below w.heap.size w w' := Any.slices_Clone_int Tryd.laysNm215 b off n c zs w hz hbig hc
open Go.RowKit Go.Lib in
theorem Tryd.slices_Clone_int_nil (n c : Nat) (w : World) :
    Calls Tryd.prog 29 #[.slice none n c] w fun e w' => e = .returned (.slice none 0 0) ∧ w' = w := Any.slices_Clone_int_nil Tryd.laysNm215 n c w
open Go.RowKit Go.Lib in
theorem Tryd.slices_Clone_int_zero (a : Addr) (c : Nat) (w : World) :
    Calls Tryd.prog 29 #[.slice (some a) 0 c] w fun e w' => ∃ v', e = .returned v' ∧ w'.ownsRow w.heap.size 3 1 v' 0 [] ∧ v' ≠ .slice none 0 0 ∧ Below w.heap.size w w' := Any.slices_Clone_int_zero Tryd.laysNm215 a c w
open Go.RowKit Go.Lib Go.Sort in
theorem Tryd.slices_Reverse_int_cells (b off n c : Nat) (zs : List Int) (w : World) (hz : n ≤ zs.length) (hbig : n ≤ 9223372036854775807) (hc : ∀ j, j < zs.length → w.cell? ⟨b, off + j, none⟩ = some (.int .i64 (zs.getD j 0))) (hf : ∀ j, j < n → w.frozen? ⟨b, off + j, none⟩ = false) :
    Calls Tryd.prog 30 #[.slice (some ⟨b, off, none⟩) n c] w fun e w' => e = .returned (.tuple #[]) ∧ ∃ q, w' = (w.drewN q).setCells b off ((zs.take n).reverse.map (Value.int .i64)) := Any.slices_Reverse_int_cells Tryd.lays112 b off n c zs w hz hbig hc hf
open Go.RowKit Go.Lib in
theorem Tryd.slices_Equal_int_lens (a1 a2 : Option Addr) (n c m d : Nat) (w : World) (hnm : n ≠ m) :
    Calls Tryd.prog 40 #[.slice a1 n c, .slice a2 m d] w fun e w' => e = .returned (.bool false) ∧ w' = w := Any.slices_Equal_int_lens Tryd.lays111 a1 a2 n c m d w hnm
end Go.Proofs
end
section
namespace Go.Proofs.YtienaogmljlmlaaDoor
open Go.RowKit WordM

theorem sizeI : (Tryd.prog.info? 3).map (·.size) = some 1 := by kernel_rfl
theorem cI_one {l : List Int} {v : Value} (h : v ∈ cI l) : v.oneCell' = true := by
  unfold cI at h
  obtain ⟨x, _, rfl⟩ := List.mem_map.1 h
  rfl
/-- the first k of them, the rest 0 -/
def fillW (X : List Int) (k : Nat) : List Int := X.take k ++ List.replicate (X.length - k) 0
theorem fillW_length {X : List Int} {k : Nat} (hk : k ≤ X.length) : (fillW X k).length = X.length := by simp [fillW]; omega
theorem fillW_zero (X : List Int) : fillW X 0 = List.replicate X.length 0 := by simp [fillW]
theorem fillW_all (X : List Int) : fillW X X.length = X := by simp [fillW]
theorem splice_fill {X cs : List Int} {k : Nat} (hk : k + cs.length ≤ X.length) (hcs : ∀ j, j < cs.length → cs[j]? = X[k + j]?) : splice (cI (fillW X k)) k (cI cs) = cI (fillW X (k + cs.length)) := by
  have e : cs = (X.drop k).take cs.length := by
    apply List.ext_getElem?
    intro j
    rw [List.getElem?_take, List.getElem?_drop]
    by_cases hj : j < cs.length
    · rw [if_pos hj, hcs j hj]
    · rw [if_neg hj, List.getElem?_eq_none (by omega)]
  have e2 : X.take (k + cs.length) = X.take k ++ cs := by
    rw [List.take_add]
    congr 1
    exact e.symm
  unfold splice fillW
  rw [e2]
  simp only [cI_app]
  have hl : (cI (X.take k)).length = k := by rw [cI_length, List.length_take]; omega
  rw [List.take_append_of_le_length (by rw [hl]; exact Nat.le_refl _), List.take_of_length_le (by rw [hl]; exact Nat.le_refl _), cI_length, List.drop_append, hl]
  have h0 : (cI (X.take k)).drop (k + cs.length) = [] := List.drop_eq_nil_of_le (by omega)
  rw [h0, List.nil_append, List.append_assoc]
  congr 2
  unfold cI
  rw [← List.map_drop, List.drop_replicate]
  congr 2
  omega
theorem times_shift {l : List Int} {m k j : Nat} (hd : l.length ∣ k) (hj : k + j < m * l.length) : (timesW l m)[j]? = (timesW l m)[k + j]? := by
  rw [timesW_get l m _ hj, timesW_get l m _ (by omega)]
  congr 1
  obtain ⟨q, rfl⟩ := hd
  unfold F
  rw [Nat.mul_add_mod]
theorem times_front {l : List Int} {m j : Nat} (hj : j < l.length) (hm : 1 ≤ m) : l[j]? = (timesW l m)[0 + j]? := by
  rw [Nat.zero_add, timesW_get l m _ (by have := Nat.mul_le_mul_right l.length hm; omega), F_get hj]
/-- block g is a whole list of ints -/
def BlockI (w : World) (g : Nat) (l : List Int) : Prop := w.heap[g]? = some (.cells (cI l).toArray 3 (0, 0))
theorem BlockI.eq {w : World} {g : Nat} {l : List Int} (h : BlockI w g l) : w.heap[g]? = some (.cells (cI l).toArray 3 (0, 0)) := h
theorem BlockI.cell {w : World} {g : Nat} {l : List Int} (h : BlockI w g l) {j : Nat} {x : Int} (hx : l[j]? = some x) : w.cell? ⟨g, j, none⟩ = some (.int .i64 x) := by
  rw [cell_of_row w g j _ _ _ h, List.getElem?_toArray]
  exact cI_get hx
def RepRel (w : World) (l X : List Int) (g : Nat) (v : Value) (wr : World) : Prop :=
  ∃ k : Nat, k ≤ X.length ∧ (0 < X.length → 0 < k) ∧ l.length ∣ k ∧ v = .int .i64 (k : Int) ∧ BlockI wr g (fillW X k) ∧ Below w.heap.size w wr

end Go.Proofs.YtienaogmljlmlaaDoor
end
section
namespace Go.Proofs.YtienaogmljlmlaaDoor
open Go.RowKit Go.Extern.Stop Go.Stop Go.Extern WordM NatM

end Go.Proofs.YtienaogmljlmlaaDoor
end
section
namespace Go.Proofs.YtienaogmljlmlaaDoor
open Go.RowKit Go.Extern.Stop Go.Stop Go.Extern WordM NatM

/-- a number and no error, both new -/
def NumOk (w : World) (n : Nat) (e : Ending) (w' : World) : Prop :=
  ∃ p c, e = .returned (.tuple #[.slice p (D32 n).length c, .nilIface]) ∧ NatO w.heap.size w' p c (D32 n) ∧ Below w.heap.size w w'
theorem valW_len {k : Nat} {l : List Int} (h4 : k ≤ 4) (h : okW k l) : (D32 (valW k l)).length ≤ l.length := by
  apply D32_len
  exact Nat.lt_of_lt_of_le (valW_lt h) (Nat.pow_le_pow_left (by omega) _)
theorem valW_take {k : Nat} {l : List Int} {j : Nat} {x : Int} (h : l[j]? = some x) : valW k (l.take (j + 1)) = valW k (l.take j) * k + x.toNat := by
  rw [List.take_add_one, h]
  exact valW_snoc k _ x
def IndexRel (w : World) (k : Nat) (l : List Int) (v8 v26 : Value) (wr : World) : Prop :=
  ∃ (j : Nat) (p : Option Addr) (c : Nat), j ≤ l.length ∧ v26 = .int .i64 (j : Int) ∧ v8 = .slice p (D32 (valW k (l.take j))).length c ∧ NatO w.heap.size wr p c (D32 (valW k (l.take j))) ∧ Below w.heap.size w wr
set_option maxRecDepth 100000 in
set_option maxHeartbeats 4000000 in
theorem index_ok (k : Nat) (p : Option Addr) (n c : Nat) (l : List Int) (w : World) (hn : n = l.length) (h : IntV w.heap.size w p c l) (hc : chkW k l = none) (h256 : n ≤ 256) :
    Calls Tryd.prog 64 #[.int .i64 (k : Int), .slice p n c] w (NumOk w (valW k l)) := by
  have hck := check_ok (k : Int) p n c l w hn h hc
  obtain ⟨k', hk', h1, h4, hl, ho⟩ := chkW_none hc
  obtain rfl : k = k' := by omega
  have hle := h.le
  have hcap := h.cap
  unfold maxLen at hcap
  have hnc : n ≤ c := by omega
  have H := Lib.hid (And.intro h (And.intro ho hn))
  have HCK := Lib.hid hck
  clear h hc hl ho hck hn hle hk'
  go_enter Tryd.func64, Tryd.ntmps64
  go_wp2_with fail
  refine HCK.out.mono ?_
  rintro e w1 ⟨rfl, hb1⟩
  have HB1 := Lib.hid hb1
  clear hb1
  go_wp2_with fail
  refine (from_any k w1 (by omega)).mono ?_
  rintro e w2 ⟨p7, c7, rfl, ho7, hb2⟩
  have hkl : (D32 k).length ≤ 100000 := by
    have := D32_len (n := k) (k := 1) (by omega)
    omega
  have HB2 := Lib.hid (And.intro (HB1.out.trans (hb2.mono HB1.out.size)) (And.intro ho7.toV hkl))
  clear hb2 ho7 hkl
  go_wp2_with fail
  go_loopw [8, 26] (fun v8 v26 wr => IndexRel w2 k l v8 v26 wr) (fun _ v _ => n - (intOf v).toNat)
  case atStart => exact ⟨0, none, 0, Nat.zero_le _, rfl, by rw [List.take_zero, show valW k [] = 0 from rfl, D32_nil.2 rfl]; rfl, by rw [List.take_zero, show valW k [] = 0 from rfl, D32_nil.2 rfl]; exact NatO.nothing _ _, Below.refl _ _⟩
  case round =>
    obtain ⟨j, q, cq, hj, rfl, rfl, hoq, hb⟩ := hrel
    have hjn : j ≤ n := by have := H.out.2.2; omega
    by_cases hlt : j < n
    · have hnl := H.out.2.2
      obtain ⟨b, off, rfl, hbb, hcc⟩ := ((H.out.1.next HB2.out.1).next hb).cell (by rintro rfl; simp at hnl; omega)
      obtain ⟨x, hx⟩ := getI (l := l) (k := j) (by omega)
      have hcx := hcc j x hx
      have hxo := H.out.2.1 x (List.mem_of_getElem? hx)
      obtain ⟨y, rfl⟩ : ∃ y : Nat, x = (y : Int) := ⟨x.toNat, by omega⟩
      have hst := valW_take (k := k) hx
      rw [Int.toNat_natCast] at hst
      have hvl := valW_len h4 (okW_take H.out.2.1 j)
      have hvl2 := valW_len h4 (okW_take H.out.2.1 (j + 1))
      rw [List.length_take] at hvl hvl2
      obtain ⟨v, hv⟩ : ∃ v, valW k (l.take j) = v := ⟨_, rfl⟩
      rw [hv] at hoq hst hvl ⊢
      have hmul := mul_any q p7 cq c7 (D32 v) (D32 k) wr hoq.toV (HB2.out.2.1.next hb) (by omega) HB2.out.2.2
      rw [V32_D32, V32_D32] at hmul
      have hy4 : y ≤ 4 := by omega
      have hvm : (D32 (v * k)).length ≤ 100000 := by
        have h1 : v * k ≤ v * k + y := Nat.le_add_right _ _
        rw [hst] at hvl2
        rcases Nat.lt_or_ge 100000 (D32 (v * k)).length with h2 | h2
        · have := cmp_len (m := v * k + y) (n := v * k) (by omega)
          omega
        · exact h2
      have HS := Lib.hid (And.intro hst (And.intro hb (And.intro hmul hvm)))
      clear hcc hx hxo hst hvl hvl2 hv hoq hb hmul hvm hnl
      go_wp2_with fail
      refine HS.out.2.2.1.mono ?_
      rintro e w3 ⟨p3, c3, rfl, ho3, hb3⟩
      have HM := Lib.hid (And.intro ho3 hb3)
      clear ho3 hb3
      go_wp2_with fail
      refine (from_any y w3 (by omega)).mono ?_
      rintro e w4 ⟨p4, c4, rfl, ho4, hb4⟩
      have hyl : (D32 y).length ≤ 100000 := by
        have := D32_len (n := y) (k := 1) (by omega)
        omega
      have hadd := add_any p3 p4 c3 c4 (D32 (v * k)) (D32 y) w4 (HM.out.1.toV.next hb4) ho4.toV HS.out.2.2.2 hyl
      rw [V32_D32, V32_D32] at hadd
      have HA := Lib.hid (And.intro hadd (HM.out.2.trans (hb4.mono HM.out.2.size)))
      clear ho4 hb4 hyl hadd
      go_wp2_with fail
      refine HA.out.1.mono ?_
      rintro e w5 ⟨p5, c5, rfl, ho5, hb5⟩
      have hbb5 : Below w2.heap.size w2 w5 := HS.out.2.1.trans ((HA.out.2.trans (hb5.mono HA.out.2.size)).mono HS.out.2.1.size)
      have ho5' : NatO w2.heap.size w5 p5 c5 (D32 (v * k + y)) := ho5.base (Nat.le_trans HS.out.2.1.size HA.out.2.size)
      have HF := Lib.hid (And.intro ho5' hbb5)
      clear ho5 ho5' hb5 hbb5
      go_wp2_with fail
      go_roundw
      case rel => exact ⟨j + 1, p5, c5, by have := H.out.2.2; omega, by go_num, by rw [HS.out.1], by rw [HS.out.1]; exact HF.out.1, HF.out.2⟩
      case measure => simp [intOf]; omega
    · obtain rfl : j = n := by omega
      have he : l.take j = l := by rw [H.out.2.2, List.take_length]
      rw [he] at hoq ⊢
      have HF := Lib.hid (And.intro (hoq.base HB2.out.1.size) (HB2.out.1.trans (hb.mono HB2.out.1.size)))
      clear hoq hb he
      go_wp2_with fail
      go_ret2
      exact ⟨q, cq, rfl, HF.out.1, HF.out.2⟩
set_option maxRecDepth 100000 in
theorem index_bad (k : Int) (p : Option Addr) (n c : Nat) (l : List Int) (w : World) (A : Nat → Addr) (hr : Roots w A) (hn : n = l.length) (h : IntV w.heap.size w p c l) (i m : Nat) (hc : chkW k l = some (i, m)) :
    Calls Tryd.prog 64 #[.int .i64 k, .slice p n c] w (Err2 w A wordOp i m (.slice none 0 0)) := by
  have hck := check_bad k p n c l w A hr hn h i m hc
  have HCK := Lib.hid hck
  clear h hc hck hr hn
  go_enter Tryd.func64, Tryd.ntmps64
  go_wp2_with fail
  refine HCK.out.mono ?_
  rintro e w1 ⟨b, rfl, hl1, hb1⟩
  have H := Lib.hid (And.intro hl1 hb1)
  clear hl1 hb1
  go_wp2_with fail
  go_ret2
  exact ⟨_, rfl, H.out.1, H.out.2⟩
set_option maxRecDepth 100000 in
theorem index_big (k : Int) (p : Option Addr) (n c : Nat) (l : List Int) (w : World) (A : Nat → Addr) (hr : Roots w A) (hn : n = l.length) (h : IntV w.heap.size w p c l) (hc : chkW k l = none) (h256 : 256 < n) (hn2 : n ≤ 9223372036854775807) :
    Calls Tryd.prog 64 #[.int .i64 k, .slice p n c] w (Err2 w A wordOp 0 4 (.slice none 0 0)) := by
  have hck := check_ok k p n c l w hn h hc
  have HCK := Lib.hid (And.intro hck hr)
  clear h hc hck hr hn
  go_enter Tryd.func64, Tryd.ntmps64
  go_wp2_with fail
  refine HCK.out.1.mono ?_
  rintro e w1 ⟨rfl, hb1⟩
  have H1 := Lib.hid (And.intro hb1 (HCK.out.2.below hb1))
  clear hb1
  go_wp2_with fail
  refine (new_at wordOp 0 4 w1 A H1.out.2 (by omega)).mono ?_
  rintro e w2 ⟨b, rfl, hl1, hb2⟩
  have H := Lib.hid (And.intro hl1 (H1.out.1.trans (hb2.mono H1.out.1.size)))
  clear hl1 hb2
  go_wp2_with fail
  go_ret2
  exact ⟨_, rfl, H.out.1, H.out.2⟩
end Go.Proofs.YtienaogmljlmlaaDoor
end
section
namespace Go.Proofs.YtienaogmljlmlaaDoor
open Go.RowKit Go.Extern.Stop Go.Stop Go.Extern WordM NatM

/-- the word of n symbols with this number, and no error -/
def AtOk (w : World) (k n i : Nat) (e : Ending) (w' : World) : Prop := ∃ x : List Int, x.length = n ∧ okW k x ∧ valW k x = i ∧ IntOk w x e w'
def AtRel (w : World) (k n i : Nat) (g : Nat) (v2 v11 : Value) (wr : World) : Prop :=
  ∃ (j R : Nat) (x : List Int) (q : Option Addr) (cq : Nat) (b : List Nat), j ≤ n ∧ v11 = .int .i64 ((j : Int) - 1) ∧ v2 = .slice q b.length cq ∧ V32 b = R ∧ NatV wr.heap.size wr q cq b ∧ b.length ≤ 100000 ∧
    x.length = n - j ∧ okW k x ∧ valW k x + k ^ (n - j) * R = i ∧ IntO w.heap.size wr (some ⟨g, 0, none⟩) n (List.replicate j 0 ++ x) ∧ w.heap.size ≤ g ∧ Below w.heap.size w wr
def OverIs (w : World) (q d : Nat) (e : Ending) (w' : World) : Prop :=
  ∃ p c, e = .returned (.tuple #[.slice p (D32 q).length c, .int .u32 (d : Int), .nilIface]) ∧ NatO w.heap.size w' p c (D32 q) ∧ Below w.heap.size w w'
theorem over_is {w : World} {n d q r : Nat} {e : Ending} {w' : World} (hq : n / d = q) (hr : n % d = r) (h : OverPost w n d e w') : OverIs w q r e w' := by
  subst hq hr
  exact h
theorem set_front {x : List Int} {j : Nat} {v : Int} : (List.replicate (j + 1) (0 : Int) ++ x).set j v = List.replicate j 0 ++ v :: x := by
  rw [List.replicate_succ', List.append_assoc, List.set_append_right _ _ (by simp), List.length_replicate, Nat.sub_self]
  rfl
set_option maxRecDepth 100000 in
set_option maxHeartbeats 4000000 in
theorem at_ok (k n : Nat) (p : Option Addr) (m c : Nat) (a : List Nat) (w : World) (hm : m = a.length) (h : NatV w.heap.size w p c a) (hl : a.length ≤ 100000) (h1 : 1 ≤ k) (h4 : k ≤ 4) (h256 : n ≤ 256) (hlt : V32 a < k ^ n) :
    Calls Tryd.prog 62 #[.int .i64 (k : Int), .int .i64 (n : Int), .slice p m c] w (AtOk w k n (V32 a)) := by
  subst hm
  have hpow := pow_any k n (by omega) (by omega) w
  have hpl : (D32 (k ^ n)).length ≤ 100000 := by
    have h2 : k ^ n ≤ 4294967296 ^ n := Nat.pow_le_pow_left (by omega) n
    have h3 : 4294967296 ^ n < 4294967296 ^ (n + 1) := Nat.pow_lt_pow_right (by omega) (by omega)
    have := D32_len (n := k ^ n) (k := n + 1) (by omega)
    omega
  have hck := cmp_lt hlt
  have H := Lib.hid (And.intro h (And.intro hl (And.intro hlt (And.intro hpl (And.intro hck hpow)))))
  clear h hl hlt hpow hpl hck
  have hdn : decide ((n : Int) < 0) = false := by rw [decide_eq_false_iff_not]; omega
  go_enter Tryd.func62, Tryd.ntmps62
  go_wp2_with fail
  refine (alpha_yes _ _ (by omega) (by omega)).mono ?_
  rintro e w' ⟨rfl, rfl⟩
  go_wp2_with fail
  refine H.out.2.2.2.2.2.mono ?_
  rintro e w1 ⟨p1, c1, rfl, ho1, hb1⟩
  have hcmp := cmp_any p p1 c c1 a (D32 (k ^ n)) w1 (H.out.1.next hb1) ho1.toV
  have hcv : cmpV a (D32 (k ^ n)) = .int .i64 (-1) := by unfold cmpV; rw [V32_D32, H.out.2.2.2.2.1]
  rw [hcv] at hcmp
  have HB1 := Lib.hid (And.intro hb1 hcmp)
  clear ho1 hb1 hcmp hcv
  go_wp2_with fail
  refine HB1.out.2.mono ?_
  rintro e w2 ⟨rfl, hb2⟩
  have hmk := makeI n (by omega) w2
  have hb02 : Below w.heap.size w w2 := HB1.out.1.trans (hb2.mono HB1.out.1.size)
  have HB2 := Lib.hid hb02
  clear hb2 hb02
  go_wp2_with fail
  clear hmk
  have ho0 := IntO.made w2 n (by omega)
  have hbm : Below w.heap.size w (w2.alloc (.cells (madeCells #[.int .i64 0] n) 3)) := HB2.out.alloc HB2.out.size _
  obtain ⟨g, hg⟩ : ∃ g, g = w2.heap.size := ⟨_, rfl⟩
  rw [← hg] at ho0 ⊢
  have HM := Lib.hid (And.intro (ho0.base (by rw [hg]; exact HB2.out.size : w.heap.size ≤ g)) (And.intro hbm (by rw [hg]; exact HB2.out.size : w.heap.size ≤ g)))
  clear ho0 hbm hg
  go_loopw [2, 11] (fun v2 v11 wr => AtRel w k n (V32 a) g v2 v11 wr) (fun _ v _ => (intOf v + 1).toNat)
  case atStart => exact ⟨n, V32 a, [], p, c, a, Nat.le_refl _, rfl, rfl, rfl, H.out.1.next HM.out.2.1, H.out.2.1, by simp, okW_nil k, by rw [Nat.sub_self, Nat.pow_zero, Nat.one_mul]; exact Nat.zero_add _, by rw [List.append_nil]; exact HM.out.1, HM.out.2.2, HM.out.2.1⟩
  case round =>
    obtain ⟨j, R, x, q, cq, b, hj, rfl, rfl, hR, hbv, hbl, hxl, hxo, hxv, ho, hgB, hb⟩ := hrel
    rcases Nat.eq_zero_or_pos j with rfl | hj0
    · have hxa : valW k x = V32 a := at_done hxv (by rw [Nat.sub_zero]; exact H.out.2.2.1)
      rw [Nat.sub_zero] at hxl
      have ho' : IntO w.heap.size wr (some ⟨g, 0, none⟩) n x := ho
      have HF := Lib.hid (And.intro hxl (And.intro hxo (And.intro hxa (And.intro ho' hb))))
      clear hR hbv hbl hxl hxo hxv ho ho' hb hxa
      go_wp2_with fail
      go_ret2
      exact ⟨x, HF.out.1, HF.out.2.1, HF.out.2.2.1, _, _, by rw [HF.out.1]; rfl, HF.out.2.2.2.1, HF.out.2.2.2.2⟩
    · obtain ⟨i, rfl⟩ : ∃ i, j = i + 1 := ⟨j - 1, by omega⟩
      have e1 : (((i + 1 : Nat) : Int) - 1) = (i : Int) := by omega
      rw [e1]
      have hov := over_any q cq b k wr hbv hbl h1 (by omega)
      rw [hR] at hov
      have hq : (D32 (R / k)).length ≤ 100000 := by
        have h2 : R / k ≤ R := Nat.div_le_self _ _
        rcases Nat.lt_or_ge 100000 (D32 (R / k)).length with h3 | h3
        · have h5 : (D32 R).length ≤ b.length := by rw [← hR]; exact D32_le hbv.ok
          have := cmp_len (m := R) (n := R / k) (by omega)
          omega
        · exact h3
      have hst := at_step (k := k) (p := n - (i + 1)) (i := R) (i0 := V32 a) hxl hxv
      obtain ⟨d, hd⟩ : ∃ d, R % k = d := ⟨_, rfl⟩
      obtain ⟨Q, hQ⟩ : ∃ Q, R / k = Q := ⟨_, rfl⟩
      have hdk : d < k := by rw [← hd]; exact Nat.mod_lt _ h1
      have hov := hov.mono fun e w' h => over_is hQ hd h
      rw [hd, hQ] at hst
      rw [hQ] at hq
      have hlen : (List.replicate (i + 1) (0 : Int) ++ x).length = n := by simp; omega
      have hown : wr.ownsRow w.heap.size 3 1 (.slice (some ⟨g, 0, none⟩) n n) n (cI (List.replicate (i + 1) 0 ++ x)) := by
        unfold IntO at ho
        rwa [hlen] at ho
      have hin : i < n := by omega
      have HS := Lib.hid (And.intro hov (And.intro hq (And.intro hst (And.intro hown (And.intro hb (And.intro hxo hxl))))))
      clear hov hq hst hown hb hxo hxl hxv ho hlen hR hbv hbl hd hQ e1
      go_wp2_with fail
      refine HS.out.1.mono ?_
      rintro e w3 ⟨p3, c3, rfl, ho3, hb3⟩
      have hown3 := ownsRow_below hb3 HS.out.2.2.2.1
      obtain ⟨y, hy⟩ := getI (l := List.replicate (i + 1) (0 : Int) ++ x) (k := i) (by simp; omega)
      have hcy : w3.cell? ⟨g, i, none⟩ = some (.int .i64 y) := (hown3.cellAt i (by omega)).trans (cI_get hy)
      have hfy : w3.frozen? ⟨g, i, none⟩ = false := hown3.frozenAt i
      obtain ⟨s1, t1⟩ := hown3.stored i (.int .i64 (d : Int))
      rw [← cI_set, set_front] at s1
      have hb03 : Below w.heap.size w w3 := HS.out.2.2.2.2.1.trans (hb3.mono HS.out.2.2.2.2.1.size)
      have hb4 : Below w.heap.size w (w3.setCell ⟨g, i, none⟩ (.int .i64 (d : Int))) := hb03.setCell (p := ⟨g, i, none⟩) hgB _
      have hv3 : NatV (w3.setCell ⟨g, i, none⟩ (.int .i64 (d : Int))).heap.size (w3.setCell ⟨g, i, none⟩ (.int .i64 (d : Int))) p3 c3 (D32 Q) := by
        have hgl : g < wr.heap.size := by
          rcases own_shape HS.out.2.2.2.1 with ⟨hv, h0, _⟩ | ⟨g', cap, hv, _, hlt', _⟩
          · simp at hv
          · have e : g = g' := by simpa using (Value.slice.inj hv).1
            omega
        have ho4 : NatO wr.heap.size (w3.setCell ⟨g, i, none⟩ (.int .i64 (d : Int))) p3 c3 (D32 Q) := ⟨ownsRow_setCell_below ho3.own (a := ⟨g, i, none⟩) hgl _, ho3.ok⟩
        exact ho4.toV
      have HF := Lib.hid (And.intro s1 (And.intro hb4 hv3))
      clear hown3 hy s1 t1 hb03 hb4 hv3 ho3 hb3
      go_wp2_with fail
      go_roundw
      case rel =>
        refine ⟨i, Q, (d : Int) :: x, p3, c3, D32 Q, by omega, rfl, rfl, V32_D32 Q, HF.out.2.2, HS.out.2.1, ?_, ?_, ?_, ?_, hgB, HF.out.2.1⟩
        · rw [List.length_cons, HS.out.2.2.2.2.2.2]; omega
        · intro z hz
          rcases List.mem_cons.1 hz with rfl | hz
          · omega
          · exact HS.out.2.2.2.2.2.1 z hz
        · have := HS.out.2.2.1
          rw [show n - (i + 1) + 1 = n - i by omega] at this
          exact this
        · unfold IntO
          have hlen : (List.replicate i (0 : Int) ++ (d : Int) :: x).length = n := by simp; have := HS.out.2.2.2.2.2.2; omega
          rw [hlen]; exact HF.out.1
      case measure => simp [intOf]
end Go.Proofs.YtienaogmljlmlaaDoor
end
section
namespace Go.Proofs.YtienaogmljlmlaaDoor
open Go.RowKit Go.Extern.Stop Go.Stop Go.Extern WordM NatM

set_option maxRecDepth 100000 in
set_option maxHeartbeats 1000000 in
theorem at_arg (k n : Int) (p : Option Addr) (m c : Nat) (w : World) (A : Nat → Addr) (hr : Roots w A) (h : (k < 1 ∨ 4 < k) ∨ n < 0) :
    Calls Tryd.prog 62 #[.int .i64 k, .int .i64 n, .slice p m c] w (Err2 w A wordOp 0 3 (.slice none 0 0)) := by
  have HR := Lib.hid hr
  clear hr
  by_cases hk : k < 1 ∨ 4 < k
  · clear h
    go_enter Tryd.func62, Tryd.ntmps62
    go_wp2_with fail
    refine (alpha_no _ _ hk).mono ?_
    rintro e w' ⟨rfl, rfl⟩
    go_wp2_with fail
    refine (new_at wordOp 0 3 _ A HR.out (by omega)).mono ?_
    rintro e w1 ⟨b, rfl, hl1, hb1⟩
    have H := Lib.hid (And.intro hl1 hb1)
    clear hl1 hb1
    go_wp2_with fail
    go_ret2
    exact ⟨_, rfl, H.out.1, H.out.2⟩
  · have hn : n < 0 := by omega
    have hk1 : 1 ≤ k := by omega
    have hk4 : k ≤ 4 := by omega
    clear h hk
    go_enter Tryd.func62, Tryd.ntmps62
    go_wp2_with fail
    refine (alpha_yes _ _ hk1 hk4).mono ?_
    rintro e w' ⟨rfl, rfl⟩
    go_wp2_with fail
    refine (new_at wordOp 0 3 _ A HR.out (by omega)).mono ?_
    rintro e w1 ⟨b, rfl, hl1, hb1⟩
    have H := Lib.hid (And.intro hl1 hb1)
    clear hl1 hb1
    go_wp2_with fail
    go_ret2
    exact ⟨_, rfl, H.out.1, H.out.2⟩
set_option maxRecDepth 100000 in
set_option maxHeartbeats 1000000 in
theorem at_long (k n : Int) (p : Option Addr) (m c : Nat) (w : World) (A : Nat → Addr) (hr : Roots w A) (hk1 : 1 ≤ k) (hk4 : k ≤ 4) (hn : 256 < n) :
    Calls Tryd.prog 62 #[.int .i64 k, .int .i64 n, .slice p m c] w (Err2 w A wordOp 0 4 (.slice none 0 0)) := by
  have HR := Lib.hid hr
  have hn0 : ¬ n < 0 := by omega
  clear hr
  go_enter Tryd.func62, Tryd.ntmps62
  go_wp2_with fail
  refine (alpha_yes _ _ hk1 hk4).mono ?_
  rintro e w' ⟨rfl, rfl⟩
  go_wp2_with fail
  refine (new_at wordOp 0 4 _ A HR.out (by omega)).mono ?_
  rintro e w1 ⟨b, rfl, hl1, hb1⟩
  have H := Lib.hid (And.intro hl1 hb1)
  clear hl1 hb1
  go_wp2_with fail
  go_ret2
  exact ⟨_, rfl, H.out.1, H.out.2⟩
set_option maxRecDepth 100000 in
set_option maxHeartbeats 4000000 in
theorem at_over (k n : Nat) (p : Option Addr) (m c : Nat) (a : List Nat) (w : World) (A : Nat → Addr) (hr : Roots w A) (hm : m = a.length) (h : NatV w.heap.size w p c a) (h1 : 1 ≤ k) (h4 : k ≤ 4) (h256 : n ≤ 256) (hge : k ^ n ≤ V32 a) :
    Calls Tryd.prog 62 #[.int .i64 (k : Int), .int .i64 (n : Int), .slice p m c] w (Err2 w A wordOp 0 3 (.slice none 0 0)) := by
  subst hm
  have hpow := pow_any k n (by omega) (by omega) w
  have hcv : ∃ r : Int, 0 ≤ r ∧ cmpN (V32 a) (k ^ n) = r := by
    rcases Nat.lt_or_ge (k ^ n) (V32 a) with h1 | h1
    · exact ⟨1, by omega, by rw [cmp_gt h1]⟩
    · exact ⟨0, by omega, by rw [show V32 a = k ^ n by omega, cmp_eq]⟩
  obtain ⟨r, hr0, hcr⟩ := hcv
  have H := Lib.hid (And.intro h (And.intro hcr (And.intro hpow hr)))
  clear h hcr hpow hr hge
  have hdn : decide ((n : Int) < 0) = false := by rw [decide_eq_false_iff_not]; omega
  go_enter Tryd.func62, Tryd.ntmps62
  go_wp2_with fail
  refine (alpha_yes _ _ (by omega) (by omega)).mono ?_
  rintro e w' ⟨rfl, rfl⟩
  go_wp2_with fail
  refine H.out.2.2.1.mono ?_
  rintro e w1 ⟨p1, c1, rfl, ho1, hb1⟩
  have hcmp := cmp_any p p1 c c1 a (D32 (k ^ n)) w1 (H.out.1.next hb1) ho1.toV
  have hcv : cmpV a (D32 (k ^ n)) = .int .i64 r := by unfold cmpV; rw [V32_D32, H.out.2.1]
  rw [hcv] at hcmp
  have HB1 := Lib.hid (And.intro hb1 hcmp)
  clear ho1 hb1 hcmp hcv
  go_wp2_with fail
  refine HB1.out.2.mono ?_
  rintro e w2 ⟨rfl, hb2⟩
  have hb02 : Below w.heap.size w w2 := HB1.out.1.trans (hb2.mono HB1.out.1.size)
  have HB2 := Lib.hid (And.intro hb02 (H.out.2.2.2.below hb02))
  clear hb2 hb02
  go_wp2_with fail
  refine (new_at wordOp 0 3 _ A HB2.out.2 (by omega)).mono ?_
  rintro e w3 ⟨b, rfl, hl3, hb3⟩
  have HF := Lib.hid (And.intro hl3 (HB2.out.1.trans (hb3.mono HB2.out.1.size)))
  clear hl3 hb3
  go_wp2_with fail
  go_ret2
  exact ⟨_, rfl, HF.out.1, HF.out.2⟩

/-- whatever Pow tells -/
def PowSome (w : World) (e : Ending) (w' : World) : Prop := ∃ p n c v, e = .returned (.tuple #[.slice p n c, v]) ∧ Below w.heap.size w w'
theorem pow_some (k n : Int) (w : World) (A : Nat → Addr) (hr : Roots w A) (hk : 0 ≤ k) (hk2 : k < 4294967296) : Calls Tryd.prog 71 #[.int .u32 k, .int .i64 n] w (PowSome w) := by
  rcases (by omega : n < 0 ∨ 1024 < n ∨ (0 ≤ n ∧ n ≤ 1024)) with h | h | ⟨h1, h2⟩
  · refine (pow_neg k n h w A hr).mono fun e w' ⟨b, he, _, hb⟩ => ⟨_, _, _, _, he, hb⟩
  · refine (pow_big k n h w A hr).mono fun e w' ⟨b, he, _, hb⟩ => ⟨_, _, _, _, he, hb⟩
  · obtain ⟨m, rfl⟩ : ∃ m : Nat, n = (m : Int) := ⟨n.toNat, by omega⟩
    obtain ⟨q, rfl⟩ : ∃ q : Nat, k = (q : Int) := ⟨k.toNat, by omega⟩
    refine (pow_any q m (by omega) (by omega) w).mono fun e w' ⟨p, c, he, _, hb⟩ => ⟨_, _, _, _, he, hb⟩
end Go.Proofs.YtienaogmljlmlaaDoor
end
section
namespace Go.Proofs.YtienaogmljlmlaaDoor
open Go.RowKit Go.Extern.Stop Go.Stop Go.Extern WordM RuleM NatM
attribute [local go_sem ↓] Go.wp_at_zero Go.wp_at_succ

set_option maxRecDepth 100000 in
set_option maxHeartbeats 2000000 in
theorem step_bad (k r : Int) (p q : Option Addr) (n c m d : Nat) (t l : List Int) (w : World) (A : Nat → Addr) (hr : Roots w A) (hn : n = t.length) (hm : m = l.length) (h : IntV w.heap.size w p c t) (hl : IntV w.heap.size w q d l) (i a : Nat) (hc : chkT k r t l = some (i, a)) :
    Calls Tryd.prog 25 #[.agg #[.int .i64 k, .int .i64 r, .slice p n c], .slice q m d] w (Err2 w A ruleOp i a (.slice none 0 0)) := by
  have start : ∀ (w0 : World), w0 = w.alloc (.cells #[.int .i64 k, .int .i64 r, .slice p n c] 24) → Below w.heap.size w w0 ∧ Rul3 w0 w.heap.size (.int .i64 k) (.int .i64 r) (.slice p n c) := fun w0 hw0 =>
    ⟨by rw [hw0]; exact (Below.refl _ _).alloc (Nat.le_refl _) _, by rw [hw0]; exact Rul3.new w _ _ _⟩
  have ST := Lib.hid start
  clear start
  unfold chkT at hc
  split at hc
  · obtain ⟨rfl, rfl⟩ := Prod.mk.inj (Option.some.inj hc)
    rename_i hcr
    have H := Lib.hid (And.intro h (And.intro hn (And.intro hr hcr)))
    clear h hn hr hcr hc hm hl
    go_enter Tryd.func25, Tryd.ntmps25
    go_wp2_with fail
    obtain ⟨w0, hw0⟩ : ∃ w0, w0 = w.alloc (.cells #[.int .i64 k, .int .i64 r, .slice p n c] 24) := ⟨_, rfl⟩
    rw [← hw0]
    obtain ⟨hb0, hE0⟩ := ST.out w0 hw0
    obtain ⟨⟨hf0, hf1, hf2⟩, hc0, hc1, hc2⟩ := hE0.facts
    have HE := Lib.hid (And.intro hE0 hb0)
    clear hw0 hE0 hb0
    go_wp2_with fail
    refine (rcheck_bad k r p n c t w0 A (H.out.2.2.1.below HE.out.2) H.out.2.1 (H.out.1.next HE.out.2) _ H.out.2.2.2).mono ?_
    rintro e w1 ⟨b, rfl, hl1, hb1⟩
    have HF := Lib.hid (And.intro hl1 (HE.out.2.trans (hb1.mono HE.out.2.size)))
    clear hl1 hb1
    go_wp2_with fail
    go_ret2
    exact ⟨_, rfl, HF.out.1, HF.out.2⟩
  · rename_i hcr
    obtain ⟨K, R, rfl, rfl, ho⟩ := chkR_none hcr
    have h4 := ho.k4
    have hle := hl.le
    have hcap := hl.cap
    unfold maxLen at hcap
    have hmx : m ≤ 9223372036854775807 := by omega
    split at hc
    · obtain ⟨rfl, rfl⟩ := Prod.mk.inj (Option.some.inj hc)
      rename_i hne
      have hne' : 4096 < m := by omega
      have H := Lib.hid (And.intro h (And.intro hn (And.intro hr ho)))
      clear h hn hr hcr hc hm hl ho hne hle hcap
      go_enter Tryd.func25, Tryd.ntmps25
      go_wp2_with fail
      obtain ⟨w0, hw0⟩ : ∃ w0, w0 = w.alloc (.cells #[.int .i64 (K : Int), .int .i64 (R : Int), .slice p n c] 24) := ⟨_, rfl⟩
      rw [← hw0]
      obtain ⟨hb0, hE0⟩ := ST.out w0 hw0
      obtain ⟨⟨hf0, hf1, hf2⟩, hc0, hc1, hc2⟩ := hE0.facts
      have HE := Lib.hid (And.intro hE0 hb0)
      clear hw0 hE0 hb0
      go_wp2_with fail
      refine (rcheck_ok K R p n c t w0 H.out.2.1 (H.out.1.next HE.out.2) H.out.2.2.2).mono ?_
      rintro e w1 ⟨rfl, hb1⟩
      have H1 := Lib.hid (And.intro (HE.out.1.next hb1) (HE.out.2.trans (hb1.mono HE.out.2.size)))
      clear hb1 hf0 hf1 hf2 hc0 hc1 hc2
      obtain ⟨⟨hf0, hf1, hf2⟩, hc0, hc1, hc2⟩ := H1.out.1.facts
      go_wp2_with fail
      refine (new_at ruleOp 0 4 w1 A (H.out.2.2.1.below H1.out.2) (by omega)).mono ?_
      rintro e w2 ⟨b, rfl, hl2, hb2⟩
      have HF := Lib.hid (And.intro hl2 (H1.out.2.trans (hb2.mono H1.out.2.size)))
      clear hl2 hb2
      go_wp2_with fail
      go_ret2
      exact ⟨_, rfl, HF.out.1, HF.out.2⟩
    · rename_i hlen
      obtain ⟨j, hj, he⟩ := Option.map_eq_some_iff.1 hc
      obtain ⟨rfl, rfl⟩ := Prod.mk.inj he
      have hjl := strayN_lt hj
      have hst := strayN_bad hj
      have hjm : j < m := by omega
      have hm4 : ¬ 4096 < m := by omega
      have H := Lib.hid (And.intro h (And.intro hn (And.intro hr (And.intro ho (And.intro hst (And.intro hl hm))))))
      clear h hn hr hcr hc hm hl ho hle hcap hst hjl hj hlen he
      go_enter Tryd.func25, Tryd.ntmps25
      go_wp2_with fail
      obtain ⟨w0, hw0⟩ : ∃ w0, w0 = w.alloc (.cells #[.int .i64 (K : Int), .int .i64 (R : Int), .slice p n c] 24) := ⟨_, rfl⟩
      rw [← hw0]
      obtain ⟨hb0, hE0⟩ := ST.out w0 hw0
      obtain ⟨⟨hf0, hf1, hf2⟩, hc0, hc1, hc2⟩ := hE0.facts
      have HE := Lib.hid (And.intro hE0 hb0)
      clear hw0 hE0 hb0
      go_wp2_with fail
      refine (rcheck_ok K R p n c t w0 H.out.2.1 (H.out.1.next HE.out.2) H.out.2.2.2.1).mono ?_
      rintro e w1 ⟨rfl, hb1⟩
      have H1 := Lib.hid (And.intro (HE.out.1.next hb1) (HE.out.2.trans (hb1.mono HE.out.2.size)))
      clear hb1 hf0 hf1 hf2 hc0 hc1 hc2
      obtain ⟨⟨hf0, hf1, hf2⟩, hc0, hc1, hc2⟩ := H1.out.1.facts
      go_wp2_with fail
      refine (stray_any (K : Int) q m d l w1 H.out.2.2.2.2.2.2 (H.out.2.2.2.2.2.1.next H1.out.2)).mono ?_
      rintro e w2 ⟨rfl, rfl⟩
      rw [H.out.2.2.2.2.1]
      go_wp2_with fail
      refine (new_at ruleOp j 2 w1 A (H.out.2.2.1.below H1.out.2) (by omega)).mono ?_
      rintro e w2 ⟨b, rfl, hl2, hb2⟩
      have HF := Lib.hid (And.intro hl2 (H1.out.2.trans (hb2.mono H1.out.2.size)))
      clear hl2 hb2
      go_wp2_with fail
      go_ret2
      exact ⟨_, rfl, HF.out.1, HF.out.2⟩
/-- Step, whatever is asked that it does not refuse -/
theorem step_ok (k r : Int) (p q : Option Addr) (n c m d : Nat) (t l : List Int) (w : World) (hn : n = t.length) (hm : m = l.length) (h : IntV w.heap.size w p c t) (hl : IntV w.heap.size w q d l) (hc : chkT k r t l = none) :
    Calls Tryd.prog 25 #[.agg #[.int .i64 k, .int .i64 r, .slice p n c], .slice q m d] w (IntOk w (imgW k.toNat r.toNat t l)) := by
  obtain ⟨K, R, rfl, rfl, ho, hl4, hw⟩ := chkT_none hc
  rw [Int.toNat_natCast, Int.toNat_natCast]
  rcases Nat.lt_or_ge (2 * R) m with h1 | h1
  · exact step_long K R p q n c m d t l w hn hm h hl ho h1 (by omega) hw
  · exact step_short K R p q n c m d t l w hn hm h hl ho h1 hw

set_option maxRecDepth 100000 in
set_option maxHeartbeats 4000000 in
theorem code_ok (k r : Nat) (p : Option Addr) (n c : Nat) (t : List Int) (w : World) (hn : n = t.length) (h : IntV w.heap.size w p c t) (ho : OkR k r t) (hs : t.length ≤ 256) :
    Calls Tryd.prog 49 #[.agg #[.int .i64 (k : Int), .int .i64 (r : Int), .slice p n c]] w (NumOk w (codeR k t)) := by
  have hck : chkW k t.reverse = none := chkW_ok ho.k1 ho.k4 (by rw [List.length_reverse]; omega) ho.rev
  have hcode : codeR k t = valW k t.reverse := rfl
  have hrl : t.reverse.length ≤ 256 := by rw [List.length_reverse]; exact hs
  have hback := fun wx hx => back_any p n c t wx hn hx (by omega)
  obtain ⟨tr, htr⟩ : ∃ tr, t.reverse = tr := ⟨_, rfl⟩
  rw [htr] at hck hcode hrl
  simp only [htr] at hback
  rw [hcode]
  have H := Lib.hid (And.intro h (And.intro hn (And.intro ho (And.intro hs (And.intro hck (And.intro hrl hback))))))
  clear h hn ho hs hck hcode hrl hback htr
  go_enter Tryd.func49, Tryd.ntmps49
  go_wp2_with fail
  obtain ⟨w0, hw0⟩ : ∃ w0, w0 = w.alloc (.cells #[.int .i64 (k : Int), .int .i64 (r : Int), .slice p n c] 24) := ⟨_, rfl⟩
  have hb0 : Below w.heap.size w w0 := by rw [hw0]; exact (Below.refl _ _).alloc (Nat.le_refl _) _
  have hE0 : Rul3 w0 w.heap.size (.int .i64 (k : Int)) (.int .i64 (r : Int)) (.slice p n c) := by rw [hw0]; exact Rul3.new w _ _ _
  rw [← hw0]
  obtain ⟨⟨hf0, hf1, hf2⟩, hc0, hc1, hc2⟩ := hE0.facts
  have HE := Lib.hid (And.intro hE0 hb0)
  clear hw0 hE0 hb0
  go_wp2_with fail
  refine (small_ok k r p n c t w0 H.out.2.1 (H.out.1.next HE.out.2) H.out.2.2.1 H.out.2.2.2.1).mono ?_
  rintro e w1 ⟨rfl, hb1⟩
  have hE1 := HE.out.1.next hb1
  have hbw1 := HE.out.2.trans (hb1.mono HE.out.2.size)
  have hbk : ∀ wx : World, Below w1.heap.size w1 wx → Calls Tryd.prog 10 #[.slice p n c] wx (IntPost wx tr) := fun wx hbx =>
    H.out.2.2.2.2.2.2 wx ((H.out.1.next hbw1).next hbx)
  have hix : ∀ (wx : World) (pa : Option Addr) (ca : Nat), IntV wx.heap.size wx pa ca tr → Calls Tryd.prog 64 #[.int .i64 (k : Int), .slice pa tr.length ca] wx (NumOk wx (valW k tr)) := fun wx pa ca hx =>
    index_ok k pa _ ca tr wx rfl hx H.out.2.2.2.2.1 H.out.2.2.2.2.2.1
  have hxA : ∀ wx : World, Below w1.heap.size w1 wx → wx.cell? ⟨w.heap.size, 0, none⟩ = some (.int .i64 (k : Int)) := fun wx hbx => (hE1.next hbx).facts.2.1
  have hxB : ∀ wx : World, Below w1.heap.size w1 wx → wx.cell? ⟨w.heap.size, 2, none⟩ = some (.slice p n c) := fun wx hbx => (hE1.next hbx).facts.2.2.2
  have hd0 : Below w1.heap.size w1 w1.drew := (Below.refl _ _).drew
  have HS := Lib.hid hbw1
  clear hf0 hf1 hf2 hc0 hc1 hc2 hb1 hbw1 hE1
  go_wp2_with fail
  go_region_held3 (fun w' => w'.cell? ⟨w.heap.size, 0, none⟩ = some (.int .i64 (k : Int)) ∧ w'.cell? ⟨w.heap.size, 2, none⟩ = some (.slice p n c)) (first | exact ⟨hxA _ (by assumption), hxB _ (by assumption)⟩ | exact ⟨hxA _ (Below.refl _ _), hxB _ (Below.refl _ _)⟩ | exact ⟨hxA _ hd0, hxB _ hd0⟩ | go_keep) (first
    | (go_at_call 10; refine (hbk _ (by first | assumption | exact Below.refl _ _)).mono ?_; rintro e wa ⟨pa, ca, rfl, hoa, hba⟩; have hBa : Below w1.heap.size w1 wa := (by first | exact hba | exact hd0.trans (hba.mono hd0.size)))
    | (go_at_call 64; refine (hix _ pa ca hoa.toV).mono ?_; rintro e wb ⟨pb, cb, rfl, hob, hbb⟩; have hBb : Below w1.heap.size w1 wb := hBa.trans (hbb.mono hBa.size)))
  all_goals
    have HF := Lib.hid (And.intro (hob.base (Nat.le_trans HS.out.size hBa.size)) (HS.out.trans (hBb.mono HS.out.size)))
    clear hbk hix hxA hxB hba hbb hBa hBb hoa hob
    go_wp2_with fail
    go_ret2
    exact ⟨_, _, rfl, HF.out.1, HF.out.2⟩
set_option maxRecDepth 100000 in
set_option maxHeartbeats 2000000 in
theorem code_bad (k r : Int) (p : Option Addr) (n c : Nat) (t : List Int) (w : World) (A : Nat → Addr) (hr : Roots w A) (hn : n = t.length) (h : IntV w.heap.size w p c t) (i m : Nat) (hc : chkS k r t = some (i, m)) :
    Calls Tryd.prog 49 #[.agg #[.int .i64 k, .int .i64 r, .slice p n c]] w (Err2 w A ruleOp i m (.slice none 0 0)) := by
  have H := Lib.hid (And.intro h (And.intro hn (And.intro hr hc)))
  clear h hn hr hc
  go_enter Tryd.func49, Tryd.ntmps49
  go_wp2_with fail
  obtain ⟨w0, hw0⟩ : ∃ w0, w0 = w.alloc (.cells #[.int .i64 k, .int .i64 r, .slice p n c] 24) := ⟨_, rfl⟩
  have hb0 : Below w.heap.size w w0 := by rw [hw0]; exact (Below.refl _ _).alloc (Nat.le_refl _) _
  have hE0 : Rul3 w0 w.heap.size (.int .i64 k) (.int .i64 r) (.slice p n c) := by rw [hw0]; exact Rul3.new w _ _ _
  rw [← hw0]
  obtain ⟨⟨hf0, hf1, hf2⟩, hc0, hc1, hc2⟩ := hE0.facts
  have HE := Lib.hid hb0
  clear hw0 hE0 hb0
  go_wp2_with fail
  refine (small_bad k r p n c t w0 A (H.out.2.2.1.below HE.out) H.out.2.1 (H.out.1.next HE.out) i m H.out.2.2.2).mono ?_
  rintro e w1 ⟨b, rfl, hl1, hb1⟩
  have HF := Lib.hid (And.intro hl1 (HE.out.trans (hb1.mono HE.out.size)))
  clear hl1 hb1
  go_wp2_with fail
  go_ret2
  exact ⟨_, rfl, HF.out.1, HF.out.2⟩
end Go.Proofs.YtienaogmljlmlaaDoor
end
section
namespace Go.Proofs.YtienaogmljlmlaaDoor
open Go.RowKit Go.Extern.Stop Go.Stop Go.Extern WordM RuleM NatM

theorem setCell_same {w : World} {h i : Nat} {cs : Array Value} {T : TypeId} {v : Value} (hh : w.heap[h]? = some (.cells cs T (0, 0))) (hv : cs[i]? = some v) : w.setCell ⟨h, i, none⟩ v = w := by
  have hm : (w.heap.modify h fun
      | .cells c elem frozen => .cells (if (none : Option (Nat × Nat)).isSome then c else c.setIfInBounds i v) elem frozen
      | o => o) = w.heap := by
    apply Array.ext_getElem?
    intro j
    rw [Array.getElem?_modify]
    split
    · rename_i e
      subst e
      rw [hh]
      have : cs.setIfInBounds i v = cs := by
        apply Array.ext_getElem?
        intro z
        rw [Array.getElem?_setIfInBounds]
        split
        · rename_i e; subst e
          split
          · exact hv.symm
          · rename_i hz; rw [Array.getElem?_eq_none (by omega)]
        · rfl
      simp [this]
    · rfl
  exact congrArg (fun h => ({ w with heap := h } : World)) hm
theorem put3_same {w : World} {h : Nat} {a b c : Value} (k : Rul3 w h a b c) : put3 w h a b c = w := by
  unfold put3
  rw [setCell_same k.heap rfl, setCell_same k.heap rfl, setCell_same k.heap rfl]
theorem IntO.put3 {base h : Nat} {w : World} {p : Option Addr} {c : Nat} {l : List Int} (ho : IntO base w p c l) (hh : h < base) (a b d : Value) : IntO base (put3 w h a b d) p c l :=
  ownsRow_setCell_below (ownsRow_setCell_below (ownsRow_setCell_below ho (a := ⟨h, 0, none⟩) hh a) (a := ⟨h, 1, none⟩) hh b) (a := ⟨h, 2, none⟩) hh d

theorem Rul3.setOther {w : World} {h : Nat} {a b c : Value} (k : Rul3 w h a b c) (g i : Nat) (hg : g ≠ h) (v : Value) : Rul3 (w.setCell ⟨g, i, none⟩ v) h a b c := ⟨by
  show (w.heap.modify g _)[h]? = _
  rw [Array.getElem?_modify, if_neg hg]
  exact k.heap⟩
theorem Rul3.putOther {w : World} {h : Nat} {a b c : Value} (k : Rul3 w h a b c) (g : Nat) (hg : g ≠ h) (x y z : Value) : Rul3 (put3 w g x y z) h a b c := ((k.setOther g 0 hg x).setOther g 1 hg y).setOther g 2 hg z

/-- no rule -/
def noRule : Value := .agg #[.int .i64 0, .int .i64 0, .slice none 0 0]
/-- a new rule, and no error -/
def RuleOk (w : World) (k r : Nat) (t : List Int) (e : Ending) (w' : World) : Prop :=
  ∃ p c, e = .returned (.tuple #[.agg #[.int .i64 (k : Int), .int .i64 (r : Int), .slice p t.length c], .nilIface]) ∧ IntO w.heap.size w' p c t ∧ Below w.heap.size w w'
/-- the rule with this number, and no error -/
def FromOk (w : World) (k r i : Nat) (e : Ending) (w' : World) : Prop := ∃ t, OkR k r t ∧ codeR k t = i ∧ RuleOk w k r t e w'

set_option maxRecDepth 100000 in
set_option maxHeartbeats 4000000 in
theorem from_ok (k r : Nat) (p : Option Addr) (m c : Nat) (a : List Nat) (w : World) (hm : m = a.length) (h : NatV w.heap.size w p c a) (hl : a.length ≤ 100000) (h1 : 1 ≤ k) (h4 : k ≤ 4) (h3 : r ≤ 3) (hs : k ^ (2 * r + 1) ≤ 256) (hlt : V32 a < k ^ (k ^ (2 * r + 1))) :
    Calls Tryd.prog 48 #[.int .i64 (k : Int), .int .i64 (r : Int), .slice p m c] w (FromOk w k r (V32 a)) := by
  have hsz := fun W => small_size_ok k r W h1 h4 h3 hs
  obtain ⟨S, hS⟩ : ∃ S, k ^ (2 * r + 1) = S := ⟨_, rfl⟩
  rw [hS] at hs hlt
  simp only [hS] at hsz
  have hat := fun W hW => at_ok k S p m c a W hm hW hl h1 h4 hs hlt
  have H := Lib.hid (And.intro h (And.intro hsz (And.intro hat hS)))
  clear h hsz hat hS hl hm hlt
  go_enter Tryd.func48, Tryd.ntmps48
  go_wp2_with fail
  obtain ⟨w0, hw0⟩ : ∃ w0, w0 = w.alloc (.cells #[.int .i64 0, .int .i64 0, .slice none 0 0] 24) := ⟨_, rfl⟩
  have hb0 : Below w.heap.size w w0 := by rw [hw0]; exact (Below.refl _ _).alloc (Nat.le_refl _) _
  have hE0 : Rul3 w0 w.heap.size (.int .i64 0) (.int .i64 0) (.slice none 0 0) := by rw [hw0]; exact Rul3.new w _ _ _
  rw [← hw0]
  have HE := Lib.hid (And.intro hE0 hb0)
  clear hw0 hE0 hb0
  go_wp2_with fail
  refine (H.out.2.1 w0).mono ?_
  rintro e w1 ⟨rfl, rfl⟩
  go_wp2_with fail
  refine (H.out.2.2.1 w0 (H.out.1.next HE.out.2)).mono ?_
  rintro e w2 ⟨x, hxl, hxo, hxv, p2, c2, rfl, ho2, hb2⟩
  have hbk := back_any p2 S c2 x w2 hxl.symm ho2.toV (by omega)
  have hxr : x.reverse.length = S := by rw [List.length_reverse, hxl]
  obtain ⟨t, ht⟩ : ∃ t, x.reverse = t := ⟨_, rfl⟩
  rw [ht] at hbk hxr
  have hok : OkR k r t := ⟨h1, h4, h3, by rw [hxr, H.out.2.2.2], by rw [← ht]; exact okW_rev hxo⟩
  have hcd : codeR k t = V32 a := by unfold codeR; rw [← ht, List.reverse_reverse, hxv]
  have H2 := Lib.hid (And.intro (HE.out.1.next hb2) (And.intro (HE.out.2.trans (hb2.mono HE.out.2.size)) (And.intro hok (And.intro hcd (And.intro hbk hxr)))))
  rw [hxl]
  clear hxl hxo hxv ho2 hb2 hbk hxr ht hok hcd
  go_wp2_with fail
  refine H2.out.2.2.2.2.1.mono ?_
  rintro e w3 ⟨p3, c3, rfl, ho3, hb3⟩
  rw [H2.out.2.2.2.2.2]
  have hE3 := H2.out.1.next hb3
  obtain ⟨⟨hf0, hf1, hf2⟩, hc0, hc1, hc2⟩ := hE3.facts
  have hlt0 : w.heap.size < w2.heap.size := H2.out.1.lt
  have H3 := Lib.hid (And.intro ho3 (H2.out.2.1.trans (hb3.mono H2.out.2.1.size)))
  clear ho3 hb3 hE3
  go_wp2_with fail
  refine bodyPost_ret (v := .tuple #[.agg #[.int .i64 (k : Int), .int .i64 (r : Int), .slice p3 S c3], .nilIface]) (by simp [results, Tryd.results48, go_sem, hc0, hc1, hc2]) rfl ⟨t, H2.out.2.2.1, H2.out.2.2.2.1, p3, c3, by rw [H2.out.2.2.2.2.2], ?_, ?_⟩
  · exact (H3.out.1.put3 hlt0 _ _ _).base (Nat.le_of_lt hlt0)
  · exact put3_below H3.out.2 (Nat.le_refl _) _ _ _

/-- where From refuses: the place and the number -/
def chkF (k r : Int) (i : Nat) : Option (Nat × Nat) :=
  if (k < 1 ∨ 4 < k) ∨ r < 0 ∨ 3 < r then some (0, 3) else if 256 < k.toNat ^ (2 * r.toNat + 1) then some (0, 4) else if k.toNat ^ (k.toNat ^ (2 * r.toNat + 1)) ≤ i then some (1, 3) else none
set_option maxRecDepth 100000 in
set_option maxHeartbeats 4000000 in
theorem from_bad (k r : Int) (p : Option Addr) (m c : Nat) (a : List Nat) (w : World) (A : Nat → Addr) (hr : Roots w A) (hm : m = a.length) (h : NatV w.heap.size w p c a) (i n : Nat) (hc : chkF k r (V32 a) = some (i, n)) :
    Calls Tryd.prog 48 #[.int .i64 k, .int .i64 r, .slice p m c] w (Err2 w A ruleOp i n noRule) := by
  have start : ∀ (w0 : World), w0 = w.alloc (.cells #[.int .i64 0, .int .i64 0, .slice none 0 0] 24) → Below w.heap.size w w0 ∧ Rul3 w0 w.heap.size (.int .i64 0) (.int .i64 0) (.slice none 0 0) := fun w0 hw0 =>
    ⟨by rw [hw0]; exact (Below.refl _ _).alloc (Nat.le_refl _) _, by rw [hw0]; exact Rul3.new w _ _ _⟩
  have ST := Lib.hid start
  clear start
  unfold chkF at hc
  split at hc
  · obtain ⟨rfl, rfl⟩ := Prod.mk.inj (Option.some.inj hc)
    rename_i hk
    have hsz := fun W hW => small_size_bad k r W A hW hk
    have H := Lib.hid (And.intro hr hsz)
    clear hr hsz hm h hc hk
    go_enter Tryd.func48, Tryd.ntmps48
    go_wp2_with fail
    obtain ⟨w0, hw0⟩ : ∃ w0, w0 = w.alloc (.cells #[.int .i64 0, .int .i64 0, .slice none 0 0] 24) := ⟨_, rfl⟩
    rw [← hw0]
    have HE := Lib.hid (ST.out w0 hw0)
    clear hw0
    go_wp2_with fail
    refine (H.out.2 w0 (H.out.1.below HE.out.1)).mono ?_
    rintro e w1 ⟨b, rfl, hl1, hb1⟩
    have hE1 := HE.out.2.next hb1
    obtain ⟨⟨hf0, hf1, hf2⟩, hc0, hc1, hc2⟩ := hE1.facts
    have H3 := Lib.hid (And.intro hl1 (And.intro (HE.out.1.trans (hb1.mono HE.out.1.size)) (put3_same hE1)))
    clear hl1 hb1 hE1
    go_wp2_with fail
    refine bodyPost_ret (v := .tuple #[noRule, .iface 79 (.pointer (some ⟨b, 0, none⟩))]) (by simp [results, Tryd.results48, go_sem, hc0, hc1, hc2, noRule]) rfl ⟨b, rfl, ?_, ?_⟩
    · show (Tree.fault b ruleOp _ _).lies (put3 w1 w.heap.size _ _ _)
      rw [H3.out.2.2]; exact H3.out.1
    · show Below _ _ (put3 w1 w.heap.size _ _ _)
      rw [H3.out.2.2]; exact H3.out.2.1
  · rename_i hk
    obtain ⟨K, rfl⟩ : ∃ K : Nat, k = K := ⟨k.toNat, by omega⟩
    obtain ⟨R, rfl⟩ : ∃ R : Nat, r = R := ⟨r.toNat, by omega⟩
    have hk1 : 1 ≤ K := by omega
    have hk4 : K ≤ 4 := by omega
    have hr3 : R ≤ 3 := by omega
    rw [Int.toNat_natCast, Int.toNat_natCast] at hc
    split at hc
    · obtain ⟨rfl, rfl⟩ := Prod.mk.inj (Option.some.inj hc)
      rename_i hbig
      have hsz := fun W hW => small_size_big K R W A hW hk1 hk4 hr3 hbig
      have H := Lib.hid (And.intro hr hsz)
      clear hr hsz hm h hc hk hbig
      go_enter Tryd.func48, Tryd.ntmps48
      go_wp2_with fail
      obtain ⟨w0, hw0⟩ : ∃ w0, w0 = w.alloc (.cells #[.int .i64 0, .int .i64 0, .slice none 0 0] 24) := ⟨_, rfl⟩
      rw [← hw0]
      have HE := Lib.hid (ST.out w0 hw0)
      clear hw0
      go_wp2_with fail
      refine (H.out.2 w0 (H.out.1.below HE.out.1)).mono ?_
      rintro e w1 ⟨b, rfl, hl1, hb1⟩
      have hE1 := HE.out.2.next hb1
      obtain ⟨⟨hf0, hf1, hf2⟩, hc0, hc1, hc2⟩ := hE1.facts
      have H3 := Lib.hid (And.intro hl1 (And.intro (HE.out.1.trans (hb1.mono HE.out.1.size)) (put3_same hE1)))
      clear hl1 hb1 hE1
      go_wp2_with fail
      refine bodyPost_ret (v := .tuple #[noRule, .iface 79 (.pointer (some ⟨b, 0, none⟩))]) (by simp [results, Tryd.results48, go_sem, hc0, hc1, hc2, noRule]) rfl ⟨b, rfl, ?_, ?_⟩
      · show (Tree.fault b ruleOp _ _).lies (put3 w1 w.heap.size _ _ _)
        rw [H3.out.2.2]; exact H3.out.1
      · show Below _ _ (put3 w1 w.heap.size _ _ _)
        rw [H3.out.2.2]; exact H3.out.2.1
    · rename_i hsm
      split at hc
      · obtain ⟨rfl, rfl⟩ := Prod.mk.inj (Option.some.inj hc)
        rename_i hge
        have hsz := fun W => small_size_ok K R W hk1 hk4 hr3 (by omega)
        obtain ⟨S, hS⟩ : ∃ S, K ^ (2 * R + 1) = S := ⟨_, rfl⟩
        rw [hS] at hsm hge
        simp only [hS] at hsz
        have hat := fun W hR hW => at_over K S p m c a W A hR hm hW hk1 hk4 (by omega) hge
        have H := Lib.hid (And.intro hr (And.intro hsz (And.intro hat h)))
        clear hr hsz hm h hc hk hS hat hge
        go_enter Tryd.func48, Tryd.ntmps48
        go_wp2_with fail
        obtain ⟨w0, hw0⟩ : ∃ w0, w0 = w.alloc (.cells #[.int .i64 0, .int .i64 0, .slice none 0 0] 24) := ⟨_, rfl⟩
        rw [← hw0]
        have HE := Lib.hid (ST.out w0 hw0)
        clear hw0
        go_wp2_with fail
        refine (H.out.2.1 w0).mono ?_
        rintro e w1 ⟨rfl, rfl⟩
        go_wp2_with fail
        refine (H.out.2.2.1 w0 (H.out.1.below HE.out.1) (H.out.2.2.2.next HE.out.1)).mono ?_
        rintro e w1 ⟨b1, rfl, _, hb1⟩
        have hbw1 := HE.out.1.trans (hb1.mono HE.out.1.size)
        have H1 := Lib.hid (And.intro (HE.out.2.next hb1) hbw1)
        clear hb1 hbw1
        go_wp2_with fail
        refine (new_at ruleOp 1 3 w1 A (H.out.1.below H1.out.2) (by omega)).mono ?_
        rintro e w2 ⟨b, rfl, hl2, hb2⟩
        have hE1 := H1.out.1.next hb2
        obtain ⟨⟨hf0, hf1, hf2⟩, hc0, hc1, hc2⟩ := hE1.facts
        have H3 := Lib.hid (And.intro hl2 (And.intro (H1.out.2.trans (hb2.mono H1.out.2.size)) (put3_same hE1)))
        clear hl2 hb2 hE1
        go_wp2_with fail
        refine bodyPost_ret (v := .tuple #[noRule, .iface 79 (.pointer (some ⟨b, 0, none⟩))]) (by simp [results, Tryd.results48, go_sem, hc0, hc1, hc2, noRule]) rfl ⟨b, rfl, ?_, ?_⟩
        · show (Tree.fault b ruleOp _ _).lies (put3 w2 w.heap.size _ _ _)
          rw [H3.out.2.2]; exact H3.out.1
        · show Below _ _ (put3 w2 w.heap.size _ _ _)
          rw [H3.out.2.2]; exact H3.out.2.1
      · cases hc
end Go.Proofs.YtienaogmljlmlaaDoor
end
section
namespace Go.Proofs.YtienaogmljlmlaaDoor.RuleM
open WordM

/-- the word of n symbols that writes x -/
def digW (k : Nat) : Nat → Nat → List Int
  | 0, _ => []
  | n + 1, x => digW k n (x / k) ++ [((x % k : Nat) : Int)]
theorem digW_length (k : Nat) : ∀ (n x : Nat), (digW k n x).length = n
  | 0, _ => rfl
  | n + 1, x => by unfold digW; rw [List.length_append, digW_length k n]; rfl
theorem digW_ok {k : Nat} (hk : 1 ≤ k) : ∀ (n x : Nat), okW k (digW k n x)
  | 0, _ => okW_nil k
  | n + 1, x => by
    unfold digW
    refine okW_app (digW_ok hk n _) (fun y hy => ?_)
    have hm : x % k < k := Nat.mod_lt _ hk
    simp at hy
    omega
theorem digW_val {k : Nat} (hk : 1 ≤ k) : ∀ (n x : Nat), x < k ^ n → valW k (digW k n x) = x
  | 0, x, h => by simp at h; subst h; rfl
  | n + 1, x, h => by
    unfold digW
    rw [valW_snoc, digW_val hk n (x / k) ((Nat.div_lt_iff_lt_mul hk).2 (by rw [← Nat.pow_succ]; exact h)), Int.toNat_natCast]
    have := Nat.div_add_mod x k
    rw [Nat.mul_comm] at this
    exact this
theorem digW_of {k : Nat} (hk : 1 ≤ k) {X : List Int} (h : okW k X) : digW k X.length (valW k X) = X :=
  valW_inj (by rw [digW_length]) (digW_ok hk _ _) h (digW_val hk _ _ (valW_lt h))

def symN (X : List Int) (j : Nat) : Nat := (X.getD j 0).toNat
/-- the first J symbols times the factors, added up -/
def dotN (fm : Nat → Nat) (X : List Int) : Nat → Nat
  | 0 => 0
  | j + 1 => dotN fm X j + symN X j * fm j
theorem dot_add {fm : Nat → Nat} {A B C : List Int} {K : Nat} : ∀ {J : Nat}, (∀ j, j < J → symN C j = (symN A j + symN B j) % K) → dotN fm C J % K = (dotN fm A J % K + dotN fm B J % K) % K
  | 0, _ => by simp [dotN]
  | J + 1, h => by
    have ih := dot_add (fm := fm) (J := J) (fun j hj => h j (by omega))
    have hj := h J (by omega)
    unfold dotN
    rw [← Nat.add_mod] at ih
    have e1 : ((symN A J + symN B J) % K * fm J) % K = ((symN A J + symN B J) * fm J) % K := by rw [Nat.mul_mod, Nat.mod_mod, ← Nat.mul_mod]
    rw [hj, ← Nat.add_mod, Nat.add_mod (dotN fm C J), ih, e1, ← Nat.add_mod]
    congr 1
    rw [Nat.add_mul]
    omega
/-- the table of a sum -/
def sumT (K L S : Nat) (fm : Nat → Nat) (J : Nat) : List Int := (List.range S).map fun i => ((dotN fm (digW K L i) J % K : Nat) : Int)
theorem sumT_length (K L S : Nat) (fm : Nat → Nat) (J : Nat) : (sumT K L S fm J).length = S := by unfold sumT; simp
theorem sumT_get {K L S : Nat} {fm : Nat → Nat} {J i : Nat} (h : i < S) : (sumT K L S fm J)[i]? = some ((dotN fm (digW K L i) J % K : Nat) : Int) := by
  unfold sumT
  rw [List.getElem?_map, List.getElem?_range h]; rfl
theorem sumT_ok {K L S : Nat} {fm : Nat → Nat} {J : Nat} (hk : 1 ≤ K) : okW K (sumT K L S fm J) := fun x hx => by
  unfold sumT at hx
  obtain ⟨i, _, rfl⟩ := List.mem_map.1 hx
  have : dotN fm (digW K L i) J % K < K := Nat.mod_lt _ hk
  omega
theorem sumT_ent {K R : Nat} {fm : Nat → Nat} {J : Nat} (hk : 1 ≤ K) {X : List Int} (ho : okW K X) (hl : X.length = 2 * R + 1) : ent (sumT K (2 * R + 1) (K ^ (2 * R + 1)) fm J) (valW K X) = ((dotN fm X J % K : Nat) : Int) := by
  have hlt := valW_lt ho
  rw [hl] at hlt
  have h1 := ent_get (t := sumT K (2 * R + 1) (K ^ (2 * R + 1)) fm J) (i := valW K X) (by rw [sumT_length]; exact hlt)
  have hd := digW_of hk ho
  rw [hl] at hd
  rw [sumT_get hlt, hd] at h1
  exact (Option.some.inj h1).symm
theorem symN_win {w : List Int} {i n j : Nat} (h : j < n) : symN (win w i n) j = symN w (i + j) := by
  unfold symN win
  congr 1
  rw [List.getD_eq_getElem?_getD, List.getD_eq_getElem?_getD, List.getElem?_take, if_pos h, List.getElem?_drop]
/-- images of sums are sums of images -/
theorem img_sum {K R : Nat} {fm : Nat → Nat} {J : Nat} (hk : 1 ≤ K) (hJ : J ≤ 2 * R + 1) {a b c : List Int} (ha : okW K a) (hb : okW K b) (hc : okW K c) (hab : a.length = c.length) (hbc : b.length = c.length) (h : ∀ j, symN c j = (symN a j + symN b j) % K) {i : Nat} (hi : i < c.length - 2 * R) :
    ∃ x y z : Nat, (imgW K R (sumT K (2 * R + 1) (K ^ (2 * R + 1)) fm J) a)[i]? = some (x : Int) ∧ (imgW K R (sumT K (2 * R + 1) (K ^ (2 * R + 1)) fm J) b)[i]? = some (y : Int) ∧ (imgW K R (sumT K (2 * R + 1) (K ^ (2 * R + 1)) fm J) c)[i]? = some (z : Int) ∧ x < K ∧ y < K ∧ z = (x + y) % K := by
  refine ⟨dotN fm (win a i (2 * R + 1)) J % K, dotN fm (win b i (2 * R + 1)) J % K, dotN fm (win c i (2 * R + 1)) J % K, ?_, ?_, ?_, Nat.mod_lt _ hk, Nat.mod_lt _ hk, ?_⟩
  · rw [imgW_get (by omega), sumT_ent hk (win_ok ha _ _) (win_length (by omega))]
  · rw [imgW_get (by omega), sumT_ent hk (win_ok hb _ _) (win_length (by omega))]
  · rw [imgW_get (by omega), sumT_ent hk (win_ok hc _ _) (win_length (by omega))]
  · refine dot_add (fun j hj => ?_)
    rw [symN_win (by omega), symN_win (by omega), symN_win (by omega)]
    exact h (i + j)
end Go.Proofs.YtienaogmljlmlaaDoor.RuleM
end
