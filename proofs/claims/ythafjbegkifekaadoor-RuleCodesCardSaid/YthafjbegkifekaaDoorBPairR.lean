/- What the program answers and what the document answers, told by one word: an error, or none. -/
import Derived.Test.YthafjbegkifekaaDoorBRefRC
import Derived.Test.YthafjbegkifekaaDoorB4
import Derived.Test.YthafjbegkifekaaDoorB3
namespace Go.Proofs.YthafjbegkifekaaDoor
open Go.RowKit Go.Extern.Stop Go.Stop Go.Extern WordM RuleM NatM

/-- the program's: nil, or a Fault of this package at this place over the number's error -/
def ErrA (w : World) (A : Nat → Addr) (op : ByteArray) (x : Option (Nat × Nat)) (v : Value) : Prop := match x with
  | none => v = .nilIface
  | some (i, m) => ∃ b, v = .iface 76 (.pointer (some ⟨b, 0, none⟩)) ∧ (Tree.fault b op i (.leaf (A m))).lies w
/-- the document's: its number, and its two slices of one length -/
def ErrB (w : World) (op : ByteArray) (x : Option (Nat × Nat)) (a : Int) (po pa : Option Addr) (n : Nat) : Prop := match x with
  | none => a = 0 ∧ po = none ∧ pa = none ∧ n = 0
  | some (i, m) => a = m ∧ n = 1 ∧ WantV w po pa 1 1 [(op, i)]
theorem ErrA.next {w w' : World} {A : Nat → Addr} {op : ByteArray} {x : Option (Nat × Nat)} {v : Value} (hb : Below w.heap.size w w') (h : ErrA w A op x v) : ErrA w' A op x v := by
  cases x with
  | none => exact h
  | some y =>
    obtain ⟨b, h1, h2⟩ := h
    exact ⟨b, h1, Tree.lies_below hb (t := .fault b op y.1 (.leaf (A y.2))) h2⟩
theorem ErrB.next {w w' : World} {op : ByteArray} {x : Option (Nat × Nat)} {a : Int} {po pa : Option Addr} {n : Nat} (hb : Below w.heap.size w w') (h : ErrB w op x a po pa n) : ErrB w' op x a po pa n := by
  cases x with
  | none => exact h
  | some y => exact ⟨h.1, h.2.1, h.2.2.below hb⟩
/-- numbers that are api's -/
def numOk (x : Option (Nat × Nat)) : Prop := ∀ y, x = some y → 1 ≤ y.2 ∧ y.2 ≤ 11
theorem is_pair {w : World} {A : Nat → Addr} {op : ByteArray} {x : Option (Nat × Nat)} {v : Value} {a : Int} {po pa : Option Addr} {n : Nat} (hr : Roots w A) (hT : TypeVar w) (hx : numOk x) (h : ErrA w A op x v) (h' : ErrB w op x a po pa n) :
    Calls Tryd.prog 13 #[v, .agg #[.int .i64 a, .slice po n n, .slice pa n n]] w (Tells (.bool true) w) := by
  cases x with
  | none =>
    obtain ⟨rfl, rfl, rfl, rfl⟩ := h'
    obtain rfl : v = .nilIface := h
    exact Is_none none none 0 0 0 0 w
  | some y =>
    obtain ⟨rfl, rfl, hw⟩ := h'
    obtain ⟨b, rfl, hl⟩ := h
    exact Is_chain [(b, op, (y.1 : Int))] y.2 (hx y rfl) po pa 1 1 1 w A hr hT hl hw rfl

/-- the posts -/
def PostA (w : World) (A : Nat → Addr) (op : ByteArray) (x : Option (Nat × Nat)) (e : Ending) (w' : World) : Prop := ∃ v, e = .returned v ∧ ErrA w' A op x v ∧ Below w.heap.size w w'
def PostB (w : World) (op : ByteArray) (x : Option (Nat × Nat)) (e : Ending) (w' : World) : Prop :=
  ∃ a po pa n, e = .returned (.agg #[.int .i64 a, .slice po n n, .slice pa n n]) ∧ ErrB w' op x a po pa n ∧ Below w.heap.size w w'
/-- behind a first result, of which P tells -/
def PostA2 (w : World) (A : Nat → Addr) (op : ByteArray) (x : Option (Nat × Nat)) (u : Value) (e : Ending) (w' : World) : Prop := ∃ v, e = .returned (.tuple #[u, v]) ∧ ErrA w' A op x v ∧ Below w.heap.size w w'
def PostB2 (w : World) (op : ByteArray) (x : Option (Nat × Nat)) (u : Value) (e : Ending) (w' : World) : Prop :=
  ∃ a po pa n, e = .returned (.tuple #[u, .agg #[.int .i64 a, .slice po n n, .slice pa n n]]) ∧ ErrB w' op x a po pa n ∧ Below w.heap.size w w'
theorem RefErrR.b {w w' : World} {i m : Nat} {v : Value} (h : RefErrR w i m v w') : ∃ a po pa n, v = .agg #[.int .i64 a, .slice po n n, .slice pa n n] ∧ ErrB w' ruleOp (some (i, m)) a po pa n ∧ Below w.heap.size w w' := by
  obtain ⟨g, g', rfl, _, hw, hb⟩ := h
  exact ⟨_, _, _, _, rfl, ⟨rfl, rfl, hw⟩, hb⟩

/-- the fault of a rule, with its number -/
def fltR (k r : Int) (t : List Int) : Option (Nat × Nat) := (chkR k r t).map fun i => (i, 1)
theorem numOk_fltR (k r : Int) (t : List Int) : numOk (fltR k r t) := fun y hy => by
  unfold fltR at hy
  obtain ⟨i, _, rfl⟩ := Option.map_eq_some_iff.1 hy
  simp
theorem numOk_chkS (k r : Int) (t : List Int) : numOk (chkS k r t) := fun y hy => by
  unfold chkS at hy
  split at hy
  · obtain rfl := Option.some.inj hy; simp
  · split at hy
    · obtain rfl := Option.some.inj hy; simp
    · cases hy
/-- where Size refuses -/
def chkZ (k r : Int) : Option (Nat × Nat) := if (k < 1 ∨ 4 < k) ∨ r < 0 ∨ 3 < r then some (0, 3) else none
def sizeZ (k r : Int) : Int := if (k < 1 ∨ 4 < k) ∨ r < 0 ∨ 3 < r then 0 else ((k.toNat ^ (2 * r.toNat + 1) : Nat) : Int)
theorem numOk_chkZ (k r : Int) : numOk (chkZ k r) := fun y hy => by
  unfold chkZ at hy
  split at hy
  · obtain rfl := Option.some.inj hy; simp
  · cases hy
theorem size_a (k r : Int) (w : World) (A : Nat → Addr) (hr : Roots w A) : Calls Tryd.prog 11 #[.int .i64 k, .int .i64 r] w (PostA2 w A ruleOp (chkZ k r) (.int .i64 (sizeZ k r))) := by
  unfold chkZ sizeZ
  split
  · rename_i h
    exact (size_bad k r w A hr h).mono fun e w' ⟨b, he, hl, hb⟩ => ⟨_, he, ⟨b, rfl, hl⟩, hb⟩
  · rename_i h
    obtain ⟨K, rfl⟩ : ∃ K : Nat, k = K := ⟨k.toNat, by omega⟩
    obtain ⟨R, rfl⟩ : ∃ R : Nat, r = R := ⟨r.toNat, by omega⟩
    rw [Int.toNat_natCast, Int.toNat_natCast]
    exact (size_ok K R w (by omega) (by omega) (by omega)).mono fun e w' ⟨he, hw⟩ => ⟨_, he, rfl, by rw [← hw]; exact Below.refl _ _⟩
theorem size_b (k r : Int) (w : World) : Calls Tryd.prog 12 #[.int .i64 k, .int .i64 r] w (PostB2 w ruleOp (chkZ k r) (.int .i64 (sizeZ k r))) := by
  unfold chkZ sizeZ
  split
  · rename_i h
    exact (size_ref_bad k r w h).mono fun e w' ⟨v, he, hv⟩ => by
      obtain ⟨a, po, pa, n, rfl, h1, h2⟩ := RefErrR.b (i := 0) (m := 3) hv
      exact ⟨a, po, pa, n, he, h1, h2⟩
  · rename_i h
    obtain ⟨K, rfl⟩ : ∃ K : Nat, k = K := ⟨k.toNat, by omega⟩
    obtain ⟨R, rfl⟩ : ∃ R : Nat, r = R := ⟨r.toNat, by omega⟩
    rw [Int.toNat_natCast, Int.toNat_natCast]
    exact (size_ref_ok K R w (by omega) (by omega) (by omega)).mono fun e w' ⟨he, hb⟩ => ⟨0, none, none, 0, he, ⟨rfl, rfl, rfl, rfl⟩, hb⟩
theorem check_a (k r : Int) (p : Option Addr) (n c : Nat) (t : List Int) (w : World) (A : Nat → Addr) (hr : Roots w A) (hn : n = t.length) (h : IntV w.heap.size w p c t) :
    Calls Tryd.prog 14 #[.agg #[.int .i64 k, .int .i64 r, .slice p n c]] w (PostA w A ruleOp (fltR k r t)) := by
  unfold fltR
  cases hc : chkR k r t with
  | some i => exact (rcheck_bad k r p n c t w A hr hn h i hc).mono fun e w' ⟨b, he, hl, hb⟩ => ⟨_, he, ⟨b, rfl, hl⟩, hb⟩
  | none =>
    obtain ⟨K, R, rfl, rfl, ho⟩ := chkR_none hc
    exact (rcheck_ok K R p n c t w hn h ho).mono fun e w' ⟨he, hb⟩ => ⟨_, he, rfl, hb⟩
theorem check_b (k r : Int) (p : Option Addr) (n c : Nat) (t : List Int) (w : World) (hn : n = t.length) (h : IntV w.heap.size w p c t) :
    Calls Tryd.prog 15 #[.agg #[.int .i64 k, .int .i64 r, .slice p n c]] w (PostB w ruleOp (fltR k r t)) := by
  unfold fltR
  cases hc : chkR k r t with
  | some i =>
    exact (rcheck_ref_bad k r p n c t w hn h i hc).mono fun e w' ⟨v, he, hv⟩ => by
      obtain ⟨a, po, pa, m, rfl, h1, h2⟩ := RefErrR.b (i := i) (m := 1) hv
      exact ⟨a, po, pa, m, he, h1, h2⟩
  | none =>
    obtain ⟨K, R, rfl, rfl, ho⟩ := chkR_none hc
    exact (rcheck_ref_ok K R p n c t w hn h ho).mono fun e w' ⟨he, hb⟩ => ⟨0, none, none, 0, he, ⟨rfl, rfl, rfl, rfl⟩, hb⟩
theorem small_a (k r : Int) (p : Option Addr) (n c : Nat) (t : List Int) (w : World) (A : Nat → Addr) (hr : Roots w A) (hn : n = t.length) (h : IntV w.heap.size w p c t) :
    Calls Tryd.prog 16 #[.agg #[.int .i64 k, .int .i64 r, .slice p n c]] w (PostA w A ruleOp (chkS k r t)) := by
  cases hc : chkS k r t with
  | some y => exact (small_bad k r p n c t w A hr hn h y.1 y.2 hc).mono fun e w' ⟨b, he, hl, hb⟩ => ⟨_, he, ⟨b, rfl, hl⟩, hb⟩
  | none =>
    obtain ⟨K, R, rfl, rfl, ho, hs⟩ := chkS_none hc
    exact (small_ok K R p n c t w hn h ho hs).mono fun e w' ⟨he, hb⟩ => ⟨_, he, rfl, hb⟩
theorem small_b (k r : Int) (p : Option Addr) (n c : Nat) (t : List Int) (w : World) (hn : n = t.length) (h : IntV w.heap.size w p c t) :
    Calls Tryd.prog 17 #[.agg #[.int .i64 k, .int .i64 r, .slice p n c]] w (PostB w ruleOp (chkS k r t)) := by
  unfold chkS
  cases hc : chkR k r t with
  | some i =>
    exact (small_ref_fault k r p n c t w hn h i hc).mono fun e w' ⟨v, he, hv⟩ => by
      obtain ⟨a, po, pa, m, rfl, h1, h2⟩ := RefErrR.b (i := i) (m := 1) hv
      exact ⟨a, po, pa, m, he, h1, h2⟩
  | none =>
    obtain ⟨K, R, rfl, rfl, ho⟩ := chkR_none hc
    simp only []
    split
    · exact (small_ref_big K R p n c t w hn h ho (by omega)).mono fun e w' ⟨v, he, hv⟩ => by
        obtain ⟨a, po, pa, m, rfl, h1, h2⟩ := RefErrR.b (i := 0) (m := 4) hv
        exact ⟨a, po, pa, m, he, h1, h2⟩
    · exact (small_ref_ok K R p n c t w hn h ho (by omega)).mono fun e w' ⟨he, hb⟩ => ⟨0, none, none, 0, he, ⟨rfl, rfl, rfl, rfl⟩, hb⟩
end Go.Proofs.YthafjbegkifekaaDoor
