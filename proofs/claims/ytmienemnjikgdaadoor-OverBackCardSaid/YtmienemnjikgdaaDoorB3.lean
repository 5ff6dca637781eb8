/- Plain mathematics of the graph of a rule: what can be written from a node on, preimages in the order of words, nodes along a word.
Errors of the program and of the document, told by one word: a first list and an error beside it.
Package overlap by its contracts, first part: nodes, follow, checkRule, check.
Package overlap by its contracts: check.
Package overlap by its contracts: Nodes, Edge.
A range over a function whose rounds come in a fixed order and all go on: a law by the round's number, and the contract of slices.Backward over a list of ints.
Lists of ints: make, slices.Grow of nil, slices.Concat.
Package overlap by its contracts: wordOf.
Contracts of library functions, laid at this program's numbers by the kit's lay-plain.mjs: what each says stands in its type.
Lists of ints: slices.Repeat.
Lists of bools: make, slices.Repeat of one true.
Package overlap by its contracts: open; first the table in memory. -/
import Derived.Test.YtmienemnjikgdaaDoorB2
import Derived.Test.YtmienemnjikgdaaDoorB1
import Derived.Deep.DrawnRows
import Derived.OwnWalk
import Derived.RangeFuncFrom
import Derived.RangeFuncCalls
import Derived.RangeFuncLeaves
import Derived.RangeFuncBox
import Derived.Shelf.AbstractIn
import Derived.Shelf.RegionOpen
import Derived.OwnWalkIn
import Derived.TacticsInMore
import Derived.LoopNIn
import Derived.LoopIn
import Derived.Sort.CutIn
import Derived.Laws.AppendOwnNone
import Derived.Lib.AppendZerosOnto
import Derived.Lib.Walk
import Derived.Laws.Append
import Derived.Lib.SliceRun
import Derived.Shelf.Bits.Mul64
import Derived.Ground.Names2Prog
import Derived.Shelf.Slices.Clone
import Derived.Test.YtmienemnjikgdaaDoorProg
import Derived.Laws.CopyOwn
import Derived.Deep.RegionLaw
section
namespace Go.Proofs.YtmienemnjikgdaaDoor.RuleM
open WordM
/-! ### the graph of a rule: nodes are words of 2 r symbols, told by their numbers -/
theorem nod_pos {k r : Nat} (h : 1 ≤ k) : 1 ≤ k ^ (2 * r) := Nat.pow_pos h
theorem nod_len {k r : Nat} {t : List Int} (h : OkR k r t) : t.length = k ^ (2 * r) * k := by rw [h.len, Nat.pow_succ]
theorem nod_div {k r : Nat} {t : List Int} (h : OkR k r t) : t.length / k = k ^ (2 * r) := by rw [nod_len h, Nat.mul_div_cancel _ h.k1]
theorem edge_lt {n k u s : Nat} (hu : u < n) (hs : s < k) : u * k + s < n * k := by
  have : (u + 1) * k ≤ n * k := Nat.mul_le_mul_right _ hu
  rw [Nat.add_mul, Nat.one_mul] at this
  omega
theorem edge_val {k r u s : Nat} (hk : 1 ≤ k) (hu : u < k ^ (2 * r)) : valW k (digW k (2 * r) u ++ [(s : Int)]) = u * k + s := by
  rw [valW_snoc, digW_val hk _ _ hu, Int.toNat_natCast]
theorem okW_one {k s : Nat} (hs : s < k) : okW k [(s : Int)] := fun x hx => by
  obtain rfl := List.mem_singleton.1 hx
  omega
theorem val_tail {k n : Nat} {X : List Int} (h : okW k X) (hl : X.length = n + 1) : valW k (X.drop 1) = valW k X % k ^ n := by
  have h1 := valW_mod (k := k) (a := X.take 1) (okW_drop h 1)
  rw [List.take_append_drop, List.length_drop, hl, Nat.add_sub_cancel] at h1
  exact h1.symm
theorem edge_to {k r u s : Nat} (hk : 1 ≤ k) (hu : u < k ^ (2 * r)) (hs : s < k) : valW k ((digW k (2 * r) u ++ [(s : Int)]).drop 1) = (u * k + s) % k ^ (2 * r) := by
  rw [val_tail (okW_app (digW_ok hk _ _) (okW_one hs)) (by rw [List.length_append, digW_length]; rfl), edge_val hk hu]

/-! ### what can be written from a node on, and the words that do it -/
def canW (k n : Nat) (t : List Int) : List Int → Nat → Bool
  | [], _ => true
  | c :: w, u => (List.range k).any fun s => decide (ent t (u * k + s) = c) && canW k n t w ((u * k + s) % n)
/-- by the first j symbols -/
def canTo (k n : Nat) (t : List Int) (c : Int) (w : List Int) (u j : Nat) : Bool := (List.range j).any fun s => decide (ent t (u * k + s) = c) && canW k n t w ((u * k + s) % n)
theorem canTo_zero (k n : Nat) (t : List Int) (c : Int) (w : List Int) (u : Nat) : canTo k n t c w u 0 = false := rfl
theorem canTo_succ (k n : Nat) (t : List Int) (c : Int) (w : List Int) (u j : Nat) : canTo k n t c w u (j + 1) = (canTo k n t c w u j || (decide (ent t (u * k + j) = c) && canW k n t w ((u * k + j) % n))) := by
  unfold canTo
  rw [List.range_succ, List.any_append]
  simp
theorem canTo_all (k n : Nat) (t : List Int) (c : Int) (w : List Int) (u : Nat) : canTo k n t c w u k = canW k n t (c :: w) u := rfl
def preW (k n : Nat) (t : List Int) : List Int → List Int → Nat → List (List Int)
  | [], x, _ => [x]
  | c :: w, x, u => (List.range k).flatMap fun s => if ent t (u * k + s) = c then preW k n t w (x ++ [(s : Int)]) ((u * k + s) % n) else []
def preTo (k n : Nat) (t : List Int) (c : Int) (w x : List Int) (u j : Nat) : List (List Int) := (List.range j).flatMap fun s => if ent t (u * k + s) = c then preW k n t w (x ++ [(s : Int)]) ((u * k + s) % n) else []
theorem preTo_zero (k n : Nat) (t : List Int) (c : Int) (w x : List Int) (u : Nat) : preTo k n t c w x u 0 = [] := rfl
theorem preTo_yes {k n : Nat} {t : List Int} {c : Int} (w x : List Int) {u j : Nat} (h : ent t (u * k + j) = c) : preTo k n t c w x u (j + 1) = preTo k n t c w x u j ++ preW k n t w (x ++ [(j : Int)]) ((u * k + j) % n) := by
  unfold preTo
  rw [List.range_succ, List.flatMap_append]
  simp [h]
theorem preTo_no {k n : Nat} {t : List Int} {c : Int} (w x : List Int) {u j : Nat} (h : ent t (u * k + j) ≠ c) : preTo k n t c w x u (j + 1) = preTo k n t c w x u j := by
  unfold preTo
  rw [List.range_succ, List.flatMap_append]
  simp [h]
theorem preTo_all (k n : Nat) (t : List Int) (c : Int) (w x : List Int) (u : Nat) : preTo k n t c w x u k = preW k n t (c :: w) x u := rfl
theorem pre_can (k n : Nat) (t : List Int) : ∀ (w x : List Int) (u : Nat), preW k n t w x u = [] ↔ canW k n t w u = false
  | [], x, u => by simp [preW, canW]
  | c :: w, x, u => by
    show (List.range k).flatMap _ = [] ↔ (List.range k).any _ = false
    rw [List.flatMap_eq_nil_iff, List.any_eq_false]
    constructor
    · intro h s hs
      have h1 := h s hs
      by_cases he : ent t (u * k + s) = c
      · rw [if_pos he, pre_can k n t w] at h1
        simp [h1]
      · simp [he]
    · intro h s hs
      have h1 := h s hs
      by_cases he : ent t (u * k + s) = c
      · rw [if_pos he, pre_can k n t w]
        simpa [he] using h1
      · rw [if_neg he]
/-- from the first j nodes -/
def preN (k r : Nat) (t w : List Int) (j : Nat) : List (List Int) := (List.range j).flatMap fun u => preW k (k ^ (2 * r)) t w (digW k (2 * r) u) u
def preAll (k r : Nat) (t w : List Int) : List (List Int) := preN k r t w (k ^ (2 * r))
theorem preN_succ (k r : Nat) (t w : List Int) (j : Nat) : preN k r t w (j + 1) = preN k r t w j ++ preW k (k ^ (2 * r)) t w (digW k (2 * r) j) j := by
  unfold preN
  rw [List.range_succ, List.flatMap_append]
  simp
def hasW (k r : Nat) (t w : List Int) : Bool := (List.range (k ^ (2 * r))).any (canW k (k ^ (2 * r)) t w)
theorem has_pre (k r : Nat) (t w : List Int) : hasW k r t w = false ↔ preAll k r t w = [] := by
  unfold hasW preAll preN
  constructor
  · intro h
    refine List.flatMap_eq_nil_iff.2 fun u hu => ?_
    have h1 := List.any_eq_false.1 h u hu
    exact (pre_can _ _ _ _ _ _).2 (by simpa using h1)
  · intro h
    rw [List.any_eq_false]
    intro u hu
    have := (pre_can k (k ^ (2 * r)) t w (digW k (2 * r) u) u).1 (List.flatMap_eq_nil_iff.1 h u hu)
    simp [this]

/-! ### the labels along a word, and images -/
def labW (k n : Nat) (t : List Int) : Nat → List Int → List Int
  | _, [] => []
  | u, s :: z => ent t (u * k + s.toNat) :: labW k n t ((u * k + s.toNat) % n) z
theorem pre_mem (k n : Nat) (t : List Int) : ∀ (w x : List Int) (u : Nat) (y : List Int), y ∈ preW k n t w x u ↔ ∃ z, y = x ++ z ∧ okW k z ∧ z.length = w.length ∧ labW k n t u z = w
  | [], x, u, y => by
    show y ∈ [x] ↔ _
    rw [List.mem_singleton]
    constructor
    · rintro rfl
      exact ⟨[], by simp, okW_nil k, rfl, rfl⟩
    · rintro ⟨z, rfl, _, hl, _⟩
      obtain rfl : z = [] := List.eq_nil_of_length_eq_zero (by simpa using hl)
      exact List.append_nil x
  | c :: w, x, u, y => by
    show y ∈ (List.range k).flatMap _ ↔ _
    rw [List.mem_flatMap]
    constructor
    · rintro ⟨s, hs, hy⟩
      have hsk := List.mem_range.1 hs
      by_cases he : ent t (u * k + s) = c
      · rw [if_pos he, pre_mem k n t w] at hy
        obtain ⟨z, rfl, hz, hl, hw⟩ := hy
        refine ⟨(s : Int) :: z, by simp, ?_, by simpa using hl, ?_⟩
        · exact okW_app (okW_one hsk) hz
        · show ent t (u * k + (s : Int).toNat) :: labW k n t ((u * k + (s : Int).toNat) % n) z = _
          rw [Int.toNat_natCast, he, hw]
      · rw [if_neg he] at hy
        cases hy
    · rintro ⟨z, rfl, hz, hl, hw⟩
      cases z with
      | nil => cases hl
      | cons s z =>
        obtain ⟨h0, h1⟩ := hz s (List.mem_cons_self ..)
        obtain ⟨S, rfl⟩ : ∃ S : Nat, s = S := ⟨s.toNat, by omega⟩
        have hw' : ent t (u * k + (S : Int).toNat) :: labW k n t ((u * k + (S : Int).toNat) % n) z = c :: w := hw
        rw [Int.toNat_natCast] at hw'
        obtain ⟨h2, h3⟩ := List.cons.inj hw'
        refine ⟨S, List.mem_range.2 (by omega), ?_⟩
        rw [if_pos h2, pre_mem k n t w]
        exact ⟨z, by simp, fun a ha => hz a (List.mem_cons_of_mem _ ha), by simpa using hl, h3⟩
theorem img_cons {k r : Nat} {t y : List Int} (h : 2 * r < y.length) : imgW k r t y = ent t (valW k (y.take (2 * r + 1))) :: imgW k r t (y.drop 1) := by
  apply List.ext_getElem?
  intro i
  cases i with
  | zero =>
    rw [imgW_get (by omega)]
    rfl
  | succ i =>
    show _ = (imgW k r t (y.drop 1))[i]?
    by_cases hi : i + 1 < y.length - 2 * r
    · rw [imgW_get hi, imgW_get (by rw [List.length_drop]; omega)]
      unfold win
      rw [List.drop_drop, Nat.add_comm 1 i]
    · rw [List.getElem?_eq_none (by rw [imgW_length]; omega), List.getElem?_eq_none (by rw [imgW_length, List.length_drop]; omega)]
theorem lab_img {k r : Nat} {t : List Int} : ∀ (z a : List Int), okW k a → okW k z → a.length = 2 * r → imgW k r t (a ++ z) = labW k (k ^ (2 * r)) t (valW k a) z
  | [], a, _, _, hl => imgW_nil (by simp [hl])
  | s :: z, a, ha, hz, hl => by
    have hs := hz s (List.mem_cons_self ..)
    have hz' : okW k z := fun x hx => hz x (List.mem_cons_of_mem _ hx)
    have h1 : okW k [s] := fun x hx => by obtain rfl := List.mem_singleton.1 hx; exact hs
    have hb := okW_app ha h1
    have hlen : (a ++ [s]).length = 2 * r + 1 := by rw [List.length_append, hl]; rfl
    have he : a ++ s :: z = (a ++ [s]) ++ z := by simp
    rw [img_cons (by rw [he, List.length_append]; omega), he, List.take_append_of_le_length (by omega), List.take_of_length_le (by omega), List.drop_append_of_le_length (by omega), lab_img z _ (okW_drop hb 1) hz' (by rw [List.length_drop]; omega), val_tail hb hlen, valW_snoc]
    rfl
/-- a word is among those told just if it is a preimage -/
theorem preAll_mem {k r : Nat} {t w : List Int} (hk : 1 ≤ k) (y : List Int) : y ∈ preAll k r t w ↔ okW k y ∧ y.length = w.length + 2 * r ∧ imgW k r t y = w := by
  unfold preAll preN
  rw [List.mem_flatMap]
  constructor
  · rintro ⟨u, hu, hy⟩
    have huk := List.mem_range.1 hu
    obtain ⟨z, rfl, hz, hl, hw⟩ := (pre_mem _ _ _ _ _ _ _).1 hy
    refine ⟨okW_app (digW_ok hk _ _) hz, by rw [List.length_append, digW_length]; omega, ?_⟩
    rw [lab_img z _ (digW_ok hk _ _) hz (digW_length _ _ _), digW_val hk _ _ huk, hw]
  · rintro ⟨ho, hl, hw⟩
    have hl1 : (y.take (2 * r)).length = 2 * r := by rw [List.length_take]; omega
    have hlt := valW_lt (okW_take ho (2 * r))
    rw [hl1] at hlt
    refine ⟨valW k (y.take (2 * r)), List.mem_range.2 hlt, (pre_mem _ _ _ _ _ _ _).2 ⟨y.drop (2 * r), ?_, okW_drop ho _, by rw [List.length_drop]; omega, ?_⟩⟩
    · rw [digW_of' hk (okW_take ho _) hl1, List.take_append_drop]
    · rw [← lab_img _ _ (okW_take ho _) (okW_drop ho _) hl1, List.take_append_drop]
      exact hw

/-! ### they stand in the order of words -/
theorem lexC_pre : ∀ (x a b : List Int), lexC (x ++ a) (x ++ b) = lexC a b
  | [], a, b => rfl
  | c :: x, a, b => by
    show (if c < c then (-1 : Int) else if c < c then 1 else lexC (x ++ a) (x ++ b)) = _
    rw [if_neg (by omega), if_neg (by omega), lexC_pre x]
theorem lexC_front : ∀ {a b : List Int} (c d : List Int), a.length = b.length → lexC a b = -1 → lexC (a ++ c) (b ++ d) = -1
  | [], [], c, d, _, h => by cases h
  | [], _ :: _, _, _, h, _ => by simp at h
  | _ :: _, [], _, _, h, _ => by simp at h
  | x :: a, y :: b, c, d, hl, h => by
    unfold lexC at h
    show (if x < y then (-1 : Int) else if y < x then 1 else lexC (a ++ c) (b ++ d)) = _
    split at h
    · rename_i h1; rw [if_pos h1]
    · rename_i h1
      split at h
      · cases h
      · rename_i h2
        rw [if_neg h1, if_neg h2]
        exact lexC_front c d (by simpa using hl) h
theorem pre_sorted (k n : Nat) (t : List Int) : ∀ (w x : List Int) (u : Nat), (preW k n t w x u).Pairwise fun a b => lexC a b = -1
  | [], x, u => List.pairwise_singleton _ _
  | c :: w, x, u => by
    show ((List.range k).flatMap _).Pairwise _
    rw [List.pairwise_flatMap]
    refine ⟨fun s _ => ?_, ?_⟩
    · split
      · exact pre_sorted k n t w _ _
      · exact List.Pairwise.nil
    · refine List.Pairwise.imp ?_ (List.pairwise_lt_range (n := k))
      intro s s' hlt a ha b hb
      split at ha
      · split at hb
        · obtain ⟨z, rfl, _⟩ := (pre_mem _ _ _ _ _ _ _).1 ha
          obtain ⟨z', rfl, _⟩ := (pre_mem _ _ _ _ _ _ _).1 hb
          rw [List.append_assoc, List.append_assoc, lexC_pre]
          show (if (s : Int) < (s' : Int) then (-1 : Int) else _) = -1
          rw [if_pos (by omega)]
        · cases hb
      · cases ha
theorem preAll_sorted {k r : Nat} {t w : List Int} (hk : 1 ≤ k) : (preAll k r t w).Pairwise fun a b => lexC a b = -1 := by
  unfold preAll preN
  rw [List.pairwise_flatMap]
  refine ⟨fun u _ => pre_sorted _ _ _ _ _ _, ?_⟩
  have hp : (List.range (k ^ (2 * r))).Pairwise fun u v => u < v ∧ v < k ^ (2 * r) := by
    rw [List.pairwise_iff_getElem]
    intro i j hi hj hij
    rw [List.length_range] at hi hj
    simp only [List.getElem_range]
    exact ⟨hij, hj⟩
  refine List.Pairwise.imp ?_ hp
  intro u v ⟨huv, hv⟩ a ha b hb
  obtain ⟨z, rfl, _⟩ := (pre_mem _ _ _ _ _ _ _).1 ha
  obtain ⟨z', rfl, _⟩ := (pre_mem _ _ _ _ _ _ _).1 hb
  refine lexC_front z z' (by rw [digW_length, digW_length]) ?_
  have h1 := digW_val hk (2 * r) u (by omega)
  have h2 := digW_val hk (2 * r) v hv
  rcases lex_val (k := k) (a := digW k (2 * r) u) (b := digW k (2 * r) v) (by rw [digW_length, digW_length]) (digW_ok hk _ _) (digW_ok hk _ _) with h | h | h
  · exact h.1
  · omega
  · omega

/-! ### a list that is filled up to a limit -/
def updL (m : Nat) (A L : List (List Int)) : List (List Int) := (A ++ L).take m
def updB (m : Nat) (A L : List (List Int)) (b : Bool) : Bool := b || decide (m < (A ++ L).length)
theorem updL_le (m : Nat) (A L : List (List Int)) : (updL m A L).length ≤ m := by unfold updL; rw [List.length_take]; omega
theorem upd_nil {m : Nat} {A : List (List Int)} (h : A.length ≤ m) (b : Bool) : updL m A [] = A ∧ updB m A [] b = b := by
  unfold updL updB
  rw [List.append_nil, List.take_of_length_le h, decide_eq_false (by omega), Bool.or_false]
  exact ⟨rfl, rfl⟩
theorem upd_app {m : Nat} {A : List (List Int)} (L M : List (List Int)) (b : Bool) : updL m (updL m A L) M = updL m A (L ++ M) ∧ updB m (updL m A L) M (updB m A L b) = updB m A (L ++ M) b := by
  unfold updL updB
  by_cases h : (A ++ L).length ≤ m
  · rw [List.take_of_length_le h, List.append_assoc, decide_eq_false (by omega), Bool.or_false]
    exact ⟨rfl, rfl⟩
  · have h1 : ((A ++ L).take m).length = m := by rw [List.length_take]; omega
    refine ⟨?_, ?_⟩
    · rw [List.take_append_of_le_length (Nat.le_of_eq h1.symm), List.take_take, Nat.min_self, ← List.append_assoc, List.take_append_of_le_length (l₁ := A ++ L) (by omega)]
    · have h2 : m < (A ++ L).length := by omega
      have h3 : m < (A ++ (L ++ M)).length := by rw [← List.append_assoc, List.length_append]; omega
      rw [decide_eq_true h2, decide_eq_true h3]
      simp
theorem upd_full {m : Nat} {A L : List (List Int)} (h : A.length = m) (hl : L ≠ []) (b : Bool) : updL m A L = A ∧ updB m A L b = true := by
  unfold updL updB
  have h1 := List.length_pos_iff.2 hl
  refine ⟨by rw [List.take_append_of_le_length (by omega), List.take_of_length_le (by omega)], ?_⟩
  rw [decide_eq_true (by rw [List.length_append]; omega), Bool.or_true]
theorem upd_one {m : Nat} {A : List (List Int)} (h : A.length < m) (x : List Int) (b : Bool) : updL m A [x] = A ++ [x] ∧ updB m A [x] b = b := by
  unfold updL updB
  have h1 : (A ++ [x]).length = A.length + 1 := by rw [List.length_append]; rfl
  refine ⟨List.take_of_length_le (by omega), ?_⟩
  rw [decide_eq_false (by omega), Bool.or_false]
theorem upd_more {m : Nat} {A L : List (List Int)} (h : A.length = m) : updL m A L = A ∧ updB m A L true = true := by
  unfold updL updB
  exact ⟨by rw [List.take_append_of_le_length (by omega), List.take_of_length_le (by omega)], rfl⟩
/-- what holds all the time: the limit is kept, and more are told only where it is reached -/
theorem upd_kept {m : Nat} {A L : List (List Int)} {b : Bool} (h : b = true → A.length = m) : updB m A L b = true → (updL m A L).length = m := fun e => by
  unfold updB at e
  unfold updL
  rw [List.length_take]
  rcases Bool.or_eq_true_iff.1 e with e | e
  · have := h e
    rw [List.length_append]; omega
  · have := of_decide_eq_true e
    omega
theorem upd_zero (m : Nat) (L : List (List Int)) : updL m [] L = L.take m ∧ updB m [] L false = decide (m < L.length) := ⟨rfl, rfl⟩

/-! ### the nodes along a word -/
def nodsW (k r : Nat) (x : List Int) : List Int := (List.range (x.length + 1 - 2 * r)).map fun i => ((valW k (win x i (2 * r)) : Nat) : Int)
theorem nodsW_length (k r : Nat) (x : List Int) : (nodsW k r x).length = x.length + 1 - 2 * r := by unfold nodsW; simp
theorem nodsW_get {k r : Nat} {x : List Int} {i : Nat} (h : i < x.length + 1 - 2 * r) : (nodsW k r x)[i]? = some ((valW k (win x i (2 * r)) : Nat) : Int) := by
  unfold nodsW
  rw [List.getElem?_map, List.getElem?_range h]; rfl
theorem win_snoc {x : List Int} {i n : Nat} {s : Int} (h : x[i + n]? = some s) : win x i (n + 1) = win x i n ++ [s] := by
  unfold win
  rw [List.take_add_one, List.getElem?_drop, h]; rfl
theorem win_next (x : List Int) (i n : Nat) : win x (i + 1) n = (win x i (n + 1)).drop 1 := by
  unfold win
  rw [List.drop_take, List.drop_drop, Nat.add_sub_cancel]
/-- the next window and node -/
theorem roll_win {k r i : Nat} {x : List Int} {s : Nat} (h : x[i + 2 * r]? = some (s : Int)) : valW k (win x i (2 * r + 1)) = valW k (win x i (2 * r)) * k + s := by
  rw [win_snoc h, valW_snoc, Int.toNat_natCast]
theorem roll_node {k r i : Nat} {x : List Int} {s : Nat} (ho : okW k x) (h : x[i + 2 * r]? = some (s : Int)) : valW k (win x (i + 1) (2 * r)) = (valW k (win x i (2 * r)) * k + s) % k ^ (2 * r) := by
  have hl : i + 2 * r < x.length := (List.getElem?_eq_some_iff.1 h).1
  rw [win_next, val_tail (win_ok ho _ _) (win_length (by omega)), roll_win h]
end Go.Proofs.YtmienemnjikgdaaDoor.RuleM
end
section
namespace Go.Proofs.YtmienemnjikgdaaDoor
open Go.RowKit Go.Extern.Stop Go.Stop Go.Extern

/-- the document's error, its two slices of any capacity -/
def WCg (w : World) (x : Option (List (ByteArray × Int) × Nat)) (a : Int) (po pa : Option Addr) (n co ca : Nat) : Prop := match x with
  | none => a = 0 ∧ po = none ∧ pa = none ∧ n = 0 ∧ co = 0 ∧ ca = 0
  | some (L, m) => a = m ∧ n = L.length ∧ WantV w po pa co ca L
theorem WCg.next {w w' : World} {x : Option (List (ByteArray × Int) × Nat)} {a : Int} {po pa : Option Addr} {n co ca : Nat} (hb : Below w.heap.size w w') (h : WCg w x a po pa n co ca) : WCg w' x a po pa n co ca := by
  cases x with
  | none => exact h
  | some y => exact ⟨h.1, h.2.1, h.2.2.below hb⟩
theorem is_wcg {w : World} {A : Nat → Addr} {x : Option (List (ByteArray × Int) × Nat)} {v : Value} {a : Int} {po pa : Option Addr} {n co ca : Nat} (hr : Roots w A) (hT : TypeVar w) (hx : ∀ y, x = some y → 1 ≤ y.2 ∧ y.2 ≤ 11) (h : PChn w A x v) (h' : WCg w x a po pa n co ca) :
    Calls Tryd.prog 14 #[v, .agg #[.int .i64 a, .slice po n co, .slice pa n ca]] w (Tells (.bool true) w) := by
  cases x with
  | none =>
    obtain ⟨rfl, rfl, rfl, rfl, rfl, rfl⟩ := h'
    obtain rfl : v = .nilIface := h
    exact Is_none none none 0 0 0 0 w
  | some y =>
    obtain ⟨rfl, hn, hw⟩ := h'
    obtain ⟨b, rfl, op, pl, bs, hL, hl⟩ := h
    have hL2 : List.map Prod.snd ((b, op, pl) :: bs) = y.1 := hL
    exact Is_chain ((b, op, pl) :: bs) y.2 (hx y rfl) po pa n co ca w A hr hT hl (by rw [hL2]; exact hw) (by rw [hn, ← hL2, List.length_map])
def ProgL (w : World) (A : Nat → Addr) (x : Option (List (ByteArray × Int) × Nat)) (I : List Int) (e : Ending) (w' : World) : Prop :=
  ∃ p c v, e = .returned (.tuple #[.slice p I.length c, v]) ∧ IntO w.heap.size w' p c I ∧ PChn w' A x v ∧ Below w.heap.size w w'
def RefL (w : World) (x : Option (List (ByteArray × Int) × Nat)) (I : List Int) (e : Ending) (w' : World) : Prop :=
  ∃ p c a po pa n co ca, e = .returned (.tuple #[.slice p I.length c, .agg #[.int .i64 a, .slice po n co, .slice pa n ca]]) ∧ IntO w.heap.size w' p c I ∧ WCg w' x a po pa n co ca ∧ Below w.heap.size w w'
theorem ProgL.ok {w w' : World} {A : Nat → Addr} {x : Option (List (ByteArray × Int) × Nat)} {I : List Int} {e : Ending} (hx : x = none) (h : IntOk w I e w') : ProgL w A x I e w' := by
  obtain ⟨p, c, he, ho, hb⟩ := h
  subst hx
  exact ⟨p, c, _, he, ho, rfl, hb⟩
theorem ProgL.bad {w w' : World} {A : Nat → Addr} {x : Option (List (ByteArray × Int) × Nat)} {I : List Int} {L : List (ByteArray × Int)} {M : Nat} {e : Ending} (hx : x = some (L, M)) (hI : I = []) (h : FErr2 w A L M (.slice none 0 0) e w') : ProgL w A x I e w' := by
  obtain ⟨b, he, hl, hb⟩ := h
  subst hx hI
  exact ⟨none, 0, _, he, IntO.nothing _ _, ⟨b, rfl, hl⟩, hb⟩
end Go.Proofs.YtmienemnjikgdaaDoor
end
section
namespace Go.Proofs.YtmienemnjikgdaaDoor
open Go.RowKit Go.Extern.Stop Go.Stop Go.Extern WordM RuleM
attribute [local go_sem ↓] Go.wp_at_zero Go.wp_at_succ

def overOp : ByteArray := { data := #[111, 118, 101, 114, 108, 97, 112] }
theorem box_ruleO (w : World) (a b c : Value) : ∀ (w0 : World), w0 = w.alloc (.cells #[a, b, c] 24) → Below w.heap.size w w0 ∧ Rul3 w0 w.heap.size a b c := fun w0 hw0 =>
  ⟨by rw [hw0]; exact (Below.refl _ _).alloc (Nat.le_refl _) _, by rw [hw0]; exact Rul3.new w _ _ _⟩
/-- the fault of the rule, told by this package -/
def chkQ (k r : Int) (t : List Int) : Option (List (ByteArray × Int) × Nat) := (chkS k r t).map fun y => ([(overOp, 0), (ruleOp, (y.1 : Int))], y.2)
/-- the fault of the rule, or that of the word -/
def chkV (k r : Int) (t l : List Int) (most : Nat) : Option (List (ByteArray × Int) × Nat) := match chkQ k r t with
  | some y => some y
  | none => if most < l.length then some ([(overOp, 1)], 4) else (l.findIdx? (badAt k)).map fun (i : Nat) => ([(overOp, (i : Int))], 2)
/-- a small rule -/
structure OkS (K R : Nat) (t : List Int) : Prop where
  ok : OkR K R t
  small : t.length ≤ 256
theorem chkQ_none {k r : Int} {t : List Int} (h : chkQ k r t = none) : ∃ K R : Nat, k = K ∧ r = R ∧ OkS K R t := by
  obtain ⟨K, R, h1, h2, h3, h4⟩ := chkS_none (Option.map_eq_none_iff.1 h)
  exact ⟨K, R, h1, h2, h3, h4⟩
theorem chkQ_ok {K R : Nat} {t : List Int} (h : OkS K R t) : chkQ K R t = none := by
  unfold chkQ
  rw [chkS_ok h.ok h.small]; rfl
theorem chkQ_num {k r : Int} {t : List Int} : ∀ y, chkQ k r t = some y → 1 ≤ y.2 ∧ y.2 ≤ 11 := fun y h => by
  obtain ⟨z, hz, rfl⟩ := Option.map_eq_some_iff.1 h
  unfold chkS at hz
  split at hz
  · obtain rfl := Option.some.inj hz; simp
  · split at hz
    · obtain rfl := Option.some.inj hz; simp
    · cases hz
theorem chkV_none {k r : Int} {t l : List Int} {most : Nat} (h : chkV k r t l most = none) : ∃ K R : Nat, k = K ∧ r = R ∧ OkS K R t ∧ l.length ≤ most ∧ okW K l := by
  unfold chkV at h
  cases hq : chkQ k r t with
  | some y => rw [hq] at h; cases h
  | none =>
    rw [hq] at h
    obtain ⟨K, R, rfl, rfl, ho⟩ := chkQ_none hq
    simp only at h
    split at h
    · cases h
    · rw [Option.map_eq_none_iff, bad_none] at h
      exact ⟨K, R, rfl, rfl, ho, by omega, h⟩
theorem chkV_ok {K R : Nat} {t l : List Int} {most : Nat} (ho : OkS K R t) (hl : l.length ≤ most) (hw : okW K l) : chkV K R t l most = none := by
  unfold chkV
  rw [chkQ_ok ho]
  simp only
  rw [if_neg (by omega), Option.map_eq_none_iff, bad_none]
  exact hw
theorem chkV_num {k r : Int} {t l : List Int} {most : Nat} : ∀ y, chkV k r t l most = some y → 1 ≤ y.2 ∧ y.2 ≤ 11 := fun y h => by
  unfold chkV at h
  cases hq : chkQ k r t with
  | some z => rw [hq] at h; obtain rfl := Option.some.inj h; exact chkQ_num _ hq
  | none =>
    rw [hq] at h
    simp only at h
    split at h
    · obtain rfl := Option.some.inj h; simp
    · obtain ⟨i, _, rfl⟩ := Option.map_eq_some_iff.1 h; simp
theorem OkS.n1 {K R : Nat} {t : List Int} (h : OkS K R t) : 1 ≤ K ^ (2 * R) := nod_pos h.ok.k1
theorem OkS.n256 {K R : Nat} {t : List Int} (h : OkS K R t) : K ^ (2 * R) ≤ 256 := by
  have h1 := nod_len h.ok
  have h2 := h.small
  have h3 := h.ok.k1
  have h4 : K ^ (2 * R) * 1 ≤ K ^ (2 * R) * K := Nat.mul_le_mul_left _ h3
  omega

set_option maxRecDepth 100000 in
set_option maxHeartbeats 4000000 in
/-- the number of nodes of a rule that has no fault -/
theorem nodesO (K : Nat) (r : Int) (p : Option Addr) (n c N : Nat) (w : World) (h1 : 1 ≤ K) (h4 : K ≤ 4) (hn : n = N * K) (hs : n ≤ 100000) :
    Calls Tryd.prog 30 #[.agg #[.int .i64 (K : Int), .int .i64 r, .slice p n c]] w (Tells (.int .i64 (N : Int)) w) := by
  have ST := Lib.hid (box_ruleO w (.int .i64 (K : Int)) (.int .i64 r) (.slice p n c))
  have hd : ((n : Nat) : Int) / (K : Int) = (N : Int) := by
    rw [hn]
    have : ((N * K / K : Nat) : Int) = ((N * K : Nat) : Int) / (K : Int) := by push_cast; rfl
    rw [← this, Nat.mul_div_cancel _ h1]
  have hd2 : ((n : Nat) : Int).tdiv (K : Int) = (N : Int) := by rw [Int.tdiv_eq_ediv_of_nonneg (by omega)]; exact hd
  have hNn : N * 1 ≤ N * K := Nat.mul_le_mul_left _ h1
  have hN : N ≤ 100000 := by omega
  have HD := Lib.hid (And.intro hd hd2)
  clear hn hd hd2 hNn hs
  go_enter Tryd.func30, Tryd.ntmps30
  go_upto_region 1 with fail
  obtain ⟨w0, hw0⟩ : ∃ w0, w0 = w.alloc (.cells #[.int .i64 (K : Int), .int .i64 r, .slice p n c] 24) := ⟨_, rfl⟩
  rw [← hw0]
  obtain ⟨hb0, hE0⟩ := ST.out w0 hw0
  have HE := Lib.hid hb0
  obtain ⟨_, hc0, hc1, hc2⟩ := hE0.facts
  clear hw0 hE0 hb0
  have hd := HD.out.1
  have hd2 := HD.out.2
  go_wp2_with fail
  go_ret
  exact ⟨rfl, HE.out⟩
theorem wrapS {x : Int} (h : 0 ≤ x) (h2 : x ≤ 1000000) : wrap64 x = x := by unfold wrap64; omega
set_option maxRecDepth 100000 in
set_option maxHeartbeats 600000 in
theorem followO (K u s : Nat) (r : Int) (p : Option Addr) (n c N : Nat) (t : List Int) (w : World) (h1 : 1 ≤ K) (h4 : K ≤ 4) (hnt : n = t.length) (hn : n = N * K) (hs : n ≤ 100000) (h : IntV w.heap.size w p c t) (hu : u < N) (hsk : s < K) :
    Calls Tryd.prog 35 #[.agg #[.int .i64 (K : Int), .int .i64 r, .slice p n c], .int .i64 (u : Int), .int .i64 (s : Int)] w (Tells (.tuple #[.int .i64 (((u * K + s) % N : Nat) : Int), .int .i64 (ent t (u * K + s))]) w) := by
  have ST := Lib.hid (box_ruleO w (.int .i64 (K : Int)) (.int .i64 r) (.slice p n c))
  have hlt := edge_lt (k := K) hu hsk
  rw [← hn] at hlt
  obtain ⟨X, hX⟩ : ∃ X, u * K + s = X := ⟨_, rfl⟩
  obtain ⟨Y, hY⟩ : ∃ Y, u * K = Y := ⟨_, rfl⟩
  rw [hY] at hX hlt
  have hYi : (u : Int) * (K : Int) = (Y : Int) := by rw [← hY]; push_cast; rfl
  have wY : wrap64 ((u : Int) * (K : Int)) = (Y : Int) := by rw [hYi]; exact wrapS (by omega) (by omega)
  have wX : wrap64 ((Y : Int) + (s : Int)) = (X : Int) := by rw [show (Y : Int) + (s : Int) = (X : Int) by omega]; exact wrapS (by omega) (by omega)
  rw [hY]
  rw [hX] at hlt ⊢
  have hXt : X < t.length := hnt ▸ hlt
  have hYc := Lib.hid (And.intro hYi hY)
  clear hYi hY hYc
  obtain ⟨b, off, rfl, hb, hcell⟩ := h.cell (List.ne_nil_of_length_pos (Nat.lt_of_le_of_lt (Nat.zero_le _) hXt))
  have hg := hcell X _ (ent_get hXt)
  obtain ⟨e, he⟩ : ∃ e, ent t X = e := ⟨_, rfl⟩
  rw [he] at hg ⊢
  obtain ⟨M, hM⟩ : ∃ M, X % N = M := ⟨_, rfl⟩
  have hmod : ((X : Nat) : Int).tmod (N : Int) = (M : Int) := by rw [← hM]; rw [Int.tmod_eq_emod_of_nonneg (Int.natCast_nonneg _)]; push_cast; rfl
  have hmod2 : ((X : Nat) : Int) % (N : Int) = (M : Int) := by rw [← hM]; push_cast; rfl
  rw [hM]
  have hNpos : 0 < N := Nat.lt_of_le_of_lt (Nat.zero_le _) hu
  have hNpos' : ¬ N = 0 := Nat.ne_of_gt hNpos
  have hXn : (X : Int) < (n : Int) := Int.ofNat_lt.2 hlt
  have hX0 : (0 : Int) ≤ (X : Int) := Int.natCast_nonneg _
  have hXn2 : X < n := hlt
  have hle := h.le
  have hcap := h.cap
  unfold maxLen at hcap
  have cN : ∀ W, Calls Tryd.prog 30 #[.agg #[.int .i64 (K : Int), .int .i64 r, .slice (some ⟨b, off, none⟩) n c]] W (Tells (.int .i64 (N : Int)) W) := fun W => nodesO K r _ n c N W h1 h4 hn hs
  have H := Lib.hid (And.intro cN (And.intro hg hb))
  clear hnt hn h hX hcell hle hu hg hb he hM h1 h4 hsk cN hXt
  go_enter Tryd.func35, Tryd.ntmps35
  go_upto_region 1 with fail
  obtain ⟨w0, hw0⟩ : ∃ w0, w0 = w.alloc (.cells #[.int .i64 (K : Int), .int .i64 r, .slice (some ⟨b, off, none⟩) n c] 24) := ⟨_, rfl⟩
  rw [← hw0]
  obtain ⟨hb0, hE0⟩ := ST.out w0 hw0
  have HE := Lib.hid (And.intro hE0 hb0)
  obtain ⟨_, hc0, hc1, hc2⟩ := hE0.facts
  clear hw0 hE0 hb0
  go_wp2_with fail
  have hxA : ∀ wx : World, Below w0.heap.size w0 wx → (wx.cell? ⟨w.heap.size, 0, none⟩ = some (.int .i64 (K : Int)) ∧ wx.cell? ⟨w.heap.size, 1, none⟩ = some (.int .i64 r) ∧ wx.cell? ⟨w.heap.size, 2, none⟩ = some (.slice (some ⟨b, off, none⟩) n c)) ∧ wx.cell? ⟨b, off + X, none⟩ = some (.int .i64 e) := fun wx hb => ⟨(HE.out.1.next hb).facts.2, ((HE.out.2.trans (hb.mono HE.out.2.size)).cell (p := ⟨b, off + X, none⟩) H.out.2.2).trans H.out.2.1⟩
  have hdr : Below w0.heap.size w0 w0.drew := (Below.refl _ _).drew
  obtain ⟨⟨ha0, ha1, ha2⟩, ha3⟩ := hxA _ (Below.refl _ _)
  clear hc0 hc1 hc2
  go_region_held3 (fun wx => (wx.cell? ⟨w.heap.size, 0, none⟩ = some (.int .i64 (K : Int)) ∧ wx.cell? ⟨w.heap.size, 1, none⟩ = some (.int .i64 r) ∧ wx.cell? ⟨w.heap.size, 2, none⟩ = some (.slice (some ⟨b, off, none⟩) n c)) ∧ wx.cell? ⟨b, off + X, none⟩ = some (.int .i64 e)) (first | exact hxA _ (by assumption) | exact hxA _ (Below.refl _ _) | exact hxA _ hdr | go_keep) (first
    | (go_at_call 30; refine (H.out.1 _).mono ?_; rintro e1 wa ⟨rfl, hba⟩; have hBa : Below w0.heap.size w0 wa := (by first | exact hba | exact hdr.trans (hba.mono hdr.size))))
  all_goals
    have HZ := Lib.hid (HE.out.2.trans (hBa.mono HE.out.2.size))
    clear hxA hdr ha0 ha1 ha2 ha3 hba hBa
    go_wp2_with fail
    go_ret2
    exact ⟨rfl, HZ.out⟩

set_option maxRecDepth 100000 in
set_option maxHeartbeats 4000000 in
theorem ckRule_ok (K R : Nat) (p : Option Addr) (n c : Nat) (t : List Int) (w : World) (hn : n = t.length) (h : IntV w.heap.size w p c t) (ho : OkS K R t) :
    Calls Tryd.prog 29 #[.agg #[.int .i64 (K : Int), .int .i64 (R : Int), .slice p n c]] w (Tells .nilIface w) := by
  have ST := Lib.hid (box_ruleO w (.int .i64 (K : Int)) (.int .i64 (R : Int)) (.slice p n c))
  have H := Lib.hid (And.intro hn (And.intro h ho))
  clear hn h ho
  go_enter Tryd.func29, Tryd.ntmps29
  go_upto_region 1 with fail
  obtain ⟨w0, hw0⟩ : ∃ w0, w0 = w.alloc (.cells #[.int .i64 (K : Int), .int .i64 (R : Int), .slice p n c] 24) := ⟨_, rfl⟩
  rw [← hw0]
  obtain ⟨hb0, hE0⟩ := ST.out w0 hw0
  have HE := Lib.hid (And.intro hE0 hb0)
  obtain ⟨_, hc0, hc1, hc2⟩ := hE0.facts
  clear hw0 hE0 hb0
  go_wp2_with fail
  refine (small_ok K R p n c t w0 H.out.1 (H.out.2.1.next HE.out.2) H.out.2.2.ok H.out.2.2.small).mono ?_
  rintro e w1 ⟨rfl, hb1⟩
  have H1 := Lib.hid (HE.out.2.trans (hb1.mono HE.out.2.size))
  clear hb1 hc0 hc1 hc2
  go_wp2_with fail
  go_ret
  exact ⟨rfl, H1.out⟩
set_option maxRecDepth 100000 in
set_option maxHeartbeats 4000000 in
theorem ckRule_bad (k r : Int) (p : Option Addr) (n c : Nat) (t : List Int) (w : World) (A : Nat → Addr) (hr : Roots w A) (hn : n = t.length) (h : IntV w.heap.size w p c t) (L : List (ByteArray × Int)) (M : Nat) (hc : chkQ k r t = some (L, M)) :
    Calls Tryd.prog 29 #[.agg #[.int .i64 k, .int .i64 r, .slice p n c]] w (FErr1 w A L M) := by
  have ST := Lib.hid (box_ruleO w (.int .i64 k) (.int .i64 r) (.slice p n c))
  obtain ⟨⟨i, m⟩, hi, he⟩ := Option.map_eq_some_iff.1 hc
  obtain ⟨rfl, rfl⟩ := Prod.mk.inj he
  have H := Lib.hid (And.intro hn (And.intro h (And.intro hr hi)))
  clear hn h hr hi hc he
  go_enter Tryd.func29, Tryd.ntmps29
  go_upto_region 1 with fail
  obtain ⟨w0, hw0⟩ : ∃ w0, w0 = w.alloc (.cells #[.int .i64 k, .int .i64 r, .slice p n c] 24) := ⟨_, rfl⟩
  rw [← hw0]
  obtain ⟨hb0, hE0⟩ := ST.out w0 hw0
  have HE := Lib.hid (And.intro hE0 hb0)
  obtain ⟨_, hc0, hc1, hc2⟩ := hE0.facts
  clear hw0 hE0 hb0
  go_wp2_with fail
  refine (small_bad k r p n c t w0 A (H.out.2.2.1.below HE.out.2) H.out.1 (H.out.2.1.next HE.out.2) i m H.out.2.2.2).mono ?_
  rintro e w1 ⟨b1, rfl, hl1, hb1⟩
  have H1 := Lib.hid (And.intro (Chn.one hl1) (HE.out.2.trans (hb1.mono HE.out.2.size)))
  clear hl1 hb1 hc0 hc1 hc2
  go_wp2_with fail
  refine (under_chn overOp 0 b1 _ m w1 A H1.out.1).mono ?_
  rintro e w2 ⟨b2, rfl, hl2, hb2⟩
  have H2 := Lib.hid (And.intro hl2 (H1.out.2.trans (hb2.mono H1.out.2.size)))
  clear hl2 hb2
  go_wp2_with fail
  go_ret
  exact ⟨b2, rfl, H2.out.1, H2.out.2⟩
end Go.Proofs.YtmienemnjikgdaaDoor
end
section
namespace Go.Proofs.YtmienemnjikgdaaDoor
open Go.RowKit Go.Extern.Stop Go.Stop Go.Extern WordM RuleM
attribute [local go_sem ↓] Go.wp_at_zero Go.wp_at_succ

set_option maxRecDepth 100000 in
set_option maxHeartbeats 8000000 in
theorem ckWord_ok (K R : Nat) (p q : Option Addr) (n c m d most : Nat) (t l : List Int) (w : World) (hn : n = t.length) (hm : m = l.length) (h : IntV w.heap.size w p c t) (h' : IntV w.heap.size w q d l) (ho : OkS K R t) (hl : l.length ≤ most) (hw : okW K l) (hmost : most ≤ 4096) :
    Calls Tryd.prog 42 #[.agg #[.int .i64 (K : Int), .int .i64 (R : Int), .slice p n c], .slice q m d, .int .i64 (most : Int)] w (Tells .nilIface w) := by
  have ST := Lib.hid (box_ruleO w (.int .i64 (K : Int)) (.int .i64 (R : Int)) (.slice p n c))
  have hmm : ¬ most < m := by omega
  have hm4 : m ≤ 4096 := by omega
  have H := Lib.hid (And.intro hn (And.intro h (And.intro ho (And.intro h' (And.intro hm hw)))))
  clear hn hm h h' ho hl hw hmost
  go_enter Tryd.func42, Tryd.ntmps42
  go_upto_region 1 with fail
  obtain ⟨w0, hw0⟩ : ∃ w0, w0 = w.alloc (.cells #[.int .i64 (K : Int), .int .i64 (R : Int), .slice p n c] 24) := ⟨_, rfl⟩
  rw [← hw0]
  obtain ⟨hb0, hE0⟩ := ST.out w0 hw0
  have HE := Lib.hid (And.intro hE0 hb0)
  obtain ⟨_, hc0, hc1, hc2⟩ := hE0.facts
  clear hw0 hE0 hb0
  go_wp2_with fail
  refine (ckRule_ok K R p n c t w0 H.out.1 (H.out.2.1.next HE.out.2) H.out.2.2.1).mono ?_
  rintro e w1 ⟨rfl, hb1⟩
  have H1 := Lib.hid (And.intro (HE.out.1.next hb1) (HE.out.2.trans (hb1.mono HE.out.2.size)))
  clear hb1 hc0 hc1 hc2
  have HC := Lib.hid (And.intro H1.out.1.facts.2 (H.out.2.2.2.1.next H1.out.2))
  go_wp2_with fail
  go_loop [22] (fun v => ∃ j : Nat, j ≤ m ∧ v = .int .i64 (j : Int)) (fun v => m - (intOf v).toNat)
  case atStart => exact ⟨0, Nat.zero_le _, rfl⟩
  case round =>
    obtain ⟨j, hj, rfl⟩ := hrel
    by_cases hlt : j < m
    · have hml := H.out.2.2.2.2.1
      obtain ⟨b, off, rfl, hb, hc⟩ := HC.out.2.cell (by rintro rfl; simp at hml; omega)
      obtain ⟨x, hx⟩ := getI (l := l) (k := j) (by omega)
      have hcx := hc j x hx
      obtain ⟨hc0, hc1, hc2⟩ := HC.out.1
      obtain ⟨hx0, hxK⟩ := H.out.2.2.2.2.2 x (List.mem_of_getElem? hx)
      have hmd := HC.out.2.le
      have hmd2 : m ≤ d := by omega
      clear hc hx hml hmd
      go_wp2_with fail
      go_round
      case rel => exact ⟨j + 1, by omega, by go_num⟩
      case measure => simp [intOf]; omega
    · obtain rfl : j = m := by omega
      go_wp2_with fail
      go_ret
      exact ⟨rfl, H1.out.2⟩
set_option maxRecDepth 100000 in
set_option maxHeartbeats 8000000 in
theorem ckWord_rule (k r : Int) (p q : Option Addr) (n c m d most : Nat) (t : List Int) (w : World) (A : Nat → Addr) (hr : Roots w A) (hn : n = t.length) (h : IntV w.heap.size w p c t) (L : List (ByteArray × Int)) (M : Nat) (hc : chkQ k r t = some (L, M)) :
    Calls Tryd.prog 42 #[.agg #[.int .i64 k, .int .i64 r, .slice p n c], .slice q m d, .int .i64 (most : Int)] w (FErr1 w A L M) := by
  have ST := Lib.hid (box_ruleO w (.int .i64 k) (.int .i64 r) (.slice p n c))
  have H := Lib.hid (And.intro hn (And.intro h (And.intro hr hc)))
  clear hn h hr hc
  go_enter Tryd.func42, Tryd.ntmps42
  go_upto_region 1 with fail
  obtain ⟨w0, hw0⟩ : ∃ w0, w0 = w.alloc (.cells #[.int .i64 k, .int .i64 r, .slice p n c] 24) := ⟨_, rfl⟩
  rw [← hw0]
  obtain ⟨hb0, hE0⟩ := ST.out w0 hw0
  have HE := Lib.hid (And.intro hE0 hb0)
  obtain ⟨_, hc0, hc1, hc2⟩ := hE0.facts
  clear hw0 hE0 hb0
  go_wp2_with fail
  refine (ckRule_bad k r p n c t w0 A (H.out.2.2.1.below HE.out.2) H.out.1 (H.out.2.1.next HE.out.2) L M H.out.2.2.2).mono ?_
  rintro e w1 ⟨b, rfl, hl1, hb1⟩
  have H1 := Lib.hid (And.intro hl1 (HE.out.2.trans (hb1.mono HE.out.2.size)))
  clear hl1 hb1 hc0 hc1 hc2
  go_wp2_with fail
  go_ret
  exact ⟨b, rfl, H1.out.1, H1.out.2⟩
set_option maxRecDepth 100000 in
set_option maxHeartbeats 8000000 in
theorem ckWord_long (K R : Nat) (p q : Option Addr) (n c m d most : Nat) (t : List Int) (w : World) (A : Nat → Addr) (hr : Roots w A) (hn : n = t.length) (h : IntV w.heap.size w p c t) (ho : OkS K R t) (hl : most < m) :
    Calls Tryd.prog 42 #[.agg #[.int .i64 (K : Int), .int .i64 (R : Int), .slice p n c], .slice q m d, .int .i64 (most : Int)] w (FErr1 w A [(overOp, 1)] 4) := by
  have ST := Lib.hid (box_ruleO w (.int .i64 (K : Int)) (.int .i64 (R : Int)) (.slice p n c))
  have H := Lib.hid (And.intro hn (And.intro h (And.intro ho hr)))
  clear hn h ho hr
  go_enter Tryd.func42, Tryd.ntmps42
  go_upto_region 1 with fail
  obtain ⟨w0, hw0⟩ : ∃ w0, w0 = w.alloc (.cells #[.int .i64 (K : Int), .int .i64 (R : Int), .slice p n c] 24) := ⟨_, rfl⟩
  rw [← hw0]
  obtain ⟨hb0, hE0⟩ := ST.out w0 hw0
  have HE := Lib.hid (And.intro hE0 hb0)
  obtain ⟨_, hc0, hc1, hc2⟩ := hE0.facts
  clear hw0 hE0 hb0
  go_wp2_with fail
  refine (ckRule_ok K R p n c t w0 H.out.1 (H.out.2.1.next HE.out.2) H.out.2.2.1).mono ?_
  rintro e w1 ⟨rfl, hb1⟩
  have H1 := Lib.hid (And.intro (HE.out.1.next hb1) (HE.out.2.trans (hb1.mono HE.out.2.size)))
  clear hb1 hc0 hc1 hc2
  go_wp2_with fail
  refine (new_at overOp 1 4 w1 A (H.out.2.2.2.below H1.out.2) (by decide)).mono ?_
  rintro e w2 ⟨b2, rfl, hl2, hb2⟩
  have H2 := Lib.hid (And.intro (H1.out.2.trans (hb2.mono H1.out.2.size)) hl2)
  clear hb2 hl2
  go_wp2_with fail
  go_ret
  exact ⟨b2, rfl, Chn.one H2.out.2, H2.out.1⟩
set_option maxRecDepth 100000 in
set_option maxHeartbeats 8000000 in
theorem ckWord_bad (K R : Nat) (p q : Option Addr) (n c m d most : Nat) (t l : List Int) (w : World) (A : Nat → Addr) (hr : Roots w A) (hn : n = t.length) (hm : m = l.length) (h : IntV w.heap.size w p c t) (h' : IntV w.heap.size w q d l) (ho : OkS K R t) (hl : l.length ≤ most) (hmost : most ≤ 4096) (i : Nat) (hi : l.findIdx? (badAt (K : Int)) = some i) :
    Calls Tryd.prog 42 #[.agg #[.int .i64 (K : Int), .int .i64 (R : Int), .slice p n c], .slice q m d, .int .i64 (most : Int)] w (FErr1 w A [(overOp, (i : Int))] 2) := by
  have ST := Lib.hid (box_ruleO w (.int .i64 (K : Int)) (.int .i64 (R : Int)) (.slice p n c))
  have hmm : ¬ most < m := by omega
  have hm4 : m ≤ 4096 := by omega
  obtain ⟨hil, hbad, hall⟩ := List.findIdx?_eq_some_iff_getElem.1 hi
  have him : i < m := by omega
  have hok : ∀ (j : Nat) (x : Int), j < i → l[j]? = some x → 0 ≤ x ∧ x < (K : Int) := fun j x hj hx => by
    have h1 := hall j hj
    rw [List.getElem?_eq_getElem (by omega)] at hx
    obtain rfl := Option.some.inj hx
    unfold badAt at h1
    simp at h1
    omega
  have hno : ∀ x : Int, l[i]? = some x → x < 0 ∨ (¬ x < 0 ∧ (K : Int) ≤ x) := fun x hx => by
    rw [List.getElem?_eq_getElem hil] at hx
    obtain rfl := Option.some.inj hx
    unfold badAt at hbad
    simp at hbad
    omega
  have H := Lib.hid (And.intro hn (And.intro h (And.intro ho (And.intro h' (And.intro hm (And.intro hok (And.intro hno hr)))))))
  clear hn hm h h' ho hl hmost hok hno hr hil hbad hall hi
  go_enter Tryd.func42, Tryd.ntmps42
  go_upto_region 1 with fail
  obtain ⟨w0, hw0⟩ : ∃ w0, w0 = w.alloc (.cells #[.int .i64 (K : Int), .int .i64 (R : Int), .slice p n c] 24) := ⟨_, rfl⟩
  rw [← hw0]
  obtain ⟨hb0, hE0⟩ := ST.out w0 hw0
  have HE := Lib.hid (And.intro hE0 hb0)
  obtain ⟨_, hc0, hc1, hc2⟩ := hE0.facts
  clear hw0 hE0 hb0
  go_wp2_with fail
  refine (ckRule_ok K R p n c t w0 H.out.1 (H.out.2.1.next HE.out.2) H.out.2.2.1).mono ?_
  rintro e w1 ⟨rfl, hb1⟩
  have H1 := Lib.hid (And.intro (HE.out.1.next hb1) (HE.out.2.trans (hb1.mono HE.out.2.size)))
  clear hb1 hc0 hc1 hc2
  have HC := Lib.hid (And.intro H1.out.1.facts.2 (H.out.2.2.2.1.next H1.out.2))
  go_wp2_with fail
  go_loop [22] (fun v => ∃ j : Nat, j ≤ i ∧ v = .int .i64 (j : Int)) (fun v => m - (intOf v).toNat)
  case atStart => exact ⟨0, Nat.zero_le _, rfl⟩
  case round =>
    obtain ⟨j, hj, rfl⟩ := hrel
    have hlt : j < m := by omega
    have hml := H.out.2.2.2.2.1
    obtain ⟨b, off, rfl, hb, hc⟩ := HC.out.2.cell (by rintro rfl; simp at hml; omega)
    obtain ⟨x, hx⟩ := getI (l := l) (k := j) (by omega)
    have hcx := hc j x hx
    obtain ⟨hc0, hc1, hc2⟩ := HC.out.1
    have hmd := HC.out.2.le
    have hmd2 : m ≤ d := by omega
    by_cases hji : j < i
    · obtain ⟨hx0, hxK⟩ := H.out.2.2.2.2.2.1 j x hji hx
      clear hc hx hml hmd
      go_wp2_with fail
      go_round
      case rel => exact ⟨j + 1, by omega, by go_num⟩
      case measure => simp [intOf]; omega
    · obtain rfl : j = i := by omega
      have hxx := H.out.2.2.2.2.2.2.1 x hx
      clear hc hx hml hmd
      rcases hxx with hx0 | ⟨hx0, hxK⟩
      all_goals
        go_wp2_with fail
        refine (new_at overOp (j : Int) 2 w1 A (H.out.2.2.2.2.2.2.2.below H1.out.2) (by decide)).mono ?_
        rintro e w2 ⟨b2, rfl, hl2, hb2⟩
        have H2 := Lib.hid (And.intro (H1.out.2.trans (hb2.mono H1.out.2.size)) hl2)
        clear hb2 hl2
        go_wp2_with fail
        go_ret
        exact ⟨b2, rfl, Chn.one H2.out.2, H2.out.1⟩
theorem ckWord_none (k r : Int) (p q : Option Addr) (n c m d most : Nat) (t l : List Int) (w : World) (A : Nat → Addr) (hr : Roots w A) (hn : n = t.length) (hm : m = l.length) (h : IntV w.heap.size w p c t) (h' : IntV w.heap.size w q d l) (hmost : most ≤ 4096) (L : List (ByteArray × Int)) (M : Nat) (hc : chkV k r t l most = some (L, M)) :
    Calls Tryd.prog 42 #[.agg #[.int .i64 k, .int .i64 r, .slice p n c], .slice q m d, .int .i64 (most : Int)] w (FErr1 w A L M) := by
  unfold chkV at hc
  cases hq : chkQ k r t with
  | some y =>
    rw [hq] at hc
    obtain rfl := Option.some.inj hc
    exact ckWord_rule k r p q n c m d most t w A hr hn h L M hq
  | none =>
    rw [hq] at hc
    simp only at hc
    obtain ⟨K, R, rfl, rfl, ho⟩ := chkQ_none hq
    split at hc
    · obtain ⟨rfl, rfl⟩ := Prod.mk.inj (Option.some.inj hc)
      exact ckWord_long K R p q n c m d most t w A hr hn h ho (by omega)
    · obtain ⟨i, hi, he⟩ := Option.map_eq_some_iff.1 hc
      obtain ⟨rfl, rfl⟩ := Prod.mk.inj he
      exact ckWord_bad K R p q n c m d most t l w A hr hn hm h h' ho (by omega) hmost i hi
end Go.Proofs.YtmienemnjikgdaaDoor
end
section
namespace Go.Proofs.YtmienemnjikgdaaDoor
open Go.RowKit Go.Extern.Stop Go.Stop Go.Extern WordM RuleM
attribute [local go_sem ↓] Go.wp_at_zero Go.wp_at_succ

set_option maxRecDepth 100000 in
set_option maxHeartbeats 8000000 in
theorem oNodes_ok (K R : Nat) (p : Option Addr) (n c : Nat) (t : List Int) (w : World) (hn : n = t.length) (h : IntV w.heap.size w p c t) (ho : OkS K R t) :
    Calls Tryd.prog 10 #[.agg #[.int .i64 (K : Int), .int .i64 (R : Int), .slice p n c]] w (Tells (.tuple #[.int .i64 ((K ^ (2 * R) : Nat) : Int), .nilIface]) w) := by
  have ST := Lib.hid (box_ruleO w (.int .i64 (K : Int)) (.int .i64 (R : Int)) (.slice p n c))
  have hnl := nod_len ho.ok
  have hcn := fun W => nodesO K (R : Int) p n c (K ^ (2 * R)) W ho.ok.k1 ho.ok.k4 (hn.trans hnl) (by have := ho.small; omega)
  obtain ⟨N, hN⟩ : ∃ N, K ^ (2 * R) = N := ⟨_, rfl⟩
  rw [hN] at hcn ⊢
  have H := Lib.hid (And.intro hn (And.intro h (And.intro ho hcn)))
  clear hn h ho hcn hnl hN
  go_enter Tryd.func10, Tryd.ntmps10
  go_upto_region 1 with fail
  obtain ⟨w0, hw0⟩ : ∃ w0, w0 = w.alloc (.cells #[.int .i64 (K : Int), .int .i64 (R : Int), .slice p n c] 24) := ⟨_, rfl⟩
  rw [← hw0]
  obtain ⟨hb0, hE0⟩ := ST.out w0 hw0
  have HE := Lib.hid (And.intro hE0 hb0)
  obtain ⟨_, hc0, hc1, hc2⟩ := hE0.facts
  clear hw0 hE0 hb0
  go_wp2_with fail
  refine (ckRule_ok K R p n c t w0 H.out.1 (H.out.2.1.next HE.out.2) H.out.2.2.1).mono ?_
  rintro e w1 ⟨rfl, hb1⟩
  have H1 := Lib.hid (And.intro (HE.out.1.next hb1) (HE.out.2.trans (hb1.mono HE.out.2.size)))
  clear hb1 hc0 hc1 hc2
  obtain ⟨_, hc0, hc1, hc2⟩ := H1.out.1.facts
  go_wp2_with fail
  refine (H.out.2.2.2 w1).mono ?_
  rintro e w2 ⟨rfl, hb2⟩
  have H2 := Lib.hid (H1.out.2.trans (hb2.mono H1.out.2.size))
  clear hb2 hc0 hc1 hc2
  go_wp2_with fail
  go_ret2
  exact ⟨rfl, H2.out⟩
set_option maxRecDepth 100000 in
set_option maxHeartbeats 8000000 in
theorem oNodes_bad (k r : Int) (p : Option Addr) (n c : Nat) (t : List Int) (w : World) (A : Nat → Addr) (hr : Roots w A) (hn : n = t.length) (h : IntV w.heap.size w p c t) (L : List (ByteArray × Int)) (M : Nat) (hc : chkQ k r t = some (L, M)) :
    Calls Tryd.prog 10 #[.agg #[.int .i64 k, .int .i64 r, .slice p n c]] w (FErr2 w A L M (.int .i64 0)) := by
  have ST := Lib.hid (box_ruleO w (.int .i64 k) (.int .i64 r) (.slice p n c))
  have H := Lib.hid (And.intro hn (And.intro h (And.intro hr hc)))
  clear hn h hr hc
  go_enter Tryd.func10, Tryd.ntmps10
  go_upto_region 1 with fail
  obtain ⟨w0, hw0⟩ : ∃ w0, w0 = w.alloc (.cells #[.int .i64 k, .int .i64 r, .slice p n c] 24) := ⟨_, rfl⟩
  rw [← hw0]
  obtain ⟨hb0, hE0⟩ := ST.out w0 hw0
  have HE := Lib.hid (And.intro hE0 hb0)
  obtain ⟨_, hc0, hc1, hc2⟩ := hE0.facts
  clear hw0 hE0 hb0
  go_wp2_with fail
  refine (ckRule_bad k r p n c t w0 A (H.out.2.2.1.below HE.out.2) H.out.1 (H.out.2.1.next HE.out.2) L M H.out.2.2.2).mono ?_
  rintro e w1 ⟨b, rfl, hl1, hb1⟩
  have H1 := Lib.hid (And.intro hl1 (HE.out.2.trans (hb1.mono HE.out.2.size)))
  clear hl1 hb1 hc0 hc1 hc2
  go_wp2_with fail
  go_ret2
  exact ⟨b, rfl, H1.out.1, H1.out.2⟩

/-- the fault of an edge -/
def chkD (k r : Int) (t : List Int) (u s : Int) : Option (List (ByteArray × Int) × Nat) := match chkQ k r t with
  | some y => some y
  | none => if u < 0 ∨ ((k.toNat ^ (2 * r.toNat) : Nat) : Int) ≤ u then some ([(overOp, 1)], 3) else if s < 0 ∨ k ≤ s then some ([(overOp, 2)], 3) else none
theorem chkD_none {k r u s : Int} {t : List Int} (h : chkD k r t u s = none) : ∃ K R U S : Nat, k = K ∧ r = R ∧ u = U ∧ s = S ∧ OkS K R t ∧ U < K ^ (2 * R) ∧ S < K := by
  unfold chkD at h
  cases hq : chkQ k r t with
  | some y => rw [hq] at h; cases h
  | none =>
    rw [hq] at h
    obtain ⟨K, R, rfl, rfl, ho⟩ := chkQ_none hq
    simp only [Int.toNat_natCast] at h
    obtain ⟨N, hN⟩ : ∃ N, K ^ (2 * R) = N := ⟨_, rfl⟩
    simp only [hN] at h
    split at h
    · cases h
    · split at h
      · cases h
      · exact ⟨K, R, u.toNat, s.toNat, rfl, rfl, by omega, by omega, ho, by rw [hN]; omega, by omega⟩
theorem chkD_num {k r u s : Int} {t : List Int} : ∀ y, chkD k r t u s = some y → 1 ≤ y.2 ∧ y.2 ≤ 11 := fun y h => by
  unfold chkD at h
  cases hq : chkQ k r t with
  | some z => rw [hq] at h; obtain rfl := Option.some.inj h; exact chkQ_num _ hq
  | none =>
    rw [hq] at h
    simp only at h
    split at h
    · obtain rfl := Option.some.inj h; simp
    · split at h
      · obtain rfl := Option.some.inj h; simp
      · cases h
/-- two numbers and an error behind them -/
def FErr3 (w : World) (A : Nat → Addr) (L : List (ByteArray × Int)) (m : Nat) (u v : Value) (e : Ending) (w' : World) : Prop :=
  ∃ b, e = .returned (.tuple #[u, v, .iface 78 (.pointer (some ⟨b, 0, none⟩))]) ∧ Chn w' A b L m ∧ Below w.heap.size w w'
set_option maxRecDepth 100000 in
set_option maxHeartbeats 8000000 in
theorem oEdge_ok (K R u s : Nat) (p : Option Addr) (n c : Nat) (t : List Int) (w : World) (hn : n = t.length) (h : IntV w.heap.size w p c t) (ho : OkS K R t) (hu : u < K ^ (2 * R)) (hs : s < K) :
    Calls Tryd.prog 12 #[.agg #[.int .i64 (K : Int), .int .i64 (R : Int), .slice p n c], .int .i64 (u : Int), .int .i64 (s : Int)] w (Tells (.tuple #[.int .i64 (((u * K + s) % K ^ (2 * R) : Nat) : Int), .int .i64 (ent t (u * K + s)), .nilIface]) w) := by
  have ST := Lib.hid (box_ruleO w (.int .i64 (K : Int)) (.int .i64 (R : Int)) (.slice p n c))
  have hnl := hn.trans (nod_len ho.ok)
  have hsm : n ≤ 100000 := by have := ho.small; omega
  have hcn := fun W => nodesO K (R : Int) p n c (K ^ (2 * R)) W ho.ok.k1 ho.ok.k4 hnl hsm
  have hcf := fun W hW => followO K u s (R : Int) p n c (K ^ (2 * R)) t W ho.ok.k1 ho.ok.k4 hn hnl hsm hW hu hs
  obtain ⟨N, hN⟩ : ∃ N, K ^ (2 * R) = N := ⟨_, rfl⟩
  rw [hN] at hcn hu
  simp only [hN] at hcf
  rw [hN]
  obtain ⟨X, hX⟩ : ∃ X, (u * K + s) % N = X := ⟨_, rfl⟩
  obtain ⟨Z, hZ⟩ : ∃ Z, ent t (u * K + s) = Z := ⟨_, rfl⟩
  rw [hX, hZ]
  rw [hX, hZ] at hcf
  have H := Lib.hid (And.intro hn (And.intro h (And.intro ho (And.intro hcn hcf))))
  clear hn h ho hcn hcf hnl hsm hN hX hZ
  go_enter Tryd.func12, Tryd.ntmps12
  go_upto_region 1 with fail
  obtain ⟨w0, hw0⟩ : ∃ w0, w0 = w.alloc (.cells #[.int .i64 (K : Int), .int .i64 (R : Int), .slice p n c] 24) := ⟨_, rfl⟩
  rw [← hw0]
  obtain ⟨hb0, hE0⟩ := ST.out w0 hw0
  have HE := Lib.hid (And.intro hE0 hb0)
  obtain ⟨_, hc0, hc1, hc2⟩ := hE0.facts
  clear hw0 hE0 hb0
  go_wp2_with fail
  refine (ckRule_ok K R p n c t w0 H.out.1 (H.out.2.1.next HE.out.2) H.out.2.2.1).mono ?_
  rintro e w1 ⟨rfl, hb1⟩
  have H1 := Lib.hid (And.intro (HE.out.1.next hb1) (HE.out.2.trans (hb1.mono HE.out.2.size)))
  clear hb1 hc0 hc1 hc2
  obtain ⟨_, hc0, hc1, hc2⟩ := H1.out.1.facts
  go_wp2_with fail
  refine (H.out.2.2.2.1 w1).mono ?_
  rintro e w2 ⟨rfl, hb2⟩
  have H2 := Lib.hid (And.intro (H1.out.1.next hb2) (H1.out.2.trans (hb2.mono H1.out.2.size)))
  clear hb2 hc0 hc1 hc2
  obtain ⟨_, hc0, hc1, hc2⟩ := H2.out.1.facts
  go_wp2_with fail
  refine (H.out.2.2.2.2 w2 (H.out.2.1.next H2.out.2)).mono ?_
  rintro e w3 ⟨rfl, hb3⟩
  have H3 := Lib.hid (H2.out.2.trans (hb3.mono H2.out.2.size))
  clear hb3 hc0 hc1 hc2
  go_wp2_with fail
  go_ret3
  exact ⟨rfl, H3.out⟩
set_option maxRecDepth 100000 in
set_option maxHeartbeats 8000000 in
theorem oEdge_bad (k r u s : Int) (p : Option Addr) (n c : Nat) (t : List Int) (w : World) (A : Nat → Addr) (hr : Roots w A) (hn : n = t.length) (h : IntV w.heap.size w p c t) (L : List (ByteArray × Int)) (M : Nat) (hc : chkD k r t u s = some (L, M)) :
    Calls Tryd.prog 12 #[.agg #[.int .i64 k, .int .i64 r, .slice p n c], .int .i64 u, .int .i64 s] w (FErr3 w A L M (.int .i64 0) (.int .i64 0)) := by
  unfold chkD at hc
  cases hq : chkQ k r t with
  | some y =>
    rw [hq] at hc
    obtain rfl := Option.some.inj hc
    have ST := Lib.hid (box_ruleO w (.int .i64 k) (.int .i64 r) (.slice p n c))
    have H := Lib.hid (And.intro hn (And.intro h (And.intro hr hq)))
    clear hn h hr hc hq
    go_enter Tryd.func12, Tryd.ntmps12
    go_upto_region 1 with fail
    obtain ⟨w0, hw0⟩ : ∃ w0, w0 = w.alloc (.cells #[.int .i64 k, .int .i64 r, .slice p n c] 24) := ⟨_, rfl⟩
    rw [← hw0]
    obtain ⟨hb0, hE0⟩ := ST.out w0 hw0
    have HE := Lib.hid (And.intro hE0 hb0)
    obtain ⟨_, hc0, hc1, hc2⟩ := hE0.facts
    clear hw0 hE0 hb0
    go_wp2_with fail
    refine (ckRule_bad k r p n c t w0 A (H.out.2.2.1.below HE.out.2) H.out.1 (H.out.2.1.next HE.out.2) L M H.out.2.2.2).mono ?_
    rintro e w1 ⟨b, rfl, hl1, hb1⟩
    have H1 := Lib.hid (And.intro hl1 (HE.out.2.trans (hb1.mono HE.out.2.size)))
    clear hl1 hb1 hc0 hc1 hc2
    go_wp2_with fail
    go_ret3
    exact ⟨b, rfl, H1.out.1, H1.out.2⟩
  | none =>
    rw [hq] at hc
    obtain ⟨K, R, rfl, rfl, ho⟩ := chkQ_none hq
    have ST := Lib.hid (box_ruleO w (.int .i64 (K : Int)) (.int .i64 (R : Int)) (.slice p n c))
    have hnl := hn.trans (nod_len ho.ok)
    have hsm : n ≤ 100000 := by have := ho.small; omega
    have hcn := fun W => nodesO K (R : Int) p n c (K ^ (2 * R)) W ho.ok.k1 ho.ok.k4 hnl hsm
    simp only [Int.toNat_natCast] at hc
    obtain ⟨N, hN⟩ : ∃ N, K ^ (2 * R) = N := ⟨_, rfl⟩
    simp only [hN] at hc hcn
    have H := Lib.hid (And.intro hn (And.intro h (And.intro ho (And.intro hcn hr))))
    clear hn h ho hcn hr hnl hsm hN hq
    split at hc
    · rename_i hu
      obtain ⟨rfl, rfl⟩ := Prod.mk.inj (Option.some.inj hc)
      clear hc
      rcases (by omega : u < 0 ∨ (¬ u < 0 ∧ (N : Int) ≤ u)) with g1 | ⟨g1, g2⟩
      · clear hu
        go_enter Tryd.func12, Tryd.ntmps12
        go_upto_region 1 with fail
        obtain ⟨w0, hw0⟩ : ∃ w0, w0 = w.alloc (.cells #[.int .i64 (K : Int), .int .i64 (R : Int), .slice p n c] 24) := ⟨_, rfl⟩
        rw [← hw0]
        obtain ⟨hb0, hE0⟩ := ST.out w0 hw0
        have HE := Lib.hid (And.intro hE0 hb0)
        obtain ⟨_, hc0, hc1, hc2⟩ := hE0.facts
        clear hw0 hE0 hb0
        go_wp2_with fail
        refine (ckRule_ok K R p n c t w0 H.out.1 (H.out.2.1.next HE.out.2) H.out.2.2.1).mono ?_
        rintro e w1 ⟨rfl, hb1⟩
        have H1 := Lib.hid (And.intro (HE.out.1.next hb1) (HE.out.2.trans (hb1.mono HE.out.2.size)))
        clear hb1 hc0 hc1 hc2
        obtain ⟨_, hc0, hc1, hc2⟩ := H1.out.1.facts
        go_wp2_with fail
        refine (new_at overOp 1 3 w1 A (H.out.2.2.2.2.below H1.out.2) (by decide)).mono ?_
        rintro e w3 ⟨b3, rfl, hl3, hb3⟩
        have H3 := Lib.hid (And.intro (H1.out.2.trans (hb3.mono H1.out.2.size)) hl3)
        clear hb3 hl3
        go_wp2_with fail
        go_ret3
        exact ⟨b3, rfl, Chn.one H3.out.2, H3.out.1⟩
      · clear hu
        go_enter Tryd.func12, Tryd.ntmps12
        go_upto_region 1 with fail
        obtain ⟨w0, hw0⟩ : ∃ w0, w0 = w.alloc (.cells #[.int .i64 (K : Int), .int .i64 (R : Int), .slice p n c] 24) := ⟨_, rfl⟩
        rw [← hw0]
        obtain ⟨hb0, hE0⟩ := ST.out w0 hw0
        have HE := Lib.hid (And.intro hE0 hb0)
        obtain ⟨_, hc0, hc1, hc2⟩ := hE0.facts
        clear hw0 hE0 hb0
        go_wp2_with fail
        refine (ckRule_ok K R p n c t w0 H.out.1 (H.out.2.1.next HE.out.2) H.out.2.2.1).mono ?_
        rintro e w1 ⟨rfl, hb1⟩
        have H1 := Lib.hid (And.intro (HE.out.1.next hb1) (HE.out.2.trans (hb1.mono HE.out.2.size)))
        clear hb1 hc0 hc1 hc2
        obtain ⟨_, hc0, hc1, hc2⟩ := H1.out.1.facts
        go_wp2_with fail
        refine (H.out.2.2.2.1 w1).mono ?_
        rintro e w2 ⟨rfl, hb2⟩
        have H2 := Lib.hid (And.intro (H1.out.1.next hb2) (H1.out.2.trans (hb2.mono H1.out.2.size)))
        clear hb2 hc0 hc1 hc2
        obtain ⟨_, hc0, hc1, hc2⟩ := H2.out.1.facts
        go_wp2_with fail
        refine (new_at overOp 1 3 w2 A (H.out.2.2.2.2.below H2.out.2) (by decide)).mono ?_
        rintro e w3 ⟨b3, rfl, hl3, hb3⟩
        have H3 := Lib.hid (And.intro (H2.out.2.trans (hb3.mono H2.out.2.size)) hl3)
        clear hb3 hl3
        go_wp2_with fail
        go_ret3
        exact ⟨b3, rfl, Chn.one H3.out.2, H3.out.1⟩
    · rename_i hu
      split at hc
      · rename_i hs
        obtain ⟨rfl, rfl⟩ := Prod.mk.inj (Option.some.inj hc)
        clear hc
        have g1 : ¬ u < 0 := by omega
        have g2 : ¬ (N : Int) ≤ u := by omega
        rcases (by omega : s < 0 ∨ (¬ s < 0 ∧ (K : Int) ≤ s)) with g3 | ⟨g3, g4⟩
        all_goals
          clear hu hs
          go_enter Tryd.func12, Tryd.ntmps12
          go_upto_region 1 with fail
          obtain ⟨w0, hw0⟩ : ∃ w0, w0 = w.alloc (.cells #[.int .i64 (K : Int), .int .i64 (R : Int), .slice p n c] 24) := ⟨_, rfl⟩
          rw [← hw0]
          obtain ⟨hb0, hE0⟩ := ST.out w0 hw0
          have HE := Lib.hid (And.intro hE0 hb0)
          obtain ⟨_, hc0, hc1, hc2⟩ := hE0.facts
          clear hw0 hE0 hb0
          go_wp2_with fail
          refine (ckRule_ok K R p n c t w0 H.out.1 (H.out.2.1.next HE.out.2) H.out.2.2.1).mono ?_
          rintro e w1 ⟨rfl, hb1⟩
          have H1 := Lib.hid (And.intro (HE.out.1.next hb1) (HE.out.2.trans (hb1.mono HE.out.2.size)))
          clear hb1 hc0 hc1 hc2
          obtain ⟨_, hc0, hc1, hc2⟩ := H1.out.1.facts
          go_wp2_with fail
          refine (H.out.2.2.2.1 w1).mono ?_
          rintro e w2 ⟨rfl, hb2⟩
          have H2 := Lib.hid (And.intro (H1.out.1.next hb2) (H1.out.2.trans (hb2.mono H1.out.2.size)))
          clear hb2 hc0 hc1 hc2
          obtain ⟨_, hc0, hc1, hc2⟩ := H2.out.1.facts
          go_wp2_with fail
          refine (new_at overOp 2 3 w2 A (H.out.2.2.2.2.below H2.out.2) (by decide)).mono ?_
          rintro e w3 ⟨b3, rfl, hl3, hb3⟩
          have H3 := Lib.hid (And.intro (H2.out.2.trans (hb3.mono H2.out.2.size)) hl3)
          clear hb3 hl3
          go_wp2_with fail
          go_ret3
          exact ⟨b3, rfl, Chn.one H3.out.2, H3.out.1⟩
      · cases hc
end Go.Proofs.YtmienemnjikgdaaDoor
end
section
namespace Go.Proofs.YtmienemnjikgdaaDoor
open Go.RowKit Go.Shelf

/-- how a round is left: it goes on; what is no cells lies as it lay, and the next round's word holds -/
def RoundQ (k : Nat) (I : Nat → World → Prop) (W : World) : Exit → Act → World → Prop
  | .normal, _, W' => KeepsOthers W W' ∧ I (k + 1) W'
  | _, _, _ => False
/-- what the iterator does with whatever word of the rounds that tells what it reads (D): it calls them all, from the first on -/
def CallsAll (P : Program) (m gf : Nat) (lb : Array Value) (enc : Nat → Array Value) (N : Nat) (D : Nat → World → Prop) : Prop :=
  ∀ (l : Nat) (J : Nat → World → Prop) (W : World), (∀ k V, k ≤ N → J k V → D k V) →
    (∀ k V, k < N → J k V → YieldAt Fence.wide (m - 1) P l (enc k) V fun e V' => e = .returned (.bool true) ∧ J (k + 1) V') →
    J 0 W → CallsIn Fence.wide m P gf (#[.func (.yield l) #[] #[]] ++ lb) W fun e V => (∃ v, e = .returned v) ∧ J N V

theorem range_all {P : Program} {n : Nat} {g : Operand} {ps : Array Tmp} {assign body : Code} {Q : Exit → Act → World → Prop} {a : Act} {w : World}
    {gf : Nat} {lb : Array Value} (hg : a.eval g = .func (.func gf) #[] lb) (eg : ∀ args V, (callFunc gf args).run P V = .ok (.enter gf args) V)
    {enc : Nat → Array Value} {N : Nat} {D : Nat → World → Prop} (h1 : 1 ≤ n) (hps : ∀ k, (enc k).size = ps.size) (hall : CallsAll P (n - 1) gf lb enc N D)
    (I : Nat → World → Prop) (hI : OwnFrom w.heap.size I) (h0 : I 0 w) (hD : ∀ k V, k ≤ N → I k V → D k V) (a₁ : Nat → Act)
    (hassign : ∀ (l k : Nat) (W : World) (K : Act → World → Prop), K (a₁ k) W →
      assign.wpIn (Fence.wide.inRound l) (n - 1 - 1) P (Exit.then K (fun _ _ _ => False)) { tmps := (ps.zip (enc k)).foldl (fun t (p, v) => t.setIfInBounds p v) a.tmps, defers := [] } W)
    (hbody : ∀ (l k : Nat) (W : World), k < N → I k W → body.wpIn (Fence.wide.inRound l) (n - 1 - 1) P (RoundQ k I W) (a₁ k) W)
    (hdone : ∀ (B : Nat) (W : World), w.heap.size ≤ B → I N W → W.heap[B]? = some (.deferred (some [])) → Q .normal { a with defers := { target := .collected B, args := #[] } :: a.defers } W) :
    (Code.rangeFunc g ps assign body).wpIn Fence.wide n P Q a w := by
  refine wpIn_rangeFunc fun fn hfn => ?_
  -- the loop's record, by its state
  let lp : LoopState → Obj := fun st => .loop { state := st, pending := none, fn := fn, tmps := a.tmps, params := ps, assign := assign, body := body, defers := w.heap.size }
  -- a round's word: the caller's, the record ready, the block of deferred calls open
  let J : Nat → World → Prop := fun k W => I k W ∧ W.heap[w.heap.size + 1]? = some (lp .ready) ∧ W.heap[w.heap.size]? = some (.deferred (some []))
  have hlast : ∀ (W : World) (o : Obj), (W.alloc o).heap[W.heap.size]? = some o := World.alloc_heap_new
  obtain ⟨w1, hw1⟩ : ∃ x, x = (w.alloc (.deferred (some []))).alloc (lp .ready) := ⟨_, rfl⟩
  have hJ0 : J 0 w1 := by
    refine ⟨by rw [hw1]; exact hI.alloc _ (hI.alloc _ h0), ?_, ?_⟩
    · have := hlast (w.alloc (.deferred (some []))) (lp .ready)
      rw [World.size_alloc] at this
      rw [hw1]; exact this
    · rw [hw1, Below.heap_alloc _ _ _ (by simp)]
      exact hlast w _
  refine ⟨w.heap.size + 1, [{ target := .collected w.heap.size, args := #[] }], w1, { target := .fn (.func gf) lb, args := #[.func (.yield (w.heap.size + 1)) #[] #[]] }, w1, gf, #[.func (.yield (w.heap.size + 1)) #[] #[]] ++ lb, w1, ?_, ?_, fun _ _ => trivial, ?_, fun _ => h1, ?_⟩
  · rw [hw1]; exact run_enterLoop_outer _ _ _ _ _
  · simp only [resolve, hg]
    simp [go_sem]
  · simp [invoke, go_sem, eg]
  refine (hall (w.heap.size + 1) J w1 (fun k V hk hJ => hD k V hk hJ.1) (fun k V hk hJ => ?_) hJ0).mono ?_
  · obtain ⟨hi, hl, hd⟩ := hJ
    have hlt : w.heap.size + 1 < V.heap.size := (Array.getElem?_eq_some_iff.1 hl).1
    refine ⟨_, _, _, _, run_yield hl (hps k), roundIn_of_wpIn trivial (hassign _ k V _ ⟨_, run_beginRound hl rfl, ?_⟩)⟩
    obtain ⟨V2, hV2⟩ : ∃ x, x = V.putObj (w.heap.size + 1) (lp .busy) := ⟨_, rfl⟩
    have hl2 : V2.heap[w.heap.size + 1]? = some (lp .busy) := by rw [hV2]; exact World.putObj_heap_same hlt
    have hd2 : V2.heap[w.heap.size]? = some (.deferred (some [])) := by rw [hV2, World.putObj_heap_other (by omega)]; exact hd
    have hi2 : I k V2 := by rw [hV2]; exact hI.putObj _ hi (by omega) hl rfl
    show body.wpIn _ _ _ _ _ (V.putObj (w.heap.size + 1) (lp .busy))
    rw [← hV2]
    refine wpIn_mono (hbody _ k V2 hk hi2) fun e a3 V3 hq => ?_
    cases e with
    | normal =>
      obtain ⟨hko, hi3⟩ := hq
      have hl3 := hko.same _ _ hl2 rfl
      have hd3 := hko.same _ _ hd2 rfl
      have hlt3 : w.heap.size + 1 < V3.heap.size := (Array.getElem?_eq_some_iff.1 hl3).1
      exact ⟨_, _, run_endRound none hl3, rfl, ⟨hI.putObj _ hi3 (by omega) hl3 rfl, World.putObj_heap_same hlt3, (World.putObj_heap_other (by omega)).trans hd3⟩⟩
    | ret => exact hq.elim
    | exit id => exact hq.elim
    | goto t => exact hq.elim
    | panic ch => exact hq.elim
    | outgrown => exact hq.elim
  · rintro e V ⟨⟨v, rfl⟩, hi, hl, hd⟩
    have hlt : w.heap.size + 1 < V.heap.size := (Array.getElem?_eq_some_iff.1 hl).1
    exact ⟨none, _, run_endLoop hl (by simp), hdone w.heap.size _ (Nat.le_refl _) (hI.putObj _ hi (by omega) hl rfl) ((World.putObj_heap_other (by omega)).trans hd)⟩

/-! ### slices.Backward of ints -/
attribute [local go_sem] Oper.semAt_some
set_option maxHeartbeats 1000000 in
theorem backwardI (p : Option Addr) (n c : Nat) (w : World) :
    Calls Tryd.prog 71 #[.slice p n c] w fun e w' => e = .returned (.func (.func 81) #[] #[.pointer (some ⟨w.heap.size, 0, none⟩)]) ∧ w.alloc (.cells #[.slice p n c] 22) = w' := by
  go_enter Tryd.func71, Tryd.ntmps71
  go_wp2_with fail
  go_ret
  exact ⟨rfl, rfl⟩
/-- what Backward's iterator reads ahead of its round k -/
def BackD (Bs : Nat) (p : Option Addr) (n c : Nat) (f : Nat → Int) (k : Nat) (V : World) : Prop :=
  V.cell? ⟨Bs, 0, none⟩ = some (.slice p n c) ∧ (k < n → ∃ b off, p = some ⟨b, off, none⟩ ∧ V.cell? ⟨b, off + (n - 1 - k), none⟩ = some (.int .i64 (f k)))
def BackE (n : Nat) (f : Nat → Int) (k : Nat) : Array Value := #[.int .i64 ((n - 1 - k : Nat) : Int), .int .i64 (f k)]
set_option maxRecDepth 100000 in
set_option maxHeartbeats 2000000 in
theorem backward_all (m Bs : Nat) (p : Option Addr) (n c : Nat) (f : Nat → Int) (h1 : 1 ≤ m) (hn : n ≤ 1000000) (hc : n ≤ c) : CallsAll Tryd.prog m 81 #[.pointer (some ⟨Bs, 0, none⟩)] (BackE n f) n (BackD Bs p n c f) := fun l J W hJ hY h0 => by
  refine callsIn_of_wp Tryd.func81 rfl trivial ?_ rfl
  simp only [Tryd.ntmps81, List.size_toArray, List.length_cons, List.length_nil, Nat.reduceAdd, Nat.reduceSub, Array.replicate_succ, Array.replicate_zero, List.push_toArray, List.append_toArray, List.nil_append, List.cons_append]
  have hc0 := (hJ 0 W (Nat.zero_le _) h0).1
  rcases Nat.eq_zero_or_pos n with hz | hpos
  · subst hz
    have H := Lib.hid (And.intro hJ (And.intro hY h0))
    clear hJ hY h0
    gi_wp2
    gi_loopw [3] (fun i wr => i = .int .i64 (-1) ∧ Hid (J 0 wr)) (fun _ _ => 0)
    case atStart => exact ⟨rfl, Lib.hid H.out.2.2⟩
    case round =>
      obtain ⟨rfl, hJs⟩ := hrel
      gi_wp2
      go_end0
      exact ⟨⟨_, rfl⟩, hJs.out⟩
  · have H := Lib.hid (And.intro hJ (And.intro hY h0))
    clear hJ hY h0
    gi_wp2
    gi_loopw [3] (fun i wr => ∃ (j : Nat) (z : Int), j ≤ n ∧ i = .int .i64 z ∧ Hid (z = (n : Int) - 1 - (j : Int)) ∧ Hid (J j wr)) (fun i _ => (intOf i + 1).toNat)
    case atStart => exact ⟨0, (n : Int) - 1, Nat.zero_le _, rfl, Lib.hid (by omega), Lib.hid H.out.2.2⟩
    case round =>
      obtain ⟨j, z, hj, rfl, hz, hJs⟩ := hrel
      have hz1 : -1 ≤ z := by have := hz.out; omega
      have hz2 : z ≤ 1000000 := by have := hz.out; omega
      by_cases hz0 : 0 ≤ z
      · have hjn : j < n := by have := hz.out; omega
        have hzn : z < (n : Int) := by have := hz.out; omega
        obtain ⟨hcB, hrow⟩ := H.out.1 j wr hj hJs.out
        obtain ⟨b, off, rfl, hcell⟩ := hrow hjn
        obtain ⟨fn, tmps, assign, body, hy, hR⟩ := H.out.2.1 j wr hjn hJs.out
        have hzt : ((n - 1 - j : Nat) : Int) = z := by have := hz.out; omega
        have hzN : n - 1 - j = z.toNat := by have := hz.out; omega
        unfold BackE at hy
        rw [hzt] at hy
        rw [hzN] at hcell
        obtain ⟨x, hx⟩ : ∃ x, f j = x := ⟨_, rfl⟩
        rw [hx] at hy hcell
        have HN := Lib.hid (And.intro hzt (And.intro hzN hx))
        clear hzt hzN hx hrow
        gi_wp2
        refine hR.mono ?_
        rintro e W3 ⟨rfl, hJ3⟩
        have HJ := Lib.hid hJ3
        clear hJ3 hcB hcell hy hR
        gi_wp2
        go_roundw
        case rel => exact ⟨j + 1, z - 1, hjn, rfl, Lib.hid (by have := hz.out; push_cast; omega), HJ⟩
        case measure => simp [intOf]; omega
      · have hjn : j = n := by have := hz.out; omega
        have HJ := Lib.hid (hjn ▸ hJs.out)
        clear hjn
        gi_wp2
        go_end0
        exact ⟨⟨_, rfl⟩, HJ.out⟩
end Go.Proofs.YtmienemnjikgdaaDoor
end
section
namespace Go.Proofs.YtmienemnjikgdaaDoor
open Go.RowKit

theorem madeI_list (v : Value) (n : Nat) : (madeCells #[v] n).toList = List.replicate n v := by
  unfold madeCells
  rw [Array.toList_map, Array.toList_range]
  apply List.ext_getElem
  · simp
  · intro i h1 h2
    simp [Nat.mod_one]
theorem makeI (n : Nat) (hn : n ≤ 17592186044000) (w : World) :
    (Instr.makeSlice 22 (.int .i64 (n : Int)) (.int .i64 (n : Int))).run Tryd.prog w = .ok (.slice (some ⟨w.heap.size, 0, none⟩) n n) (w.alloc (.cells (madeCells #[.int .i64 0] n) 3)) := by
  obtain ⟨i0, hi, hz0, hz1, hz2⟩ := info_parts infoI
  have h := run_make (P := Tryd.prog) w 22 3 i0 (.int .i64 0) Tryd.underlying22 hi hz0 .i64 .i64 n n (by omega) (by omega) (by rw [hz2]; omega) (by omega)
  rw [hz1] at h
  simpa [Value.cells] using h
theorem IntO.made (w : World) (n : Nat) (hn : n ≤ 17592186044000) : IntO w.heap.size (w.alloc (.cells (madeCells #[.int .i64 0] n) 3)) (some ⟨w.heap.size, 0, none⟩) n (List.replicate n 0) := by
  refine ⟨by simp [cI], Or.inr ⟨w.heap.size, n, madeCells #[.int .i64 0] n, by rw [List.length_replicate], Nat.le_refl _, heap_newN _ _, by rw [List.length_replicate]; exact Nat.le_refl _, by unfold maxLen; omega, by rw [size_madeCells, Nat.mul_one], ?_⟩⟩
  rw [madeI_list, List.length_replicate, Nat.mul_one, List.take_of_length_le (by simp)]
  simp [cI]

/-- a slice of no element, with room -/
def RoomPost (w : World) (e : Ending) (w' : World) : Prop := ∃ p c, e = .returned (.slice p 0 c) ∧ IntO w.heap.size w' p c [] ∧ Below w.heap.size w w'
abbrev Sl := Option Addr × Nat × List Int
def Sl.val (x : Sl) : Value := .slice x.1 x.2.2.length x.2.1
/-- A slice of slices of ints below B: it reads L, and each of them reads. -/
structure SlsV (B : Nat) (w : World) (p : Option Addr) (c : Nat) (L : List Sl) : Prop where
  le : L.length ≤ c
  cap : c ≤ maxLen
  each : ∀ x : Sl, x ∈ L → IntV B w x.1 x.2.1 x.2.2
  cell : L ≠ [] → ∃ b off, p = some ⟨b, off, none⟩ ∧ b < B ∧ ∀ (j : Nat) (x : Sl), L[j]? = some x → w.cell? ⟨b, off + j, none⟩ = some x.val
theorem SlsV.below {B : Nat} {w w' : World} {p : Option Addr} {c : Nat} {L : List Sl} (hb : Below B w w') (h : SlsV B w p c L) : SlsV B w' p c L :=
  ⟨h.le, h.cap, fun x hx => (h.each x hx).below hb, fun hn => by
    obtain ⟨b, off, hp, hlt, hc⟩ := h.cell hn
    exact ⟨b, off, hp, hlt, fun j x hx => (hb.cell (p := ⟨b, off + j, none⟩) hlt).trans (hc j x hx)⟩⟩
theorem SlsV.mono {B B' : Nat} {w : World} {p : Option Addr} {c : Nat} {L : List Sl} (hB : B ≤ B') (h : SlsV B w p c L) : SlsV B' w p c L :=
  ⟨h.le, h.cap, fun x hx => (h.each x hx).mono hB, fun hn => by
    obtain ⟨b, off, hp, hlt, hc⟩ := h.cell hn
    exact ⟨b, off, hp, by omega, hc⟩⟩
theorem SlsV.next {w w' : World} {p : Option Addr} {c : Nat} {L : List Sl} (hb : Below w.heap.size w w') (h : SlsV w.heap.size w p c L) : SlsV w'.heap.size w' p c L := (h.below hb).mono hb.size
/-- a literal of slices, just laid -/
theorem SlsV.laid {w : World} (L : List Sl) (cs : Array Value) (t : TypeId) (hc : cs.toList = L.map Sl.val) (hl : L.length ≤ 1000) (h : ∀ x : Sl, x ∈ L → IntV w.heap.size w x.1 x.2.1 x.2.2) :
    SlsV (w.alloc (.cells cs t)).heap.size (w.alloc (.cells cs t)) (some ⟨w.heap.size, 0, none⟩) L.length L := by
  have hb : Below w.heap.size w (w.alloc (.cells cs t)) := (Below.refl _ _).alloc (Nat.le_refl _) _
  refine ⟨Nat.le_refl _, by unfold maxLen; omega, fun x hx => (h x hx).next hb, fun _ => ⟨w.heap.size, 0, rfl, by simp, fun j x hx => ?_⟩⟩
  rw [Nat.zero_add, cell_alloc_row, ← Array.getElem?_toList, hc, List.getElem?_map, hx]; rfl
def flat (L : List Sl) : List Int := (L.map (·.2.2)).flatten
def sumL (L : List Sl) : Nat := (L.map (·.2.2.length)).sum
theorem flat_length (L : List Sl) : (flat L).length = sumL L := by unfold flat sumL; rw [List.length_flatten, List.map_map]; rfl
theorem flat_snoc {L : List Sl} {j : Nat} {x : Sl} (h : L[j]? = some x) : flat (L.take (j + 1)) = flat (L.take j) ++ x.2.2 := by
  unfold flat
  rw [List.take_add_one, h]; simp
theorem sum_snoc {L : List Sl} {j : Nat} {x : Sl} (h : L[j]? = some x) : sumL (L.take (j + 1)) = sumL (L.take j) + x.2.2.length := by
  unfold sumL
  rw [List.take_add_one, h]; simp
theorem sum_take_le (L : List Sl) (j : Nat) : sumL (L.take j) ≤ sumL L := by
  conv => rhs; rw [← List.take_append_drop j L]
  unfold sumL
  rw [List.map_append, List.sum_append]
  exact Nat.le_add_right _ _
def ConcatRel (w : World) (L : List Sl) (v6 v27 : Value) (wr : World) : Prop :=
  ∃ (j : Nat) (p : Option Addr) (c : Nat), j ≤ L.length ∧ v27 = .int .i64 (j : Int) ∧ v6 = .slice p (flat (L.take j)).length c ∧ IntO w.heap.size wr p c (flat (L.take j)) ∧ Below w.heap.size w wr

end Go.Proofs.YtmienemnjikgdaaDoor
end
section
namespace Go.Proofs.YtmienemnjikgdaaDoor
open Go.RowKit Go.Shelf Go.Extern.Stop Go.Stop Go.Extern WordM RuleM
attribute [local go_sem] Oper.semAt_some

theorem rul_turned {W W' : World} {row : Option Nat} {h : Nat} {a b c : Value} (k : Rul3 W h a b c) (hg : W.grownBy W' row) (hr : ∀ r, row = some r → ∃ o : Obj, W.heap[r]? = some o ∧ o.isCells = false) : Rul3 W' h a b c :=
  ⟨(grownBy_keeps_cells hg hr k.heap rfl).trans k.heap⟩
theorem box_turned {W W' : World} {row : Option Nat} {B : Nat} {t : TypeId} {v : Value} (k : Boxed W B t v) (hg : W.grownBy W' row) (hr : ∀ r, row = some r → ∃ o : Obj, W.heap[r]? = some o ∧ o.isCells = false) : Boxed W' B t v :=
  (grownBy_keeps_cells hg hr k rfl).trans k
theorem row_turned {W W' : World} {row : Option Nat} {base : Nat} {p : Option Addr} {c : Nat} {l : List Int} (h : IntO base W p c l) (hg : W.grownBy W' row) (hr : ∀ r, row = some r → ∃ o : Obj, W.heap[r]? = some o ∧ o.isCells = false) : IntO base W' p c l :=
  World.ownsRow.kept h hg (by
    cases hb : (Value.slice p l.length c).ownBlock with
    | none => exact Or.inl rfl
    | some z =>
      right
      intro e
      obtain ⟨o, ho, hc⟩ := hr z e.symm
      rcases h.2 with ⟨hv, _⟩ | ⟨g, cap, cur, hv, _, hh, _⟩
      · rw [hv] at hb; cases hb
      · rw [hv] at hb
        obtain rfl : g = z := by simpa [Value.ownBlock] using hb
        rw [hh] at ho
        obtain rfl := Option.some.inj ho
        cases hc)
/-- the word as far as its digits were written, from its end on -/
def digTo (K N u k : Nat) : List Int := List.replicate (N - k) 0 ++ digW K k u
theorem digTo_length {K N u k : Nat} (h : k ≤ N) : (digTo K N u k).length = N := by unfold digTo; rw [List.length_append, List.length_replicate, digW_length]; omega
theorem digTo_set {K N u k : Nat} (h : k < N) : (digTo K N u k).set (N - 1 - k) (((u / K ^ k % K : Nat) : Int)) = digTo K N u (k + 1) := by
  unfold digTo
  rw [Nat.add_comm k 1, digW_app K k 1 u, show N - k = (N - (1 + k)) + 1 by omega, List.replicate_succ', List.append_assoc, List.set_append_right _ _ (by rw [List.length_replicate]; omega), List.length_replicate, show N - 1 - k - (N - (1 + k)) = 0 by omega]
  rfl
/-- between two rounds: the boxes of the rule, of the number, of the word, of the iterator; the word; old memory -/
def WordI (w : World) (K R : Int) (p : Option Addr) (n c : Nat) (Kn N u B5 B6 g : Nat) (k : Nat) (W : World) : Prop :=
  Rul3 W w.heap.size (.int .i64 K) (.int .i64 R) (.slice p n c) ∧ Boxed W (w.heap.size + 1) 3 (.int .i64 ((u / Kn ^ k : Nat) : Int)) ∧ Boxed W B5 22 (.slice (some ⟨g, 0, none⟩) N N) ∧ Boxed W B6 22 (.slice (some ⟨g, 0, none⟩) N N) ∧ IntO w.heap.size W (some ⟨g, 0, none⟩) N (digTo Kn N u k) ∧ Below w.heap.size w W
set_option maxRecDepth 100000 in
set_option maxHeartbeats 4000000 in
theorem wordOfO (K R u N : Nat) (p : Option Addr) (n c : Nat) (w : World) (h1 : 1 ≤ K) (h4 : K ≤ 4) (h3 : R ≤ 3) (hN : N = 2 * R) (hu : u ≤ 100000) :
    Calls Tryd.prog 51 #[.agg #[.int .i64 (K : Int), .int .i64 (R : Int), .slice p n c], .int .i64 (u : Int)] w (fun e w' => ∃ b d, e = .returned (.slice (some ⟨b, 0, none⟩) N d) ∧ IntO w.heap.size w' (some ⟨b, 0, none⟩) d (digW K N u) ∧ Below w.heap.size w w') := by
  have h2R : 2 * (R : Int) = (N : Int) := by omega
  have zN : N ≤ 6 := by omega
  have hmk := makeI N (by omega)
  have HP := Lib.hid (And.intro h1 (And.intro h4 hN))
  clear hN
  refine (callsIn_wide (n := 6)).1 ?_
  refine callsIn_of_wp_marks Tryd.func51 rfl trivial ?_ rfl
  simp only [Tryd.ntmps51, List.size_toArray, List.length_cons, List.length_nil, Nat.reduceAdd, Nat.reduceSub, Array.replicate_succ, Array.replicate_zero, List.push_toArray, List.append_toArray, List.nil_append, List.cons_append]
  gi_upto_region 1 with fail
  obtain ⟨w0, hw0⟩ : ∃ w0, w0 = (w.alloc (.cells #[.int .i64 (K : Int), .int .i64 (R : Int), .slice p n c] 24)).alloc (.cells #[.int .i64 (u : Int)] 3) := ⟨_, rfl⟩
  rw [← hw0]
  have hE0 : Rul3 w0 w.heap.size (.int .i64 (K : Int)) (.int .i64 (R : Int)) (.slice p n c) := by rw [hw0]; exact (Rul3.new w _ _ _).next ((Below.refl _ _).alloc (Nat.le_refl _) _)
  have hB0 : Boxed w0 (w.heap.size + 1) 3 (.int .i64 (u : Int)) := by
    have := Boxed.new (w.alloc (.cells #[.int .i64 (K : Int), .int .i64 (R : Int), .slice p n c] 24)) 3 (.int .i64 (u : Int))
    rw [World.size_alloc] at this
    rw [hw0]; exact this
  have hb0 : Below w.heap.size w w0 := by rw [hw0]; exact ((Below.refl _ _).alloc (Nat.le_refl _) _).alloc (by simp) _
  have hs0 : w0.heap.size = w.heap.size + 1 + 1 := by rw [hw0]; simp
  have HE := Lib.hid (And.intro hE0 (And.intro hb0 (And.intro hs0 hB0)))
  obtain ⟨_, hc0, hc1, hc2⟩ := hE0.facts
  clear hw0 hE0 hb0 hs0 hB0
  have hmk0 := hmk w0
  obtain ⟨wm, hwm⟩ : ∃ x, x = w0.alloc (.cells (madeCells #[.int .i64 0] N) 3) := ⟨_, rfl⟩
  have hom : IntO w.heap.size wm (some ⟨w0.heap.size, 0, none⟩) N (List.replicate N 0) := by rw [hwm]; exact (IntO.made w0 N (by omega)).base HE.out.2.1.size
  have hbm : Below w0.heap.size w0 wm := by rw [hwm]; exact (Below.refl _ _).alloc (Nat.le_refl _) _
  have hsm : wm.heap.size = w0.heap.size + 1 := by rw [hwm]; simp
  have hBm : Boxed wm (w.heap.size + 1) 3 (.int .i64 (u : Int)) := by rw [hwm]; exact HE.out.2.2.2.alloc _
  rw [← hwm] at hmk0
  have HM := Lib.hid (And.intro (HE.out.1.next hbm) (And.intro hom (And.intro hBm (And.intro (HE.out.2.1.trans (hbm.mono HE.out.2.1.size)) (hsm.trans (congrArg (· + 1) HE.out.2.2.1))))))
  clear hwm hom hbm hsm hBm hmk
  obtain ⟨g, hg⟩ : ∃ g, w0.heap.size = g := ⟨_, rfl⟩
  rw [hg] at hmk0 HM
  gi_upto_region 2 with fail
  obtain ⟨w1, hw1⟩ : ∃ x, x = wm.alloc (.cells #[.slice (some ⟨g, 0, none⟩) N N] 22) := ⟨_, rfl⟩
  have hb1 : Below wm.heap.size wm w1 := by rw [hw1]; exact (Below.refl _ _).alloc (Nat.le_refl _) _
  have hB5 : Boxed w1 wm.heap.size 22 (.slice (some ⟨g, 0, none⟩) N N) := by rw [hw1]; exact Boxed.new _ _ _
  have hB1 : Boxed w1 (w.heap.size + 1) 3 (.int .i64 (u : Int)) := by rw [hw1]; exact HM.out.2.2.1.alloc _
  have hs1 : w1.heap.size = wm.heap.size + 1 := by rw [hw1]; simp
  rw [← hw1]
  obtain ⟨B5, hB⟩ : ∃ x, wm.heap.size = x := ⟨_, rfl⟩
  rw [hB] at hB5 hs1 ⊢
  have HM1 := Lib.hid (And.intro (HM.out.1.next hb1) (And.intro (HM.out.2.1.next hb1) (And.intro hB1 (And.intro hB5 (And.intro (HM.out.2.2.2.1.trans (hb1.mono HM.out.2.2.2.1.size)) hs1)))))
  have hc5 := hB5.cell
  have HgE := Lib.hid hg
  clear hw1 hb1 hB5 hB1 hs1 hmk0 hg
  gi_wp2_with (refine ⟨trivial, ?_⟩; gi_at_call 71; refine (callsIn_wide.2 (backwardI _ _ _ _)).mono ?_; rintro e w' ⟨rfl, rfl⟩)
  obtain ⟨w2, hw2⟩ : ∃ x, x = w1.alloc (.cells #[.slice (some ⟨g, 0, none⟩) N N] 22) := ⟨_, rfl⟩
  have hb2 : Below w1.heap.size w1 w2 := by rw [hw2]; exact (Below.refl _ _).alloc (Nat.le_refl _) _
  have hB6 : Boxed w2 w1.heap.size 22 (.slice (some ⟨g, 0, none⟩) N N) := by rw [hw2]; exact Boxed.new _ _ _
  have hB51 : Boxed w2 B5 22 (.slice (some ⟨g, 0, none⟩) N N) := by rw [hw2]; exact HM1.out.2.2.2.1.alloc _
  have hB11 : Boxed w2 (w.heap.size + 1) 3 (.int .i64 (u : Int)) := by rw [hw2]; exact HM1.out.2.2.1.alloc _
  have hs2 : w.heap.size ≤ w2.heap.size := (HM1.out.2.2.2.2.1.trans (hb2.mono HM1.out.2.2.2.2.1.size)).size
  rw [← hw2]
  obtain ⟨B6, hB'⟩ : ∃ x, w1.heap.size = x := ⟨_, rfl⟩
  have hI0 : WordI w (K : Int) (R : Int) p n c K N u B5 B6 g 0 w2 := ⟨HM1.out.1.next hb2, by simpa using hB11, hB51, hB' ▸ hB6, by have := HM1.out.2.1.next hb2; simpa [digTo, digW] using this, HM1.out.2.2.2.2.1.trans (hb2.mono HM1.out.2.2.2.2.1.size)⟩
  rw [hB']
  have hD : ∀ k V, k ≤ N → WordI w (K : Int) (R : Int) p n c K N u B5 B6 g k V → BackD B6 (some ⟨g, 0, none⟩) N N (fun _ => 0) k V := fun k V hk hi => by
    refine ⟨hi.2.2.2.1.cell, fun hlt => ⟨g, 0, rfl, ?_⟩⟩
    have hrow := hi.2.2.2.2.1
    unfold IntO at hrow
    rw [digTo_length hk] at hrow
    rw [Nat.zero_add, hrow.cellAt (N - 1 - k) (by omega)]
    refine cI_get (x := 0) ?_
    unfold digTo
    rw [List.getElem?_append_left (by rw [List.length_replicate]; omega), List.getElem?_replicate, if_pos (by omega)]
  have HG := Lib.hid (show g = w.heap.size + 2 ∧ B5 = w.heap.size + 3 ∧ B6 = w.heap.size + 4 from by
    have e1 := HE.out.2.2.1
    have e0 := HgE.out
    have e2 := HM.out.2.2.2.2
    have e3 := HM1.out.2.2.2.2.2
    omega)
  clear hw2 hb2 hB6 hB51 hB11 hc5 hB hB'
  refine range_all (n := 6) (gf := 81) (lb := #[.pointer (some ⟨B6, 0, none⟩)]) rfl (enters_of Tryd.func81 (by kernel_rfl) rfl) (enc := BackE N (fun _ => 0)) (by omega) (fun _ => rfl) (backward_all 5 B6 (some ⟨g, 0, none⟩) N N (fun _ => 0) (by omega) (by omega) (Nat.le_refl _)) (WordI w (K : Int) (R : Int) p n c K N u B5 B6 g)
    (fun k A B row hs hg' hr => ⟨rul_turned hs.1 hg' (fun r e => (hr r e).2), box_turned hs.2.1 hg' (fun r e => (hr r e).2), box_turned hs.2.2.1 hg' (fun r e => (hr r e).2), box_turned hs.2.2.2.1 hg' (fun r e => (hr r e).2), row_turned hs.2.2.2.2.1 hg' (fun r e => (hr r e).2), hs.2.2.2.2.2.grown hg' hs.2.2.2.2.2.size (fun k e => Nat.le_trans hs2 (hr k e).1)⟩)
    hI0 hD
    (fun k => { tmps := #[.agg #[.int .i64 (K : Int), .int .i64 (R : Int), .slice p n c], .int .i64 (u : Int), .pointer (some ⟨w.heap.size, 0, none⟩), .pointer (some ⟨w.heap.size + 1, 0, none⟩), .slice none 0 0, .pointer (some ⟨B5, 0, none⟩), .int .i64 ((N - 1 - k : Nat) : Int), .pointer (some ⟨w.heap.size, 1, none⟩), .int .i64 (R : Int), .int .i64 (N : Int), .slice (some ⟨g, 0, none⟩) N N, .slice (some ⟨g, 0, none⟩) N N, .func (.func 81) #[] #[.pointer (some ⟨B6, 0, none⟩)], .int .i64 ((N - 1 - k : Nat) : Int), .int .i64 0, undef, undef, undef, undef, undef, undef, undef, undef, undef, undef, undef, undef], defers := [] }) ?assign ?body ?done
  case assign =>
    intro l k W K' hK
    unfold BackE
    gi_wp2
    exact hK
  case body =>
    intro l k W hk hi
    obtain ⟨j, hj⟩ : ∃ j, N - 1 - k = j := ⟨_, rfl⟩
    rw [hj]
    obtain ⟨U, hU⟩ : ∃ U, u / K ^ k = U := ⟨_, rfl⟩
    obtain ⟨hR, hN1, h5, h6, hrw, hbw⟩ := hi
    rw [hU] at hN1
    have hUle : U ≤ 100000 := by rw [← hU]; exact Nat.le_trans (Nat.div_le_self _ _) hu
    have hK1 := HP.out.1
    obtain ⟨Um, hUm⟩ : ∃ x, U % K = x := ⟨_, rfl⟩
    obtain ⟨Ud, hUd⟩ : ∃ x, U / K = x := ⟨_, rfl⟩
    have hm1 : ((U : Nat) : Int).tmod (K : Int) = (Um : Int) := by rw [← hUm, Int.tmod_eq_emod_of_nonneg (Int.natCast_nonneg _)]; push_cast; rfl
    have hm2 : ((U : Nat) : Int) % (K : Int) = (Um : Int) := by rw [← hUm]; push_cast; rfl
    have hd1 : ((U : Nat) : Int).tdiv (K : Int) = (Ud : Int) := by rw [← hUd, Int.tdiv_eq_ediv_of_nonneg (Int.natCast_nonneg _)]; push_cast; rfl
    have hd2 : ((U : Nat) : Int) / (K : Int) = (Ud : Int) := by rw [← hUd]; push_cast; rfl
    have hUdl : Ud ≤ 100000 := by rw [← hUd]; exact Nat.le_trans (Nat.div_le_self _ _) hUle
    have hKp : 0 < K := hK1
    have hKz : ¬ K = 0 := by omega
    have hjN : j < N := by omega
    have hjN2 : (j : Int) < (N : Int) := by omega
    have hj0 : (0 : Int) ≤ (j : Int) := by omega
    have hlen := digTo_length (K := K) (u := u) (Nat.le_of_lt hk)
    have hset := digTo_set (K := K) (u := u) hk
    rw [hj, hU, hUm] at hset
    have hlen2 := digTo_length (K := K) (u := u) hk
    have hget : (digTo K N u k)[j]? = some 0 := by
      unfold digTo
      rw [List.getElem?_append_left (by rw [List.length_replicate]; omega), List.getElem?_replicate, if_pos (by omega)]
    obtain ⟨xs, hxs⟩ : ∃ xs, digTo K N u k = xs := ⟨_, rfl⟩
    rw [hxs] at hrw hlen hset hget
    have hown : W.ownsRow w.heap.size 3 1 (.slice (some ⟨g, 0, none⟩) N N) N (cI xs) := by
      unfold IntO at hrw
      rwa [hlen] at hrw
    have hcy : W.cell? ⟨g, j, none⟩ = some (.int .i64 0) := (hown.cellAt j (by omega)).trans (cI_get hget)
    have hfy : W.frozen? ⟨g, j, none⟩ = false := hown.frozenAt j
    obtain ⟨s1, _⟩ := hown.stored j (.int .i64 (Um : Int))
    rw [← cI_set, hset] at s1
    have hUn : u / K ^ (k + 1) = Ud := by rw [Nat.pow_succ, ← Nat.div_div_eq_div_mul, hU, hUd]
    obtain ⟨wS, hwS⟩ : ∃ x, x = W.setCell ⟨g, j, none⟩ (.int .i64 (Um : Int)) := ⟨_, rfl⟩
    obtain ⟨hgE, h5E, h6E⟩ := HG.out
    have far : ∀ b o, b ≠ g → W.heap[b]? = some o → wS.heap[b]? = some o := fun b o hne ho => by rw [hwS]; exact (Below.heap_setCell W ⟨g, j, none⟩ _ b hne).trans ho
    have hRS : Rul3 wS w.heap.size (.int .i64 (K : Int)) (.int .i64 (R : Int)) (.slice p n c) := ⟨far _ _ (by omega) hR.heap⟩
    have hNS : Boxed wS (w.heap.size + 1) 3 (.int .i64 (U : Int)) := far _ _ (by omega) hN1
    have h5S : Boxed wS B5 22 (.slice (some ⟨g, 0, none⟩) N N) := far _ _ (by omega) h5
    have h6S : Boxed wS B6 22 (.slice (some ⟨g, 0, none⟩) N N) := far _ _ (by omega) h6
    have hoS : IntO w.heap.size wS (some ⟨g, 0, none⟩) N (digTo K N u (k + 1)) := by
      rw [hwS]; unfold IntO; rw [hlen2]; exact s1
    have hbS : Below w.heap.size w wS := by rw [hwS]; exact hbw.setCell (p := ⟨g, j, none⟩) (by show w.heap.size ≤ g; omega) _
    have hkS : KeepsOthers W wS := by rw [hwS]; exact KeepsOthers.setCell _ _ _
    obtain ⟨⟨hrf0, hrf1, hrf2⟩, hr0, hr1, hr2⟩ := hR.facts
    have hc1 := hN1.cell
    have hc5 := h5.cell
    have HS := Lib.hid (And.intro hRS (And.intro hNS (And.intro h5S (And.intro h6S (And.intro hoS (And.intro hbS (And.intro hkS (And.intro hUn (And.intro (show w.heap.size + 1 ≠ g ∧ w.heap.size + 1 ≠ w.heap.size ∧ B5 ≠ w.heap.size + 1 ∧ B6 ≠ w.heap.size + 1 by omega) hj)))))))))
    clear hR hN1 h5 h6 hrw hbw hU hUm hUd hlen hset hlen2 hget hxs hown s1 hUn hgE h5E h6E far hRS hNS h5S h6S hoS hbS hkS hj
    have hmx : Tryd.prog.follows .mixedOrders = true := by kernel_rfl
    gi_upto_region 4 with fail
    gi_cut [] from 15 (fun wx => wx = wS.drew)
    case first =>
      gi_region_with_o (fail)
      all_goals gi_wp2
      all_goals gi_meet
      all_goals rw [hwS]
    case rest =>
      subst hcut
      clear hcy hfy hwS hc1 hc5 hr0 hr1 hr2
      have hN2 : Boxed wS.drew (w.heap.size + 1) 3 (.int .i64 (U : Int)) := HS.out.2.1
      have hR2 : Rul3 wS.drew w.heap.size (.int .i64 (K : Int)) (.int .i64 (R : Int)) (.slice p n c) := ⟨HS.out.1.heap⟩
      have hc1 := hN2.cell
      have hf1 := hN2.frozen
      obtain ⟨_, hr0, hr1, hr2⟩ := hR2.facts
      have HN := Lib.hid (And.intro hN2 hR2)
      clear hN2 hR2
      gi_wp2
      have hne := HS.out.2.2.2.2.2.2.2.2.1
      have far : ∀ b o, b ≠ w.heap.size + 1 → wS.drew.heap[b]? = some o → (wS.drew.setCell ⟨w.heap.size + 1, 0, none⟩ (.int .i64 (Ud : Int))).heap[b]? = some o := fun b o hn ho => (Below.heap_setCell wS.drew ⟨w.heap.size + 1, 0, none⟩ _ b hn).trans ho
      refine ⟨HS.out.2.2.2.2.2.2.1.trans ((KeepsOthers.drew wS).trans (KeepsOthers.setCell _ _ _)), ⟨far _ _ (Ne.symm hne.2.1) HN.out.2.heap⟩, ?_, far _ _ hne.2.2.1 HS.out.2.2.1, far _ _ hne.2.2.2 HS.out.2.2.2.1, ?_, (HS.out.2.2.2.2.2.1.drew).setCell (p := ⟨w.heap.size + 1, 0, none⟩) (Nat.le_succ _) _⟩
      · rw [HS.out.2.2.2.2.2.2.2.1]
        exact HN.out.1.set _
      · exact World.ownsRow.kept (row := some (w.heap.size + 1)) (HS.out.2.2.2.2.1.next ((Below.refl _ _).drew)) (grownBy_setCell' _ _ _) (Or.inr (by
          have := hne.1
          simp [Value.ownBlock]
          omega))
  case done =>
    intro D W hDl hi hK
    obtain ⟨hR, hN1, h5, h6, hrw, hbw⟩ := hi
    have hc5 := h5.cell
    have he : digTo K N u N = digW K N u := by unfold digTo; rw [Nat.sub_self]; rfl
    have hl := digTo_length (K := K) (u := u) (Nat.le_refl N)
    rw [he] at hrw hl
    have HF := Lib.hid (And.intro hrw (And.intro hbw (And.intro hl (And.intro hDl hs2))))
    clear hR hN1 h5 h6 hrw hbw he hl
    gi_wp2
    refine ⟨by simp, .inl ⟨_, _, rfl, run_takeDeferred hK, ?_⟩⟩
    exact ⟨_, results_tmp rfl _ _ _, g, N, rfl, row_turned HF.out.1 (grownBy_putObj' _ D _) (fun r e => by cases e; exact ⟨_, hK, rfl⟩), HF.out.2.1.trans (belowK_b (w := w) (Nat.le_refl _) W D _ _ (by have := HF.out.2.2.2; omega) hK rfl rfl)⟩
end Go.Proofs.YtmienemnjikgdaaDoor
end
section
namespace Go.Proofs
open Go.Shelf
def Tryd.lays264_ren : Go.Shelf.Ren := ⟨fun | 264 => 83 | n => n, fun | 53 => 147 | 46 => 140 | n => n, fun | n => n⟩
theorem Tryd.lays264 : Go.Proofs.Lays.n264 Tryd.prog Tryd.lays264_ren := {
  mixed := by kernel_rfl
  f264 := Tryd.func83.trans (congrArg some (by kernel_rfl))
  t46 := Tryd.underlying140
  a46 := Tryd.isAgg140
  z46 := Tryd.sizeOf140
  v46 := Tryd.zeroValue140
  t53 := Tryd.underlying147
  a53 := Tryd.isAgg147
  z53 := Tryd.sizeOf147
  v53 := Tryd.zeroValue147 }
open Go.RowKit Go.Lib in
theorem Tryd.bits_Mul64 (x y : Nat) (hx : x < 18446744073709551616) (hy : y < 18446744073709551616) (w : World) :
    Calls Tryd.prog 83 #[.int .u64 x, .int .u64 y] w fun e w' => e = .returned (.tuple #[.int .u64 ((x * y / 18446744073709551616 : Nat) : Int), .int .u64 ((x * y % 18446744073709551616 : Nat) : Int)]) ∧ w' = w := Any.bits_Mul64 Tryd.lays264 x y hx hy w
def Tryd.lays212_ren : Go.Shelf.Ren := ⟨fun | 212 => 80 | 263 => 82 | 264 => 83 | n => n, fun | 46 => 140 | 51 => 144 | 146 => 145 | 53 => 147 | 148 => 148 | n => n, fun | n => n⟩
theorem Tryd.lays212 : Go.Proofs.Lays.n212 Tryd.prog Tryd.lays212_ren := {
  mixed := by kernel_rfl
  f212 := Tryd.func80.trans (congrArg some (by kernel_rfl))
  f263 := Tryd.func82.trans (congrArg some (by kernel_rfl))
  f264 := Tryd.func83.trans (congrArg some (by kernel_rfl))
  t46 := Tryd.underlying140
  a46 := Tryd.isAgg140
  z46 := Tryd.sizeOf140
  v46 := Tryd.zeroValue140
  t51 := Tryd.underlying144
  a51 := Tryd.isAgg144
  z51 := Tryd.sizeOf144
  v51 := Tryd.zeroValue144
  t53 := Tryd.underlying147
  a53 := Tryd.isAgg147
  z53 := Tryd.sizeOf147
  v53 := Tryd.zeroValue147
  t146 := Tryd.underlying145
  a146 := Tryd.isAgg145
  z146 := Tryd.sizeOf145
  v146 := Tryd.zeroValue145
  t148 := Tryd.underlying148
  a148 := Tryd.isAgg148
  z148 := Tryd.sizeOf148
  v148 := Tryd.zeroValue148 }
open Go.RowKit Go.Lib in
theorem Tryd.bits_Mul (x y : Nat) (hx : x < 18446744073709551616) (hy : y < 18446744073709551616) (w : World) :
    Calls Tryd.prog 80 #[.int .u64 x, .int .u64 y] w fun e w' => e = .returned (.tuple #[.int .u64 ((x * y / 18446744073709551616 : Nat) : Int), .int .u64 ((x * y % 18446744073709551616 : Nat) : Int)]) ∧ w' = w := Any.bits_Mul Tryd.lays212 x y hx hy w
def Tryd.laysNm215_ren : Go.Shelf.Ren := ⟨fun | 15 => 73 | n => n, fun | 22 => 22 | 3 => 3 | 4 => 4 | n => n, fun | n => n⟩
theorem Tryd.laysNm215 : Go.Proofs.Lays2.n15 Tryd.prog Tryd.laysNm215_ren := {
  mixed := by kernel_rfl
  f15 := Tryd.func73.trans (congrArg some (by kernel_rfl))
  t3 := Tryd.underlying3
  a3 := Tryd.isAgg3
  z3 := Tryd.sizeOf3
  v3 := Tryd.zeroValue3
  t4 := Tryd.underlying4
  a4 := Tryd.isAgg4
  z4 := Tryd.sizeOf4
  v4 := Tryd.zeroValue4
  t22 := Tryd.underlying22
  a22 := Tryd.isAgg22
  z22 := Tryd.sizeOf22
  v22 := Tryd.zeroValue22
  i3 := by kernel_rfl }
open Go.RowKit Go.Lib in
theorem Tryd.slices_Clone_int (b off n c : Nat) (zs : List Int) (w : World) (hz : n ≤ zs.length) (hbig : n * 8 ≤ 140737488355328) (hc : ∀ j, j < zs.length → w.cell? ⟨b, off + j, none⟩ = some (.int .i64 (zs.getD j 0))) :
    Calls Tryd.prog 73 #[.slice (some ⟨b, off, none⟩) n c] w fun e w' => ∃ v', e = .returned v' ∧ w'.ownsRow w.heap.size 3 1 v' n ((zs.take n).map (Value.int .i64)) ∧ v' ≠ .slice none 0 0 ∧ Below w.heap.size w w' := Any.slices_Clone_int Tryd.laysNm215 b off n c zs w hz hbig hc
open Go.RowKit Go.Lib in
theorem Tryd.slices_Clone_int_nil (n c : Nat) (w : World) :
    Calls Tryd.prog 73 #[.slice none n c] w fun e w' => e = .returned (.slice none 0 0) ∧ w' = w := Any.slices_Clone_int_nil Tryd.laysNm215 n c w
open Go.RowKit Go.Lib in
theorem Tryd.slices_Clone_int_zero (a : Addr) (c : Nat) (w : World) :
    Calls Tryd.prog 73 #[.slice (some a) 0 c] w fun e w' => ∃ v', e = .returned v' ∧ w'.ownsRow w.heap.size 3 1 v' 0 [] ∧ v' ≠ .slice none 0 0 ∧ Below w.heap.size w w' := Any.slices_Clone_int_zero Tryd.laysNm215 a c w
end Go.Proofs
end
section
namespace Go.Proofs.YtmienemnjikgdaaDoor
open Go.RowKit WordM

theorem sizeI : (Tryd.prog.info? 3).map (·.size) = some 1 := by kernel_rfl
theorem mulU (L m T : Nat) (hT : L * m = T) (hT2 : T ≤ 4611686018427387904) (hL : L < 18446744073709551616) (hm : m < 18446744073709551616) (w : World) :
    Calls Tryd.prog 80 #[.int .u64 (L : Int), .int .u64 (m : Int)] w fun e w' => e = .returned (.tuple #[.int .u64 0, .int .u64 (T : Int)]) ∧ w = w' := by
  refine (Tryd.bits_Mul L m hL hm w).mono fun e w' ⟨h1, h2⟩ => ⟨?_, h2.symm⟩
  rw [h1, hT, Nat.div_eq_of_lt (by omega), Nat.mod_eq_of_lt (by omega)]
  rfl
theorem cI_one {l : List Int} {v : Value} (h : v ∈ cI l) : v.oneCell' = true := by
  unfold cI at h
  obtain ⟨x, _, rfl⟩ := List.mem_map.1 h
  rfl
/-- the first k of them, the rest 0 -/
def fillW (X : List Int) (k : Nat) : List Int := X.take k ++ List.replicate (X.length - k) 0
theorem fillW_length {X : List Int} {k : Nat} (hk : k ≤ X.length) : (fillW X k).length = X.length := by simp [fillW]; omega
theorem fillW_zero (X : List Int) : fillW X 0 = List.replicate X.length 0 := by simp [fillW]
theorem fillW_all (X : List Int) : fillW X X.length = X := by simp [fillW]
theorem splice_fill {X cs : List Int} {k : Nat} (hk : k + cs.length ≤ X.length) (hcs : ∀ j, j < cs.length → cs[j]? = X[k + j]?) : splice (cI (fillW X k)) k (cI cs) = cI (fillW X (k + cs.length)) := by
  have e : cs = (X.drop k).take cs.length := by
    apply List.ext_getElem?
    intro j
    rw [List.getElem?_take, List.getElem?_drop]
    by_cases hj : j < cs.length
    · rw [if_pos hj, hcs j hj]
    · rw [if_neg hj, List.getElem?_eq_none (by omega)]
  have e2 : X.take (k + cs.length) = X.take k ++ cs := by
    rw [List.take_add]
    congr 1
    exact e.symm
  unfold splice fillW
  rw [e2]
  simp only [cI_app]
  have hl : (cI (X.take k)).length = k := by rw [cI_length, List.length_take]; omega
  rw [List.take_append_of_le_length (by rw [hl]; exact Nat.le_refl _), List.take_of_length_le (by rw [hl]; exact Nat.le_refl _), cI_length, List.drop_append, hl]
  have h0 : (cI (X.take k)).drop (k + cs.length) = [] := List.drop_eq_nil_of_le (by omega)
  rw [h0, List.nil_append, List.append_assoc]
  congr 2
  unfold cI
  rw [← List.map_drop, List.drop_replicate]
  congr 2
  omega
theorem times_shift {l : List Int} {m k j : Nat} (hd : l.length ∣ k) (hj : k + j < m * l.length) : (timesW l m)[j]? = (timesW l m)[k + j]? := by
  rw [timesW_get l m _ hj, timesW_get l m _ (by omega)]
  congr 1
  obtain ⟨q, rfl⟩ := hd
  unfold F
  rw [Nat.mul_add_mod]
theorem times_front {l : List Int} {m j : Nat} (hj : j < l.length) (hm : 1 ≤ m) : l[j]? = (timesW l m)[0 + j]? := by
  rw [Nat.zero_add, timesW_get l m _ (by have := Nat.mul_le_mul_right l.length hm; omega), F_get hj]
/-- block g is a whole list of ints -/
def BlockI (w : World) (g : Nat) (l : List Int) : Prop := w.heap[g]? = some (.cells (cI l).toArray 3 (0, 0))
theorem BlockI.eq {w : World} {g : Nat} {l : List Int} (h : BlockI w g l) : w.heap[g]? = some (.cells (cI l).toArray 3 (0, 0)) := h
theorem BlockI.cell {w : World} {g : Nat} {l : List Int} (h : BlockI w g l) {j : Nat} {x : Int} (hx : l[j]? = some x) : w.cell? ⟨g, j, none⟩ = some (.int .i64 x) := by
  rw [cell_of_row w g j _ _ _ h, List.getElem?_toArray]
  exact cI_get hx
def RepRel (w : World) (l X : List Int) (g : Nat) (v : Value) (wr : World) : Prop :=
  ∃ k : Nat, k ≤ X.length ∧ (0 < X.length → 0 < k) ∧ l.length ∣ k ∧ v = .int .i64 (k : Int) ∧ BlockI wr g (fillW X k) ∧ Below w.heap.size w wr

end Go.Proofs.YtmienemnjikgdaaDoor
end
section
namespace Go.Proofs.YtmienemnjikgdaaDoor
open Go.RowKit WordM

def cB (l : List Bool) : List Value := l.map fun x => Value.bool x
theorem cB_length (l : List Bool) : (cB l).length = l.length := by simp [cB]
theorem cB_get {l : List Bool} {j : Nat} {x : Bool} (h : l[j]? = some x) : (cB l)[j]? = some (.bool x) := by simp [cB, h]
theorem cB_app (a b : List Bool) : cB (a ++ b) = cB a ++ cB b := by simp [cB]
theorem cB_one {l : List Bool} {v : Value} (h : v ∈ cB l) : v.oneCell' = true := by
  unfold cB at h
  obtain ⟨x, _, rfl⟩ := List.mem_map.1 h
  rfl
theorem infoB : (Tryd.prog.info? 4).map (fun i => (i.zero, i.size, i.bytes)) = some (some (.bool false), 1, 1) := by kernel_rfl
theorem sizeB : (Tryd.prog.info? 4).map (·.size) = some 1 := by kernel_rfl
theorem makeB (n : Nat) (hn : n ≤ 17592186044000) (w : World) :
    (Instr.makeSlice 87 (.int .i64 (n : Int)) (.int .i64 (n : Int))).run Tryd.prog w = .ok (.slice (some ⟨w.heap.size, 0, none⟩) n n) (w.alloc (.cells (madeCells #[.bool false] n) 4)) := by
  obtain ⟨i0, hi, hz0, hz1, hz2⟩ := info_parts infoB
  have h := run_make (P := Tryd.prog) w 87 4 i0 (.bool false) Tryd.underlying87 hi hz0 .i64 .i64 n n (by omega) (by omega) (by rw [hz2]; omega) (by omega)
  rw [hz1] at h
  simpa [Value.cells] using h
theorem madeB_list (n : Nat) : (madeCells #[.bool false] n).toList = cB (List.replicate n false) := by
  rw [madeI_list]
  unfold cB
  rw [List.map_replicate]
/-- m times true -/
def repB (m : Nat) : List Bool := List.replicate m true
theorem repB_length (m : Nat) : (repB m).length = m := by simp [repB]
/-- the first k of them, the rest false -/
def fillB (X : List Bool) (k : Nat) : List Bool := X.take k ++ List.replicate (X.length - k) false
theorem fillB_length {X : List Bool} {k : Nat} (hk : k ≤ X.length) : (fillB X k).length = X.length := by simp [fillB]; omega
theorem fillB_zero (X : List Bool) : fillB X 0 = List.replicate X.length false := by simp [fillB]
theorem fillB_all (X : List Bool) : fillB X X.length = X := by simp [fillB]
theorem splice_fillB {X cs : List Bool} {k : Nat} (hk : k + cs.length ≤ X.length) (hcs : ∀ j, j < cs.length → cs[j]? = X[k + j]?) : splice (cB (fillB X k)) k (cB cs) = cB (fillB X (k + cs.length)) := by
  have e : cs = (X.drop k).take cs.length := by
    apply List.ext_getElem?
    intro j
    rw [List.getElem?_take, List.getElem?_drop]
    by_cases hj : j < cs.length
    · rw [if_pos hj, hcs j hj]
    · rw [if_neg hj, List.getElem?_eq_none (by omega)]
  have e2 : X.take (k + cs.length) = X.take k ++ cs := by
    rw [List.take_add]
    congr 1
    exact e.symm
  unfold splice fillB
  rw [e2]
  simp only [cB_app]
  have hl : (cB (X.take k)).length = k := by rw [cB_length, List.length_take]; omega
  rw [List.take_append_of_le_length (by rw [hl]; exact Nat.le_refl _), List.take_of_length_le (by rw [hl]; exact Nat.le_refl _), cB_length, List.drop_append, hl]
  have h0 : (cB (X.take k)).drop (k + cs.length) = [] := List.drop_eq_nil_of_le (by omega)
  rw [h0, List.nil_append, List.append_assoc]
  congr 2
  unfold cB
  rw [← List.map_drop, List.drop_replicate]
  congr 2
  omega
theorem repB_get {m j : Nat} (h : j < m) : (repB m)[j]? = some true := by
  unfold repB
  rw [List.getElem?_replicate, if_pos h]
/-- block g is a whole list of bools -/
def BlockB (w : World) (g : Nat) (l : List Bool) : Prop := w.heap[g]? = some (.cells (cB l).toArray 4 (0, 0))
theorem BlockB.eq {w : World} {g : Nat} {l : List Bool} (h : BlockB w g l) : w.heap[g]? = some (.cells (cB l).toArray 4 (0, 0)) := h
theorem BlockB.cell {w : World} {g : Nat} {l : List Bool} (h : BlockB w g l) {j : Nat} {x : Bool} (hx : l[j]? = some x) : w.cell? ⟨g, j, none⟩ = some (.bool x) := by
  rw [cell_of_row w g j _ _ _ h, List.getElem?_toArray]
  exact cB_get hx
def RepRelB (w : World) (m : Nat) (g : Nat) (v : Value) (wr : World) : Prop :=
  ∃ k : Nat, k ≤ m ∧ 0 < k ∧ v = .int .i64 (k : Int) ∧ BlockB wr g (fillB (repB m) k) ∧ Below w.heap.size w wr
/-- a new list of m times true -/
def BoolPost (w : World) (m : Nat) (e : Ending) (w' : World) : Prop :=
  e = .returned (.slice (some ⟨w.heap.size, 0, none⟩) m m) ∧ BlockB w' w.heap.size (repB m) ∧ Below w.heap.size w w'

set_option maxRecDepth 100000 in
set_option maxHeartbeats 4000000 in
theorem repeatB (b0 m : Nat) (w : World) (hb0 : b0 < w.heap.size) (h : w.cell? ⟨b0, 0, none⟩ = some (.bool true)) (hm1 : 1 ≤ m) (hm : m ≤ 1000000) :
    Calls Tryd.prog 70 #[.slice (some ⟨b0, 0, none⟩) 1 1, .int .i64 (m : Int)] w (BoolPost w m) := by
  have hX : (repB m).length = m := repB_length m
  have hmul := mulU 1 m m (by omega) (by omega) (by omega) (by omega) w
  have H := Lib.hid (And.intro h (And.intro hb0 hX))
  have hmk := makeB m (by omega) w
  have HM := Lib.hid hmul
  have hd1 : decide ((m : Int) < 0) = false := by rw [decide_eq_false_iff_not]; omega
  have hd2 : decide ((9223372036854775807 : Int) < (m : Int)) = false := by rw [decide_eq_false_iff_not]; omega
  clear h hb0 hX hmul
  go_enter Tryd.func70, Tryd.ntmps70
  go_wp2_with fail
  refine HM.out.mono ?_
  rintro e w' ⟨rfl, rfl⟩
  have hB1 : Below w.heap.size w (w.alloc (.cells (madeCells #[.bool false] m) 4)) := (Below.refl _ _).alloc (Nat.le_refl _) _
  have HB1 := Lib.hid hB1
  have hh : BlockB (w.alloc (.cells (madeCells #[.bool false] m) 4)) w.heap.size (fillB (repB m) 0) := by
    unfold BlockB
    rw [heap_newN, fillB_zero, H.out.2.2]
    congr 2
    rw [← Array.toList_inj, madeB_list, List.toList_toArray]
  have HHH := Lib.hid hh
  have hk1 : 1 = Nat.min 1 m := (Nat.min_eq_left hm1).symm
  have HK := Lib.hid hk1
  clear hB1 hh hk1
  have hh1 : ¬ ((0 : Int) < 0) := by omega
  go_wp2_with (with_reducible refine wpList_copy_splice rfl (.tmp 31) (.tmp 32) 87 87 rfl 4 Tryd.underlying87 sizeB (some ⟨w.heap.size, 0, none⟩) (some ⟨b0, 0, none⟩) m m 1 1 rfl rfl w.heap.size 0 (cB (fillB (repB m) 0)) 4 (BlockB.eq HHH.out) (cB [true]) ?k1 ?k2 ?k3 ?k4 w.heap.size w HB1.out (Nat.le_refl _) ?_)
  case k1 => rw [cB_length]; exact HK.out
  case k2 =>
    intro hpos
    refine fun j v hv => ?_
    rcases j with _ | j
    · obtain rfl : Value.bool true = v := by simpa [cB] using hv
      exact (HB1.out.cell (p := ⟨b0, 0, none⟩) H.out.2.1).trans H.out.1
    · simp [cB] at hv
  case k3 => rw [cB_length, cB_length, fillB_length (Nat.zero_le _), H.out.2.2]; simpa using hm1
  case k4 =>
    intro v hv
    exact cB_one hv
  intro w1 hw1 hb1
  have hlk2 : (cB [true]).length = 1 := rfl
  have hw2 : BlockB w1 w.heap.size (fillB (repB m) 1) := by
    have h := hw1.out
    rw [splice_fillB (X := repB m) (k := 0) (cs := [true]) (by rw [H.out.2.2]; simpa using hm1) (fun j hj => ?_)] at h
    · exact h
    · obtain rfl : j = 0 := by simpa using hj
      rw [Nat.zero_add, repB_get hm1]; rfl
  have HW := Lib.hid (And.intro hw2 hb1)
  clear hw1 hb1 hw2 hmk HB1 HHH
  rw [hlk2]
  clear hlk2
  rw [show (((1 : Nat) : Int)) = 1 from rfl]
  go_wp2_with fail
  go_loopw [8] (fun v wr => RepRelB w m w.heap.size v wr) (fun v _ => m - (intOf v).toNat)
  case atStart => exact ⟨1, hm1, Nat.one_pos, rfl, HW.out.1, HW.out.2⟩
  case round =>
    obtain ⟨k, hkT, hkp, rfl, hbl, hb⟩ := hrel
    by_cases hlt : k < m
    · have HR := Lib.hid (And.intro True.intro (And.intro hbl hb))
      have hkX : ∃ kk, kk = Nat.min k (m - k) := ⟨_, rfl⟩
      obtain ⟨kk, hkk⟩ := hkX
      have hkk1 : kk ≤ k := by rw [hkk]; exact Nat.min_le_left _ _
      have hkk2 : k + kk ≤ m := by have : kk ≤ m - k := by rw [hkk]; exact Nat.min_le_right _ _
                                   omega
      have hkk3 : 0 < kk := by rw [hkk]; exact Nat.lt_min.2 ⟨hkp, by omega⟩
      have hkk4 : k + kk = m ∨ kk = k := by
        rcases Nat.le_total k (m - k) with h1 | h1
        · right; rw [hkk]; exact Nat.min_eq_left h1
        · left; have : kk = m - k := by rw [hkk]; exact Nat.min_eq_right h1
          omega
      have hcl : (cB ((repB m).take kk)).length = kk := by rw [cB_length, List.length_take, H.out.2.2]; omega
      have hcl2 : ((repB m).take kk).length = kk := by rw [← cB_length, hcl]
      have hspl : splice (cB (fillB (repB m) k)) k (cB ((repB m).take kk)) = cB (fillB (repB m) (k + kk)) := by
        have := splice_fillB (X := repB m) (k := k) (cs := (repB m).take kk) (by rw [hcl2, H.out.2.2]; exact hkk2) (fun j hj => by
          rw [hcl2] at hj
          rw [List.getElem?_take, if_pos hj]
          rw [repB_get (by omega), repB_get (by omega)])
        rwa [hcl2] at this
      have hsrc : ∀ j v, (cB ((repB m).take kk))[j]? = some v → wr.cell? ⟨w.heap.size, j, none⟩ = some v := fun j v hv => by
        unfold cB at hv
        rw [List.getElem?_map] at hv
        obtain ⟨x, hx, rfl⟩ := Option.map_eq_some_iff.1 hv
        rw [List.getElem?_take] at hx
        split at hx
        · rename_i hj
          refine HR.out.2.1.cell ?_
          unfold fillB
          rw [List.getElem?_append_left (by rw [List.length_take, H.out.2.2]; omega), List.getElem?_take, if_pos (by omega)]
          exact hx
        · cases hx
      have hlenf : (cB (fillB (repB m) k)).length = m := by rw [cB_length, fillB_length (by rw [H.out.2.2]; exact hkT), H.out.2.2]
      have HZ := Lib.hid (And.intro hcl (And.intro hspl (And.intro hsrc (And.intro hlenf hkk))))
      have hi0 : (0 : Int) ≤ (k : Int) := by omega
      have hi1 : (k : Int) ≤ (m : Int) := by omega
      have hkT2 : ¬ m = k := by omega
      have hwk : IntKind.i64.wrap ((k : Int) + (kk : Int)) = (k : Int) + (kk : Int) := by rw [IntWalk.i64_in _ (by omega)]
      clear hbl hb hcl hcl2 hspl hsrc hlenf hkk
      go_wp2_with fail
      go_region_law ((refine step_copy_splice rfl (.tmp 41) (.tmp 44) 87 87 rfl 4 Tryd.underlying87 sizeB (some ⟨w.heap.size, k, none⟩) (some ⟨w.heap.size, 0, none⟩) (m - k) (m - k) k m (by simp [Act.eval, Act.put]) (by simp [Act.eval, Act.put]) w.heap.size k (cB (fillB (repB m) k)) 4 (BlockB.eq HR.out.2.1) (cB ((repB m).take kk)) (by rw [HZ.out.1]; exact HZ.out.2.2.2.2) (fun _ => ⟨rfl, _, rfl, fun j v hv => by rw [add_off, Nat.zero_add]; exact HZ.out.2.2.1 j v hv⟩) (by rw [HZ.out.1, HZ.out.2.2.2.1]; exact hkk2) (fun v hv => cB_one hv) w.heap.size w (by repeat' (first | exact HR.out.2.2 | refine Below.drew ?_ | refine below_drewN ?_ _)) (Nat.le_refl _) ?_; intro w2 hw2 hb2))
      all_goals
        have hbk : BlockB w2 w.heap.size (fillB (repB m) (k + kk)) := by
          have h := hw2.out
          rw [HZ.out.2.1] at h
          exact h
        have HF := Lib.hid (And.intro hbk hb2)
        clear hw2 hb2 hbk
        rw [HZ.out.1]
        simp only [List.getElem_toArray, List.getElem_cons_succ, List.getElem_cons_zero, hwk]
        go_frame
        go_wp2_with fail
        go_roundw
        case rel =>
          exact ⟨k + kk, hkk2, by omega, by go_num, HF.out.1, HF.out.2⟩
        case measure => simp [intOf]; omega
    · obtain rfl : k = m := by omega
      have he : fillB (repB k) k = repB k := by
        have := fillB_all (repB k)
        rwa [H.out.2.2] at this
      rw [he] at hbl
      have HF := Lib.hid (And.intro hbl hb)
      clear hbl hb he
      go_wp2_with fail
      go_ret
      exact ⟨rfl, HF.out.1, HF.out.2⟩
end Go.Proofs.YtmienemnjikgdaaDoor
end
section
namespace Go.Proofs.YtmienemnjikgdaaDoor
open Go.RowKit Go.Shelf Go.Extern.Stop Go.Stop Go.Extern WordM RuleM

theorem frozen_block {V : World} {b j : Nat} {cs : Array Value} {t : TypeId} (h : V.heap[b]? = some (.cells cs t (0, 0))) : V.frozen? ⟨b, j, none⟩ = false := by simp [World.frozen?, h]
theorem keeps_below {W W' : World} (h : Below W.heap.size W W') : KeepsOthers W W' := ⟨h.size, fun k _ hk _ => (h.block k (Array.getElem?_eq_some_iff.1 hk).1).trans hk⟩
/-- The table of an open word: block g holds m + 1 rows, from i on each in a block of its own, with n bools; the rows are told by gs, their bools by f; none lies in block B, none up to A. -/
structure OpenC (A B : Nat) (W : World) (g m n : Nat) (gs : Nat → Nat) (f : Nat → Nat → Bool) (i : Nat) : Prop where
  nils : ∀ j, j < i → j ≤ m → W.cell? ⟨g, j, none⟩ = some (.slice none 0 0)
  head : ∀ j, i ≤ j → j ≤ m → W.cell? ⟨g, j, none⟩ = some (.slice (some ⟨gs j, 0, none⟩) n n)
  row : ∀ j, i ≤ j → j ≤ m → ∀ u, u < n → W.cell? ⟨gs j, u, none⟩ = some (.bool (f j u)) ∧ W.frozen? ⟨gs j, u, none⟩ = false
  free : ∀ j, j ≤ m → W.frozen? ⟨g, j, none⟩ = false
  low : ∀ j, i ≤ j → j ≤ m → A < gs j ∧ gs j ≠ B ∧ gs j ≠ g ∧ gs j < W.heap.size
  ne : ∀ j j', i ≤ j → j < j' → j' ≤ m → gs j ≠ gs j'
theorem OpenC.next {A B : Nat} {W W' : World} {g m n : Nat} {gs : Nat → Nat} {f : Nat → Nat → Bool} {i : Nat} (h : OpenC A B W g m n gs f i) (hg : g < W.heap.size) (hb : Below W.heap.size W W') : OpenC A B W' g m n gs f i :=
  ⟨fun j h1 h2 => (hb.cell (p := ⟨g, j, Option.none⟩) hg).trans (h.nils j h1 h2), fun j h1 h2 => (hb.cell (p := ⟨g, j, Option.none⟩) hg).trans (h.head j h1 h2),
   fun j h1 h2 u hu => ⟨(hb.cell (p := ⟨gs j, u, Option.none⟩) (h.low j h1 h2).2.2.2).trans (h.row j h1 h2 u hu).1, (hb.frozen (p := ⟨gs j, u, Option.none⟩) (h.low j h1 h2).2.2.2).trans (h.row j h1 h2 u hu).2⟩,
   fun j h1 => (hb.frozen (p := ⟨g, j, Option.none⟩) hg).trans (h.free j h1), fun j h1 h2 => ⟨(h.low j h1 h2).1, (h.low j h1 h2).2.1, (h.low j h1 h2).2.2.1, Nat.lt_of_lt_of_le (h.low j h1 h2).2.2.2 hb.size⟩, h.ne⟩
theorem OpenC.turned {A B : Nat} {W W' : World} {row : Option Nat} {g m n : Nat} {gs : Nat → Nat} {f : Nat → Nat → Bool} {i : Nat} (h : OpenC A B W g m n gs f i) (hg : W.grownBy W' row) (hr : ∀ r, row = some r → ∃ o : Obj, W.heap[r]? = some o ∧ o.isCells = false) : OpenC A B W' g m n gs f i :=
  ⟨fun j h1 h2 => cell_kept (h.nils j h1 h2) hg hr, fun j h1 h2 => cell_kept (h.head j h1 h2) hg hr,
   fun j h1 h2 u hu => ⟨cell_kept (h.row j h1 h2 u hu).1 hg hr, (frozen_kept (h.row j h1 h2 u hu).1 hg hr).trans (h.row j h1 h2 u hu).2⟩,
   fun j h1 => by
    rcases Nat.lt_or_ge j i with h2 | h2
    · exact (frozen_kept (h.nils j h2 h1) hg hr).trans (h.free j h1)
    · exact (frozen_kept (h.head j h2 h1) hg hr).trans (h.free j h1),
   fun j h1 h2 => ⟨(h.low j h1 h2).1, (h.low j h1 h2).2.1, (h.low j h1 h2).2.2.1, Nat.lt_of_lt_of_le (h.low j h1 h2).2.2.2 hg.size⟩, h.ne⟩
theorem OpenC.congr {A B : Nat} {W : World} {g m n : Nat} {gs : Nat → Nat} {f f' : Nat → Nat → Bool} {i : Nat} (h : OpenC A B W g m n gs f i) (he : ∀ j u, i ≤ j → j ≤ m → u < n → f j u = f' j u) : OpenC A B W g m n gs f' i :=
  ⟨h.nils, h.head, fun j h1 h2 u hu => ⟨by rw [← he j u h1 h2 hu]; exact (h.row j h1 h2 u hu).1, (h.row j h1 h2 u hu).2⟩, h.free, h.low, h.ne⟩
/-- true is written into the row i -/
theorem OpenC.store {A B : Nat} {W : World} {g m n : Nat} {gs : Nat → Nat} {f : Nat → Nat → Bool} {i : Nat} (h : OpenC A B W g m n gs f i) (hi : i ≤ m) (u : Nat) (hu : u < n) :
    OpenC A B (W.setCell ⟨gs i, u, Option.none⟩ (.bool true)) g m n gs (fun j v => if j = i ∧ v = u then true else f j v) i := by
  have hs : (W.setCell ⟨gs i, u, Option.none⟩ (.bool true)).heap.size = W.heap.size := by simp [World.setCell]
  have hlo := h.low i (Nat.le_refl _) hi
  have far : ∀ (a : Addr), a ≠ ⟨gs i, u, Option.none⟩ → (W.setCell ⟨gs i, u, Option.none⟩ (.bool true)).cell? a = W.cell? a := fun a ha => World.cell?_setCell_other (h := fun e => ha e.symm) ..
  refine ⟨fun j h1 h2 => (far _ (fun e => hlo.2.2.1 (by injection e with e1; exact e1.symm))).trans (h.nils j h1 h2), fun j h1 h2 => (far _ (fun e => hlo.2.2.1 (by injection e with e1; exact e1.symm))).trans (h.head j h1 h2), fun j h1 h2 v hv => ?_, fun j h1 => by rw [World.frozen?_setCell]; exact h.free j h1, fun j h1 h2 => by rw [hs]; exact h.low j h1 h2, h.ne⟩
  refine ⟨?_, by rw [World.frozen?_setCell]; exact (h.row j h1 h2 v hv).2⟩
  by_cases he : j = i ∧ v = u
  · obtain ⟨rfl, rfl⟩ := he
    rw [if_pos ⟨rfl, rfl⟩]
    exact World.cell?_setCell_same' _ _ _ (by rw [(h.row j h1 h2 v hv).1]; rfl)
  · rw [if_neg he]
    refine (far _ fun e => he ?_).trans (h.row j h1 h2 v hv).1
    injection e with e1 e2
    refine ⟨?_, e2⟩
    rcases Nat.lt_trichotomy j i with h3 | h3 | h3
    · omega
    · exact h3
    · exact absurd e1.symm (h.ne i j (Nat.le_refl _) h3 h2)
/-- a new row, all false, is put before the others -/
theorem OpenC.fresh {A B : Nat} {W : World} {g m n : Nat} {gs : Nat → Nat} {f : Nat → Nat → Bool} {i : Nat} (h : OpenC A B W g m n gs f (i + 1)) (hi : i + 1 ≤ m + 1) (hg : g < W.heap.size) (hA : A < W.heap.size) (hB : B < W.heap.size) :
    OpenC A B ((W.alloc (.cells (madeCells #[.bool false] n) 4)).setCell ⟨g, i, Option.none⟩ (.slice (some ⟨W.heap.size, 0, Option.none⟩) n n)) g m n (fun j => if j = i then W.heap.size else gs j) (fun j v => if j = i then false else f j v) i := by
  obtain ⟨W1, hW1⟩ : ∃ x, x = W.alloc (.cells (madeCells #[.bool false] n) 4) := ⟨_, rfl⟩
  have hb1 : Below W.heap.size W W1 := by rw [hW1]; exact (Below.refl _ _).alloc (Nat.le_refl _) _
  have hs1 : W1.heap.size = W.heap.size + 1 := by rw [hW1]; simp
  have hnew : W1.heap[W.heap.size]? = some (.cells (madeCells #[.bool false] n) 4 (0, 0)) := by rw [hW1]; exact heap_newN W _
  have k := h.next hg hb1
  rw [← hW1]
  have hs : (W1.setCell ⟨g, i, Option.none⟩ (.slice (some ⟨W.heap.size, 0, Option.none⟩) n n)).heap.size = W1.heap.size := by simp [World.setCell]
  have far : ∀ (a : Addr), a ≠ ⟨g, i, Option.none⟩ → (W1.setCell ⟨g, i, Option.none⟩ (.slice (some ⟨W.heap.size, 0, Option.none⟩) n n)).cell? a = W1.cell? a := fun a ha => World.cell?_setCell_other (h := fun e => ha e.symm) ..
  have hcell : ∀ v, v < n → W1.cell? ⟨W.heap.size, v, Option.none⟩ = some (.bool false) := fun v hv => by
    rw [cell_of_row W1 _ v _ _ _ hnew, ← Array.getElem?_toList, madeB_list]
    exact cB_get (by rw [List.getElem?_replicate, if_pos hv])
  have hfro : ∀ v, W1.frozen? ⟨W.heap.size, v, Option.none⟩ = false := fun v => by simp [World.frozen?, hnew]
  refine ⟨fun j h1 h2 => (far _ (fun e => by injection e with _ e2; omega)).trans (k.nils j (by omega) h2), fun j h1 h2 => ?_, fun j h1 h2 v hv => ?_, fun j h1 => by rw [World.frozen?_setCell]; exact k.free j h1, fun j h1 h2 => ?_, fun j j' h1 h2 h3 => ?_⟩
  · by_cases he : j = i
    · subst he
      rw [if_pos rfl]
      exact World.cell?_setCell_same' _ _ _ (by rw [k.nils j (Nat.lt_succ_self _) h2]; rfl)
    · rw [if_neg he]
      exact (far _ (fun e => he (by injection e with _ e2))).trans (k.head j (by omega) h2)
  · rw [World.frozen?_setCell]
    by_cases he : j = i
    · subst he
      simp only [if_true]
      exact ⟨(far _ (fun e => by injection e with e1; omega)).trans (hcell v hv), hfro v⟩
    · simp only [if_neg he]
      have hr := k.row j (by omega) h2 v hv
      exact ⟨(far _ (fun e => (k.low j (by omega) h2).2.2.1 (by injection e with e1))).trans hr.1, hr.2⟩
  · rw [hs, hs1]
    by_cases he : j = i
    · rw [if_pos he]; exact ⟨hA, by omega, by omega, by omega⟩
    · rw [if_neg he]
      have := h.low j (by omega) h2
      exact ⟨this.1, this.2.1, this.2.2.1, by omega⟩
  · rw [if_neg (show ¬ j' = i by omega)]
    by_cases he : j = i
    · rw [if_pos he]
      have := (h.low j' (by omega) h3).2.2.2
      omega
    · rw [if_neg he]
      exact h.ne j j' (by omega) h2 h3
/-- a row that was made elsewhere is put before the others -/
theorem OpenC.put {A B : Nat} {W : World} {g m n : Nat} {gs : Nat → Nat} {f : Nat → Nat → Bool} {i : Nat} (h : OpenC A B W g m n gs f (i + 1)) (hi : i ≤ m) (b : Nat) (ρ : Nat → Bool) (hb : A < b ∧ b ≠ B ∧ b ≠ g ∧ b < W.heap.size) (hne : ∀ j, i < j → j ≤ m → gs j ≠ b)
    (hrow : ∀ u, u < n → W.cell? ⟨b, u, Option.none⟩ = some (.bool (ρ u)) ∧ W.frozen? ⟨b, u, Option.none⟩ = false) :
    OpenC A B (W.setCell ⟨g, i, Option.none⟩ (.slice (some ⟨b, 0, Option.none⟩) n n)) g m n (fun j => if j = i then b else gs j) (fun j v => if j = i then ρ v else f j v) i := by
  have hs : (W.setCell ⟨g, i, Option.none⟩ (.slice (some ⟨b, 0, Option.none⟩) n n)).heap.size = W.heap.size := by simp [World.setCell]
  have far : ∀ (a : Addr), a ≠ ⟨g, i, Option.none⟩ → (W.setCell ⟨g, i, Option.none⟩ (.slice (some ⟨b, 0, Option.none⟩) n n)).cell? a = W.cell? a := fun a ha => World.cell?_setCell_other (h := fun e => ha e.symm) ..
  refine ⟨fun j h1 h2 => (far _ (fun e => by injection e with _ e2; omega)).trans (h.nils j (by omega) h2), fun j h1 h2 => ?_, fun j h1 h2 v hv => ?_, fun j h1 => by rw [World.frozen?_setCell]; exact h.free j h1, fun j h1 h2 => ?_, fun j j' h1 h2 h3 => ?_⟩
  · by_cases he : j = i
    · subst he
      rw [if_pos rfl]
      exact World.cell?_setCell_same' _ _ _ (by rw [h.nils j (Nat.lt_succ_self _) h2]; rfl)
    · rw [if_neg he]
      exact (far _ (fun e => he (by injection e with _ e2))).trans (h.head j (by omega) h2)
  · rw [World.frozen?_setCell]
    by_cases he : j = i
    · subst he
      simp only [if_true]
      exact ⟨(far _ (fun e => hb.2.2.1 (by injection e with e1))).trans (hrow v hv).1, (hrow v hv).2⟩
    · simp only [if_neg he]
      have hr := h.row j (by omega) h2 v hv
      exact ⟨(far _ (fun e => (h.low j (by omega) h2).2.2.1 (by injection e with e1))).trans hr.1, hr.2⟩
  · rw [hs]
    by_cases he : j = i
    · rw [if_pos he]; exact hb
    · rw [if_neg he]; exact h.low j (by omega) h2
  · rw [if_neg (show ¬ j' = i by omega)]
    by_cases he : j = i
    · rw [if_pos he]
      exact fun e => hne j' (by omega) h3 e.symm
    · rw [if_neg he]
      exact h.ne j j' (by omega) h2 h3
theorem OpenC.other {A B B' : Nat} {W : World} {g m n : Nat} {gs : Nat → Nat} {f : Nat → Nat → Bool} {i : Nat} (h : OpenC A B W g m n gs f i) (hB : W.heap.size ≤ B') : OpenC A B' W g m n gs f i :=
  ⟨h.nils, h.head, h.row, h.free, fun j h1 h2 => ⟨(h.low j h1 h2).1, by have := (h.low j h1 h2).2.2.2; omega, (h.low j h1 h2).2.2.1, (h.low j h1 h2).2.2.2⟩, h.ne⟩
theorem infoBB : (Tryd.prog.info? 87).map (fun i => (i.zero, i.size, i.bytes)) = some (some (.slice none 0 0), 1, 24) := by kernel_rfl
theorem makeBB (n : Nat) (hn : n ≤ 100000) (w : World) :
    (Instr.makeSlice 88 (.int .i64 (n : Int)) (.int .i64 (n : Int))).run Tryd.prog w = .ok (.slice (some ⟨w.heap.size, 0, none⟩) n n) (w.alloc (.cells (madeCells #[.slice none 0 0] n) 87)) := by
  obtain ⟨i0, hi, hz0, hz1, hz2⟩ := info_parts infoBB
  have h := run_make (P := Tryd.prog) w 88 87 i0 (.slice none 0 0) Tryd.underlying88 hi hz0 .i64 .i64 n n (by omega) (by omega) (by rw [hz2]; omega) (by omega)
  rw [hz1] at h
  simpa [Value.cells] using h
/-- a table just made: no row is there -/
theorem OpenC.made (A B : Nat) (w : World) (m n : Nat) (f : Nat → Nat → Bool) : OpenC A B (w.alloc (.cells (madeCells #[.slice none 0 0] (m + 1)) 87)) w.heap.size m n (fun _ => 0) f (m + 1) := by
  have hnew : (w.alloc (.cells (madeCells #[.slice none 0 0] (m + 1)) 87)).heap[w.heap.size]? = some (.cells (madeCells #[.slice none 0 0] (m + 1)) 87 (0, 0)) := heap_newN w _
  refine ⟨fun j h1 h2 => ?_, fun j h1 h2 => by omega, fun j h1 h2 => by omega, fun j _ => frozen_block hnew, fun j h1 h2 => by omega, fun j j' h1 h2 h3 => by omega⟩
  rw [cell_of_row _ _ j _ _ _ hnew, ← Array.getElem?_toList, madeI_list, List.getElem?_replicate, if_pos (by omega)]
/-- for reading alone; its blocks lie from base on -/
structure OpenV (base : Nat) (W : World) (g m n : Nat) (f : Nat → Nat → Bool) : Prop where
  at_ : ∀ j, j ≤ m → ∃ b, base ≤ b ∧ b < W.heap.size ∧ W.cell? ⟨g, j, none⟩ = some (.slice (some ⟨b, 0, none⟩) n n) ∧ ∀ u, u < n → W.cell? ⟨b, u, none⟩ = some (.bool (f j u))
  lt : base ≤ g ∧ g < W.heap.size
theorem OpenC.toV {base A B : Nat} {W : World} {g m n : Nat} {gs : Nat → Nat} {f : Nat → Nat → Bool} (h : OpenC A B W g m n gs f 0) (hA : base ≤ A) (hg : base ≤ g ∧ g < W.heap.size) : OpenV base W g m n f :=
  ⟨fun j hj => ⟨gs j, by have := (h.low j (Nat.zero_le _) hj).1; omega, (h.low j (Nat.zero_le _) hj).2.2.2, h.head j (Nat.zero_le _) hj, fun u hu => (h.row j (Nat.zero_le _) hj u hu).1⟩, hg⟩
end Go.Proofs.YtmienemnjikgdaaDoor
end
