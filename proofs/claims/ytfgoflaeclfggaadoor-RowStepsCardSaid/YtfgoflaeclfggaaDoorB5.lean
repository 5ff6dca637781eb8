/- edenraw.Apart: lists that each lie in a block of their own are found apart; nothing below changes.
edenraw.Apart, second part: its walk.
What the statements on new memory share: lists that were lent, lists that were made, one behind the other; edenraw.Apart over them.
What the statements of layer 7 share: awake, lent, kept; a row that comes in.
What the statements of layer 7 know on their way: rows that were made; edenraw.Rows of one row.
Package ring by its contracts, third part: checkSteps, Step.
The document's own package of words by its contracts: Check.
The document's own package of rules by its contracts: errors, Power, Bad, Size, Check.
The document's own package of rules by its contracts: Check.
append(l, y) in a statement that draws its order: whatever the list, the answer is an own list that reads it with y behind.
The document's own package of rules by its contracts: Value, Image. -/
import Derived.Test.YtfgoflaeclfggaaDoorProg
import Derived.WalkKit
import Derived.WalkSmall
import Derived.Deep.LoopGhost
import Derived.Lib.Hide
import Derived.Outline
import Derived.Laws.AppendOwn
import Derived.Laws.MakeOwn
import Derived.Laws.Rows
import Derived.Maps.AppendAt
import Derived.ArgAppend
import Derived.Deep.DeepAppendRoom
import Derived.OwnWalk
import Derived.Test.YtfgoflaeclfggaaDoorB4
import Derived.Test.YtfgoflaeclfggaaDoorB3
import Derived.Test.YtfgoflaeclfggaaDoorB2
import Derived.Test.YtfgoflaeclfggaaDoorB1
import Derived.Deep.AppendLies
section
namespace Go.Proofs.YtfgoflaeclfggaaDoor.apartI
open Go.RowKit

abbrev E : TypeId := 3
theorem infoE : (Tryd.prog.info? 3).map (fun i => (i.zero, i.size, i.bytes)) = some (some (.int .i64 0), 1, 8) := by kernel_rfl
theorem infoS : (Tryd.prog.info? 22).map (fun i => (i.zero, i.size, i.bytes)) = some (some (.slice none 0 0), 1, 24) := by kernel_rfl
/-- the marks -/
def m1 (i : Nat) : Value := .int .i64 (-2 * (i : Int) - 1)
def m2 (i : Nat) : Value := .int .i64 (-2 * (i : Int) - 2)

/-- A list: its address, its capacity, its length. -/
abbrev Rw := Option Addr × Nat × Nat
def Rw.val (x : Rw) : Value := .slice x.1 x.2.2 x.2.1

/-! ### rows -/
theorem shape {w : World} {B : Nat} {e : TypeId} {a : Option Addr} {n c : Nat} {xs : List Value} (h : w.ownsRow B e 1 (.slice a n c) n xs) :
    (a = none ∧ n = 0 ∧ c = 0 ∧ xs = []) ∨ ∃ g, a = some ⟨g, 0, none⟩ ∧ B ≤ g ∧ g < w.heap.size ∧ n ≤ c ∧ c ≤ maxLen ∧ xs.length = n ∧ (∀ j, j < n → w.cell? ⟨g, j, none⟩ = xs[j]?) ∧ ∀ j, w.frozen? ⟨g, j, none⟩ = false := by
  have h0 := h
  obtain ⟨hx, h | ⟨g, cap, cur, hv, hg, hh, hc, hm, r⟩⟩ := h
  · obtain ⟨h1, h2⟩ := h
    simp only [Value.slice.injEq] at h1
    exact Or.inl ⟨h1.1, h2, h1.2.2, List.eq_nil_of_length_eq_zero (by omega)⟩
  · simp only [Value.slice.injEq] at hv
    obtain ⟨rfl, _, rfl⟩ := hv
    have hlt : g < w.heap.size := by
      rcases Nat.lt_or_ge g w.heap.size with k | k
      · exact k
      · simp [Array.getElem?_eq_none k] at hh
    exact Or.inr ⟨g, rfl, hg, hlt, hc, hm, by omega, fun j hj => h0.cellAt j (by omega), fun j => h0.frozenAt j⟩
theorem prefix_own {w : World} {B : Nat} {e : TypeId} {g n c k : Nat} {xs : List Value} (h : w.ownsRow B e 1 (.slice (some ⟨g, 0, none⟩) n c) n xs) (hk : k ≤ n) : w.ownsRow B e 1 (.slice (some ⟨g, 0, none⟩) k c) k (xs.take k) := by
  obtain ⟨hx, h | ⟨g', cap, cur, hv, hg, hh, hc, hm, hs, ht⟩⟩ := h
  · simp at h
  · simp only [Value.slice.injEq, Option.some.injEq, Addr.mk.injEq, and_true, true_and] at hv
    obtain ⟨rfl, rfl⟩ := hv
    refine ⟨by rw [List.length_take]; omega, Or.inr ⟨g, c, cur, rfl, hg, hh, by omega, hm, hs, ?_⟩⟩
    rw [← ht, List.take_take]
    congr 1
    omega
theorem same_cap {w : World} {B B' : Nat} {e e' : TypeId} {g n n' c c' : Nat} {xs xs' : List Value} (h : w.ownsRow B e 1 (.slice (some ⟨g, 0, none⟩) n c) n xs) (h' : w.ownsRow B' e' 1 (.slice (some ⟨g, 0, none⟩) n' c') n' xs') : c = c' := by
  obtain ⟨_, h | ⟨g1, c1, cur, hv, _, hh, _, _, hs, _⟩⟩ := h
  · simp at h
  obtain ⟨_, h' | ⟨g2, c2, cur', hv', _, hh', _, _, hs', _⟩⟩ := h'
  · simp at h'
  simp only [Value.slice.injEq, Option.some.injEq, Addr.mk.injEq, and_true, true_and] at hv hv'
  obtain ⟨rfl, rfl⟩ := hv
  obtain ⟨rfl, rfl⟩ := hv'
  rw [hh] at hh'
  injection hh' with hh'
  injection hh' with hcur
  subst hcur
  omega
theorem other_type {w : World} {b b' : Nat} {e e' : TypeId} {v v' : Value} {n n' : Nat} {xs xs' : List Value} (h : w.ownsRow b e 1 v n xs) (h' : w.ownsRow b' e' 1 v' n' xs') (hne : e ≠ e') : v.ownBlock = none ∨ v.ownBlock ≠ v'.ownBlock := by
  rcases h.2 with ⟨rfl, _⟩ | ⟨g, cap, cur, rfl, _, hh, _⟩
  · exact Or.inl rfl
  · right
    rcases h'.2 with ⟨rfl, _⟩ | ⟨g', cap', cur', rfl, _, hh', _⟩
    · simp [Value.ownBlock]
    · intro hq
      have : g = g' := by simpa [Value.ownBlock] using hq
      subst this
      rw [hh] at hh'
      injection hh' with hh'
      injection hh' with _ ht
      exact hne ht
theorem below_lt {w : World} {B : Nat} {e : TypeId} {v : Value} {n : Nat} {xs : List Value} (h : w.ownsRow B e 1 v n xs) : v.ownBlock = none ∨ ∃ b, v.ownBlock = some b ∧ B ≤ b ∧ b < w.heap.size := by
  cases hv : v.ownBlock with
  | none => exact Or.inl rfl
  | some b => exact Or.inr ⟨b, rfl, h.lt b hv⟩
theorem set_take {l : List Value} {k : Nat} {u : Value} (h : k < l.length) : (l.set k u).take (k + 1) = l.take k ++ [u] := by
  rw [List.take_succ_eq_append_getElem (by simpa using h), List.take_set_of_le (Nat.le_refl _)]
  simp

/-! ### the lists, and where they stand -/
def OwnAll (B : Nat) (w : World) (L : List Rw) (C : Nat → List Value) : Prop := ∀ (k : Nat) (x : Rw), L[k]? = some x → w.ownsRow B E 1 x.val x.2.2 (C k)
structure Sit (w : World) (Q qo : Nat) (L : List Rw) : Prop where
  lt : Q < w.heap.size
  cell : ∀ (j : Nat) (x : Rw), L[j]? = some x → w.cell? ⟨Q, qo + j, none⟩ = some x.val
structure Parts (L : List Rw) (Q : Nat) : Prop where
  two : ∀ (k k' : Nat) (x x' : Rw), L[k]? = some x → L[k']? = some x' → k ≠ k' → x.val.ownBlock = none ∨ x.val.ownBlock ≠ x'.val.ownBlock
  q : ∀ (k : Nat) (x : Rw), L[k]? = some x → x.val.ownBlock ≠ some Q
theorem Sit.kept {w w' : World} {Q qo : Nat} {L : List Rw} (h : Sit w Q qo L) {row : Option Nat} (hg : w.grownBy w' row) (hne : row ≠ some Q) : Sit w' Q qo L :=
  ⟨Nat.lt_of_lt_of_le h.lt hg.size, fun j x hx => (World.cell?_of_block (hg.block Q h.lt (Ne.symm hne))).trans (h.cell j x hx)⟩
theorem OwnAll.kept {B : Nat} {w w' : World} {L : List Rw} {C : Nat → List Value} (h : OwnAll B w L C) {row : Option Nat} (hg : w.grownBy w' row) (hne : ∀ (k : Nat) (x : Rw), L[k]? = some x → x.val.ownBlock = none ∨ x.val.ownBlock ≠ row) : OwnAll B w' L C :=
  fun k x hx => (h k x hx).kept hg (hne k x hx)
theorem val_some {x : Rw} {g : Nat} (h : x.1 = some ⟨g, 0, none⟩) : x.val.ownBlock = some g := by unfold Rw.val; rw [h]; rfl
/-- a mark is laid -/
theorem OwnAll.store {B : Nat} {w : World} {L : List Rw} {C : Nat → List Value} {Q : Nat} (hP : Parts L Q) (h : OwnAll B w L C) {i : Nat} {x : Rw} (hx : L[i]? = some x) {g : Nat} (hg : x.1 = some ⟨g, 0, none⟩) (j : Nat) (u : Value) :
    OwnAll B (w.setCell ⟨g, j, none⟩ u) L (fun k => if k = i then (C i).set j u else C k) ∧ w.grownBy (w.setCell ⟨g, j, none⟩ u) (some g) := by
  have ho := h i x hx
  unfold Rw.val at ho
  rw [hg] at ho
  obtain ⟨s1, s2⟩ := ho.stored j u
  refine ⟨fun k y hy => ?_, s2⟩
  by_cases hk : k = i
  · subst hk
    rw [hx] at hy
    obtain rfl := Option.some.inj hy
    simp only [if_true]
    unfold Rw.val
    rw [hg]
    exact s1
  · simp only [if_neg hk]
    refine (h k y hy).kept s2 ?_
    have := hP.two k i y x hy hx hk
    rwa [val_some hg] at this

theorem other_rows {B : Nat} {w : World} {L : List Rw} {C : Nat → List Value} (h : OwnAll B w L C) {b : Nat} {e : TypeId} {v : Value} {n : Nat} {xs : List Value} (hv : w.ownsRow b e 1 v n xs) (hne : E ≠ e) : ∀ (k : Nat) (x : Rw), L[k]? = some x → x.val.ownBlock = none ∨ x.val.ownBlock ≠ v.ownBlock :=
  fun k x hx => other_type (h k x hx) hv hne

/-- Nothing has changed but what is new, and the lists' own blocks. -/
structure Fr (L : List Rw) (w w' : World) : Prop where
  os : w'.os = w.os
  tape : w'.tape = w.tape
  output : w'.output = w.output
  size : w.heap.size ≤ w'.heap.size
  block : ∀ b, b < w.heap.size → (∀ (k : Nat) (x : Rw), L[k]? = some x → x.val.ownBlock ≠ some b) → w'.heap[b]? = w.heap[b]?
theorem Fr.refl (L : List Rw) (w : World) : Fr L w w := ⟨rfl, rfl, rfl, Nat.le_refl _, fun _ _ _ => rfl⟩
theorem Fr.step {L : List Rw} {w a b : World} (h : Fr L w a) {row : Option Nat} (hg : a.grownBy b row) (hr : ∀ k, row = some k → (∃ (i : Nat) (x : Rw), L[i]? = some x ∧ x.val.ownBlock = some k) ∨ w.heap.size ≤ k) : Fr L w b :=
  ⟨hg.os.trans h.os, hg.tape.trans h.tape, hg.output.trans h.output, Nat.le_trans h.size hg.size, fun k hk hno => (hg.block k (Nat.lt_of_lt_of_le hk h.size) (fun e => by
    rcases hr k e.symm with ⟨i, x, hx, hb⟩ | h1
    · exact hno i x hx hb
    · omega)).trans (h.block k hk hno)⟩
theorem Fr.below {L : List Rw} {w w' : World} (h : Fr L w w') {B : Nat} (hB : B ≤ w.heap.size) (hL : ∀ (k : Nat) (x : Rw), L[k]? = some x → x.val.ownBlock = none ∨ ∃ b, x.val.ownBlock = some b ∧ B ≤ b) : Below B w w' :=
  ⟨h.os, h.tape, h.output, h.size, fun k hk => h.block k (by omega) (fun i x hx e => by
    rcases hL i x hx with h1 | ⟨b, h1, h2⟩
    · rw [h1] at e; cases e
    · rw [h1] at e
      have := Option.some.inj e
      omega)⟩

def Rel1 (B : Nat) (w : World) (L : List Rw) (Q qo : Nat) (v3 : Value) (wr : World) : Prop :=
  ∃ (i : Nat) (C : Nat → List Value), i ≤ L.length ∧ v3 = .int .i64 (i : Int) ∧ OwnAll B wr L C ∧ (∀ (k : Nat) (x : Rw), k < i → L[k]? = some x → C k = List.replicate x.2.2 (m1 k)) ∧ Sit wr Q qo L ∧ Fr L w wr
def Rel2 (B : Nat) (w : World) (L : List Rw) (Q qo i n : Nat) (v4 : Value) (wr : World) : Prop :=
  ∃ (j : Nat) (C : Nat → List Value), j ≤ n ∧ v4 = .int .i64 (j : Int) ∧ OwnAll B wr L C ∧ (∀ (k : Nat) (x : Rw), k < i → L[k]? = some x → C k = List.replicate x.2.2 (m1 k)) ∧ (C i).take j = List.replicate j (m1 i) ∧ Sit wr Q qo L ∧ Fr L w wr
/-- The lists, marked. -/
def Marked (B : Nat) (w : World) (L : List Rw) : Prop := ∀ (k : Nat) (x : Rw), L[k]? = some x → w.ownsRow B E 1 x.val x.2.2 (List.replicate x.2.2 (m1 k))
/-- A list grown by forty. -/
def Full (B : Nat) (w : World) (L : List Rw) (k : Nat) (x : Rw) (v : Value) : Prop :=
  ∃ y c, v = .slice y (x.2.2 + 40) c ∧ w.ownsRow B E 1 (.slice y (x.2.2 + 40) c) (x.2.2 + 40) (List.replicate x.2.2 (m1 k) ++ List.replicate 40 (m2 k)) ∧
    ∀ (k' : Nat) (x' : Rw), k' ≠ k → L[k']? = some x' → (Value.slice y (x.2.2 + 40) c).ownBlock = none ∨ (Value.slice y (x.2.2 + 40) c).ownBlock ≠ x'.val.ownBlock
structure Got (B : Nat) (w wr : World) (L : List Rw) (Q qo G i : Nat) (gv : List Value) : Prop where
  marked : Marked B wr L
  row : wr.ownsRow B 22 1 (.slice (some ⟨G, 0, none⟩) L.length L.length) L.length gv
  full : ∀ (k : Nat) (x : Rw), k < i → L[k]? = some x → ∃ v, gv[k]? = some v ∧ Full B wr L k x v
  sit : Sit wr Q qo L
  below : Fr L w wr
def Rel3 (B : Nat) (w : World) (L : List Rw) (Q qo G : Nat) (v6 : Value) (wr : World) : Prop :=
  ∃ (i : Nat) (gv : List Value), i ≤ L.length ∧ v6 = .int .i64 (i : Int) ∧ Got B w wr L Q qo G i gv
/-- The list that is being grown: in its own old block, or in one made since H. -/
def Rel4 (B : Nat) (w : World) (L : List Rw) (Q qo G i H : Nat) (x : Rw) (gv : List Value) (v7 v8 : Value) (wr : World) : Prop :=
  ∃ (j : Nat) (y : Option Addr) (c : Nat), j ≤ 40 ∧ v8 = .int .i64 (j : Int) ∧ v7 = .slice y (x.2.2 + j) c ∧ wr.ownsRow B E 1 (.slice y (x.2.2 + j) c) (x.2.2 + j) (List.replicate x.2.2 (m1 i) ++ List.replicate j (m2 i)) ∧
    ((Value.slice y (x.2.2 + j) c).ownBlock = x.val.ownBlock ∨ ∃ b, (Value.slice y (x.2.2 + j) c).ownBlock = some b ∧ H ≤ b) ∧ H ≤ wr.heap.size ∧ Got B w wr L Q qo G i gv

/-- What was there before H, and is of no list i, stays. -/
structure Old (L : List Rw) (Q G i H : Nat) (x : Rw) (gv : List Value) : Prop where
  lists : ∀ (k : Nat) (z : Rw), L[k]? = some z → z.val.ownBlock = none ∨ ∃ b, z.val.ownBlock = some b ∧ b < H
  apart : ∀ (k : Nat) (z : Rw), k ≠ i → L[k]? = some z → z.val.ownBlock = none ∨ z.val.ownBlock ≠ x.val.ownBlock
  grown : ∀ (k : Nat) (v : Value), k < i → gv[k]? = some v → (v.ownBlock = none ∨ ∃ b, v.ownBlock = some b ∧ b < H) ∧ (v.ownBlock = none ∨ v.ownBlock ≠ x.val.ownBlock)
  g : G < H
  q : Q < H
  xq : x.val.ownBlock ≠ some Q
  xg : x.val.ownBlock ≠ some G
theorem Full.kept {B : Nat} {w w' : World} {L : List Rw} {k : Nat} {x : Rw} {v : Value} (h : Full B w L k x v) {row : Option Nat} (hg : w.grownBy w' row) (hne : v.ownBlock = none ∨ v.ownBlock ≠ row) : Full B w' L k x v := by
  obtain ⟨y, c, rfl, ho, ha⟩ := h
  exact ⟨y, c, rfl, ho.kept hg hne, ha⟩
/-- an alien block is written, or none -/
theorem Got.kept {B : Nat} {w wr w' : World} {L : List Rw} {Q qo G i : Nat} {gv : List Value} (h : Got B w wr L Q qo G i gv) {row : Option Nat} (hg : wr.grownBy w' row)
    (h1 : ∀ (k : Nat) (z : Rw), L[k]? = some z → z.val.ownBlock = none ∨ z.val.ownBlock ≠ row) (h2 : ∀ (k : Nat) (v : Value), k < i → gv[k]? = some v → v.ownBlock = none ∨ v.ownBlock ≠ row) (h3 : row ≠ some G) (h4 : row ≠ some Q) (h5 : ∀ k, row = some k → (∃ (i : Nat) (x : Rw), L[i]? = some x ∧ x.val.ownBlock = some k) ∨ w.heap.size ≤ k) : Got B w w' L Q qo G i gv :=
  ⟨fun k z hz => (h.marked k z hz).kept hg (h1 k z hz), h.row.kept hg (Or.inr (by simpa [Value.ownBlock] using fun e => h3 e.symm)), fun k z hk hz => by
    obtain ⟨v, hv, hf⟩ := h.full k z hk hz
    exact ⟨v, hv, hf.kept hg (h2 k v hk hv)⟩, h.sit.kept hg h4, h.below.step hg h5⟩
/-- nothing old is written -/
theorem Got.fresh {B : Nat} {w wr w' : World} {L : List Rw} {Q qo G i : Nat} {gv : List Value} (h : Got B w wr L Q qo G i gv) (hg : wr.grownBy w' none) : Got B w w' L Q qo G i gv :=
  h.kept hg (fun k z hz => by
    rcases below_lt (h.marked k z hz) with h1 | ⟨b, h1, _⟩
    · exact Or.inl h1
    · exact Or.inr (by rw [h1]; simp)) (fun k v hk hv => by
    cases hb : v.ownBlock with
    | none => exact Or.inl rfl
    | some b => exact Or.inr (by simp)) (by simp) (by simp) (fun k hk => by cases hk)
/-- the list that grows is written within its room -/
theorem Got.room {B : Nat} {w wr w' : World} {L : List Rw} {Q qo G i H : Nat} {x : Rw} {gv : List Value} (hO : Old L Q G i H x gv) (hx : L[i]? = some x) (h : Got B w wr L Q qo G i gv) (hH : w.heap.size ≤ H) {y n c : Nat} (hcase : some y = x.val.ownBlock ∨ H ≤ y)
    (hg : wr.grownBy w' (some y)) {ys : List Value} (hn : x.2.2 ≤ n) (hold : wr.ownsRow B E 1 (.slice (some ⟨y, 0, none⟩) n c) n ys) {ys' : List Value} (hnew : w'.ownsRow B E 1 (.slice (some ⟨y, 0, none⟩) (n + 1) c) (n + 1) (List.replicate x.2.2 (m1 i) ++ ys')) : Got B w w' L Q qo G i gv := by
  have hL : ∀ (k : Nat) (z : Rw), k ≠ i → L[k]? = some z → z.val.ownBlock = none ∨ z.val.ownBlock ≠ some y := fun k z hk hz => by
    rcases hcase with e | e
    · rw [e]; exact hO.apart k z hk hz
    · rcases hO.lists k z hz with h1 | ⟨b, h1, h2⟩
      · exact Or.inl h1
      · exact Or.inr (by rw [h1]; simp; omega)
  have hm : Marked B w' L := fun k z hz => by
    by_cases hk : k = i
    · subst hk
      rw [hx] at hz
      obtain rfl := Option.some.inj hz
      by_cases he : x.val.ownBlock = some y
      · have hmi := h.marked k x hx
        unfold Rw.val at hmi he ⊢
        rcases shape hmi with ⟨h1, _⟩ | ⟨g, h1, _⟩
        · rw [h1] at he; simp [Value.ownBlock] at he
        · rw [h1] at he hmi ⊢
          obtain rfl : g = y := by simpa [Value.ownBlock] using he
          obtain rfl := same_cap hmi hold
          have hp := prefix_own hnew (k := x.2.2) (by omega)
          rwa [List.take_left' (by simp)] at hp
      · exact (h.marked k x hx).kept hg (Or.inr he)
    · exact (h.marked k z hz).kept hg (hL k z hk hz)
  refine ⟨hm, h.row.kept hg (Or.inr ?_), fun k z hk hz => ?_, h.sit.kept hg ?_, h.below.step hg (fun k hk => by
    obtain rfl : y = k := Option.some.inj hk
    rcases hcase with e | e
    · exact Or.inl ⟨i, x, hx, e.symm⟩
    · exact Or.inr (Nat.le_trans hH e))⟩
  · have : (Value.slice (some ⟨G, 0, none⟩) L.length L.length).ownBlock = some G := rfl
    rw [this]
    rcases hcase with e | e
    · rw [e]; exact fun h => hO.xg h.symm
    · have := hO.g; simp; omega
  · obtain ⟨v, hv, hf⟩ := h.full k z hk hz
    obtain ⟨h1, h2⟩ := hO.grown k v hk hv
    refine ⟨v, hv, hf.kept hg ?_⟩
    rcases hcase with e | e
    · rw [e]; exact h2
    · rcases h1 with h1 | ⟨b, h1, h3⟩
      · exact Or.inl h1
      · exact Or.inr (by rw [h1]; simp; omega)
  · rcases hcase with e | e
    · rw [e]; exact hO.xq
    · have := hO.q; simp; omega
theorem cell_new (w : World) (v : Value) (t : TypeId) : ∀ j u, [v][j]? = some u → (w.alloc (.cells #[v] t)).cell? ((⟨w.heap.size, 0, none⟩ : Addr).add j) = some u := by
  intro j u hj
  match j, hj with
  | 0, hj => simp at hj; subst hj; simp [Addr.add]
theorem make_rows (n : Nat) (hn : n ≤ 1000000) (w : World) :
    (Instr.makeSlice 89 (.int .i64 (n : Int)) (.int .i64 (n : Int))).run Tryd.prog w = .ok (.slice (some ⟨w.heap.size, 0, none⟩) n n) (w.alloc (.cells (madeCells #[.slice none 0 0] n) 22)) := by
  obtain ⟨i0, hi, hz0, hz1, hz2⟩ := info_parts infoS
  have h := run_make (P := Tryd.prog) w 89 22 i0 (.slice none 0 0) Tryd.underlying89 hi hz0 .i64 .i64 n n (by omega) (by omega) (by rw [hz2]; omega) (by omega)
  rw [hz1] at h
  simpa [Value.cells] using h
theorem rows_made (B : Nat) (w : World) (n : Nat) (hB : B ≤ w.heap.size) (hn : n ≤ 1000000) : (w.alloc (.cells (madeCells #[.slice none 0 0] n) 22)).ownsRow B 22 1 (.slice (some ⟨w.heap.size, 0, none⟩) n n) n (List.replicate n (.slice none 0 0)) := by
  refine ⟨by simp, Or.inr ⟨w.heap.size, n, madeCells #[.slice none 0 0] n, rfl, hB, ?_, Nat.le_refl _, by unfold maxLen; omega, by rw [size_madeCells, Nat.mul_one], ?_⟩⟩
  · show (w.heap.push _)[w.heap.size]? = _
    simp
  · rw [Nat.mul_one, toList_madeCells_one, List.take_of_length_le (by simp)]

def TruePost (L : List Rw) (w : World) (e : Ending) (w' : World) : Prop := e = .returned (.bool true) ∧ Fr L w w'
end Go.Proofs.YtfgoflaeclfggaaDoor.apartI
end
section
namespace Go.Proofs.YtfgoflaeclfggaaDoor.apartI
open Go.RowKit

set_option maxRecDepth 100000 in
set_option maxHeartbeats 8000000 in
theorem apart_any (B : Nat) (L : List Rw) (Q qo cap : Nat) (w : World) (hB : B ≤ w.heap.size) (hP : Parts L Q) (C0 : Nat → List Value) (hO : OwnAll B w L C0) (hS : Sit w Q qo L) (hl : L.length ≤ 1000) (hlen : ∀ x ∈ L, x.2.2 ≤ 100000) (hc : L.length ≤ cap) (hcm : cap ≤ 9223372036854775807) :
    Calls Tryd.prog 30 #[.slice (some ⟨Q, qo, none⟩) L.length cap] w (TruePost L w) := by
  obtain ⟨i0, hi, hz0, hz1, hz2⟩ := info_parts infoE
  have hmk := make_rows L.length (by omega)
  have HP := Lib.hid (And.intro hP (And.intro hO (And.intro hS hlen)))
  have hQ := hS.lt
  clear hP hO hS hlen
  go_enter Tryd.func30, Tryd.ntmps30
  go_wp2_with fail
  go_loopw [3] (fun v3 wr => Rel1 B w L Q qo v3 wr) (fun v _ => L.length - (intOf v).toNat)
  case atStart => exact ⟨0, C0, Nat.zero_le _, rfl, HP.out.2.1, fun k x hk => absurd hk (Nat.not_lt_zero k), HP.out.2.2.1, Fr.refl _ _⟩
  case round =>
    obtain ⟨i, C, hin, rfl, hO, hD, hS, hb⟩ := hrel
    have HR := Lib.hid (And.intro hO (And.intro hD (And.intro hS hb)))
    obtain ⟨wo, rfl⟩ : ∃ wo : World, wo = wr := ⟨_, rfl⟩
    by_cases hlt : i < L.length
    · obtain ⟨x, hx⟩ : ∃ x, L[i]? = some x := ⟨_, List.getElem?_eq_getElem hlt⟩
      have hxm : x ∈ L := List.mem_of_getElem? hx
      have hxl := HP.out.2.2.2 x hxm
      obtain ⟨xa, xc, xn⟩ := x
      replace hxl : xn ≤ 100000 := hxl
      have HX := Lib.hid hx
      clear hO hD hS hb hx hxm hmk
      go_wp2_with fail
      go_loopw [4] (fun v4 wr => Rel2 B w L Q qo i xn v4 wr) (fun v _ => xn - (intOf v).toNat)
      case atStart => exact ⟨0, C, Nat.zero_le _, rfl, HR.out.1, HR.out.2.1, rfl, HR.out.2.2.1, HR.out.2.2.2⟩
      case round =>
        obtain ⟨j, C, hj, rfl, hO, hD, hT, hS, hb⟩ := hrel
        have hcell : wr.cell? ⟨Q, qo + i, none⟩ = some (.slice xa xn xc) := hS.cell i _ HX.out
        have hown : wr.ownsRow B E 1 (.slice xa xn xc) xn (C i) := hO i _ HX.out
        have HI := Lib.hid (And.intro hO (And.intro hD (And.intro hT (And.intro hS hb))))
        by_cases hjl : j < xn
        · rcases shape hown with ⟨_, h0, _⟩ | ⟨g, rfl, hgB, hgl, hnc, hcmx, hCl, hcells, hfz⟩
          · omega
          obtain ⟨v0, hv0⟩ : ∃ v0, (C i)[j]? = some v0 := ⟨_, List.getElem?_eq_getElem (by omega)⟩
          have hcj : wr.cell? ⟨g, j, none⟩ = some v0 := (hcells j hjl).trans hv0
          have hfj := hfz j
          have hmod : i ≤ 1000 := by omega
          obtain ⟨s1, s2⟩ := hO.store HP.out.1 HX.out rfl j (m1 i)
          have hgQ : (some g : Option Nat) ≠ some Q := HP.out.1.q i _ HX.out
          have hT2 : ((C i).set j (m1 i)).take (j + 1) = List.replicate (j + 1) (m1 i) := by
            rw [set_take (by omega), hT, ← List.replicate_succ']
          have HN := Lib.hid (And.intro s1 (And.intro hT2 (And.intro (hS.kept s2 hgQ) (hb.step s2 (fun k hk => Or.inl ⟨i, _, HX.out, hk⟩)))))
          clear hO hD hT hS hb hown hcells hfz hv0 s1 s2 hgQ hT2 hCl
          go_wp2_with fail
          go_roundw
          case rel =>
            refine ⟨j + 1, _, by omega, by go_num, HN.out.1, fun k y hk hy => ?_, ?_, HN.out.2.2.1, HN.out.2.2.2⟩
            · simp only [if_neg (Nat.ne_of_lt hk)]
              exact HI.out.2.1 k y hk hy
            · simp only [if_true]
              exact HN.out.2.1
          case measure => simp [intOf]; omega
        · obtain rfl : j = xn := by omega
          have hCi : C i = List.replicate j (m1 i) := by
            have h1 : (C i).length = j := by rw [hown.1, Nat.mul_one]
            rw [← hT, List.take_of_length_le (by omega)]
          have HC := Lib.hid hCi
          clear hO hD hT hS hb hown hCi
          go_wp2_with fail
          go_roundw
          case rel =>
            refine ⟨i + 1, C, by omega, by go_num, HI.out.1, fun k y hk hy => ?_, HI.out.2.2.2.1, HI.out.2.2.2.2⟩
            rcases Nat.lt_or_ge k i with h | h
            · exact HI.out.2.1 k y h hy
            · obtain rfl : k = i := by omega
              rw [HX.out] at hy
              obtain rfl := Option.some.inj hy
              exact HC.out
          case measure => simp [intOf]; omega
    · obtain rfl : i = L.length := by omega
      have hM : Marked B wo L := fun k x hx => by
        have h := hO k x hx
        have hk : k < L.length := (List.getElem?_eq_some_iff.1 hx).1
        rwa [hD k x hk hx] at h
      have hwB : B ≤ wo.heap.size := Nat.le_trans hB hb.size
      have hrow := rows_made B wo L.length hwB (by omega)
      have hMa : Marked B (wo.alloc (.cells (madeCells #[.slice none 0 0] L.length) 22)) L := fun k x hx => (hM k x hx).alloc _
      have hG : Got B w (wo.alloc (.cells (madeCells #[.slice none 0 0] L.length) 22)) L Q qo wo.heap.size 0 (List.replicate L.length (.slice none 0 0)) :=
        ⟨hMa, hrow, fun k x hk => absurd hk (Nat.not_lt_zero k), hS.kept (World.grownBy_alloc wo _ none) (by simp), hb.step (World.grownBy_alloc wo _ none) (fun k hk => by cases hk)⟩
      obtain ⟨G, hGs⟩ : ∃ G, wo.heap.size = G := ⟨_, rfl⟩
      rw [hGs] at hG
      have hQG : Q < G := by rw [← hGs]; exact hS.lt
      have hBG : B ≤ G := by omega
      have hwG : w.heap.size ≤ G := by have := hb.size; omega
      have HGs := Lib.hid hGs
      have HLG := Lib.hid (show ∀ (k : Nat) (z : Rw), L[k]? = some z → z.val.ownBlock = none ∨ ∃ b, z.val.ownBlock = some b ∧ b < G from fun k z hz => by
        rcases below_lt (hM k z hz) with h | ⟨b, h1, _, h2⟩
        · exact Or.inl h
        · exact Or.inr ⟨b, h1, by omega⟩)
      have HG := Lib.hid hG
      clear hO hD hS hb hM hrow hMa hG hlt HR
      go_wp2_with fail
      clear hmk hGs
      go_loopw [6] (fun v6 wr => Rel3 B w L Q qo G v6 wr) (fun v _ => L.length - (intOf v).toNat)
      case atStart => exact ⟨0, _, Nat.zero_le _, rfl, HG.out⟩
      case round =>
        obtain ⟨i, gv, hin, rfl, hG⟩ := hrel
        obtain ⟨wp, rfl⟩ : ∃ wp : World, wp = wr := ⟨_, rfl⟩
        have hwB : B ≤ wp.heap.size := Nat.le_trans hB hG.below.size
        have hgl : gv.length = L.length := by have := hG.row.1; omega
        have HGG := Lib.hid hG
        have hGw : G < wp.heap.size := by rcases shape hG.row with ⟨h, _⟩ | ⟨g, h, _, h2, _⟩
                                          · cases h
                                          · obtain rfl : G = g := by simpa using h
                                            exact h2
        by_cases hlt : i < L.length
        · obtain ⟨x, hx⟩ : ∃ x, L[i]? = some x := ⟨_, List.getElem?_eq_getElem hlt⟩
          have hxl := HP.out.2.2.2 x (List.mem_of_getElem? hx)
          have hcell := hG.sit.cell i x hx
          have hmx := hG.marked i x hx
          have hOld : Old L Q G i wp.heap.size x gv := ⟨fun k z hz => by
              rcases HLG.out k z hz with h | ⟨b, h1, h2⟩
              · exact Or.inl h
              · exact Or.inr ⟨b, h1, by omega⟩, fun k z hk hz => HP.out.1.two k i z x hz hx hk, fun k v hk hv => by
              obtain ⟨z, hz⟩ : ∃ z, L[k]? = some z := ⟨_, List.getElem?_eq_getElem (by omega)⟩
              obtain ⟨v', hv', y, c, rfl, ho, ha⟩ := hG.full k z hk hz
              rw [hv] at hv'
              obtain rfl := Option.some.inj hv'
              refine ⟨?_, ha i x (by omega) hx⟩
              rcases below_lt ho with h | ⟨b, h1, _, h2⟩
              · exact Or.inl h
              · exact Or.inr ⟨b, h1, h2⟩, hGw, by omega, HP.out.1.q i x hx, by
              rcases HLG.out i x hx with h | ⟨b, h1, h2⟩
              · rw [h]; simp
              · rw [h1]; simp; omega⟩
          obtain ⟨xa, xc, xn⟩ := x
          replace hxl : xn ≤ 100000 := hxl
          replace hcell : wp.cell? ⟨Q, qo + i, none⟩ = some (.slice xa xn xc) := hcell
          replace hmx : wp.ownsRow B E 1 (.slice xa xn xc) xn (List.replicate xn (m1 i)) := hmx
          have HX := Lib.hid (And.intro hx (And.intro hOld hmx))
          obtain ⟨H, hH⟩ : ∃ H, wp.heap.size = H := ⟨_, rfl⟩
          have HH := Lib.hid hH
          have hHG : G < H := by omega
          have hHW : w.heap.size ≤ H := by have := HGG.out.below.size; omega
          clear hx hOld hmx hG hGw hH
          go_wp2_with fail
          go_loopw [7, 8] (fun v7 v8 wr => Rel4 B w L Q qo G i H (xa, xc, xn) gv v7 v8 wr) (fun _ v _ => 40 - (intOf v).toNat)
          case atStart =>
            refine ⟨0, xa, xc, by omega, rfl, rfl, ?_, Or.inl rfl, by rw [HH.out]; exact Nat.le_refl _, HGG.out⟩
            rw [List.replicate_zero, List.append_nil]
            exact HX.out.2.2
          case round =>
            obtain ⟨j, y, c, hj, rfl, rfl, ho, hcase, hHw, hG⟩ := hrel
            replace ho : wr.ownsRow B E 1 (.slice y (xn + j) c) (xn + j) (List.replicate xn (m1 i) ++ List.replicate j (m2 i)) := ho
            have hwB : B ≤ wr.heap.size := Nat.le_trans hB hG.below.size
            have HI := Lib.hid (And.intro ho (And.intro hcase hG))
            have hOl : Old L Q G i H (xa, xc, xn) gv := by have := HX.out.2.1; rwa [HH.out] at this
            have HO := Lib.hid hOl
            have hxlen : (List.replicate xn (m1 i) ++ List.replicate j (m2 i)).length = xn + j := by simp
            have HXL := Lib.hid hxlen
            clear hOl hxlen
            by_cases hj40 : j < 40
            · have hmod : i ≤ 1000 := by omega
              rcases shape ho with ⟨hy0, h00, hc0, hxs0⟩ | ⟨g, rfl, hgB, hgl2, hnc, hcmx, hCl, hcells, hfz⟩
              · -- a nil list: it grows
                subst hy0 hc0
                have hxn0 : xn = 0 := by omega
                have hj0 : j = 0 := by omega
                subst hxn0 hj0
                clear hcase hG hxs0 h00
                go_wp2_with (at_builtin; refine wpList_append_grows _ rfl _ _ 22 rfl E i0 (.int .i64 0) 1 8 Tryd.underlying22 hi hz0 hz1 hz2 rfl (by decide) none 0 0 [] rfl ?g0 ?g1 ?g2 ⟨wr.heap.size, 0, none⟩ 1 1 [m2 i] rfl rfl (cell_new _ _ _) ?g3 (by omega) ?g4 ?g5 ?_)
                case g3 => first | rfl | (intro u hu; simp at hu; subst hu; rfl)
                case g4 => unfold maxLen; omega
                intro v' w6 hown' hgrow
                have hG6 := (HI.out.2.2.fresh (World.grownBy_alloc wr _ none)).fresh hgrow
                have hfr : ∃ y' c', v' = .slice y' 1 c' ∧ ∃ b, v'.ownBlock = some b ∧ H ≤ b := by
                  obtain ⟨hx1, h | ⟨g', cap', cur, hv, hg', _⟩⟩ := hown'
                  · omega
                  · exact ⟨_, _, hv, g', by rw [hv]; rfl, by first | omega | (simp at hg'; omega)⟩
                obtain ⟨y', c', rfl, hfr⟩ := hfr
                have hown2 : w6.ownsRow B E 1 (.slice y' 1 c') 1 [m2 i] := by
                  obtain ⟨hx1, h | ⟨g', cap', cur, hv, hg', r⟩⟩ := hown'
                  · omega
                  · exact ⟨hx1, Or.inr ⟨g', cap', cur, hv, by first | omega | (simp at hg'; omega), r⟩⟩
                have HF := Lib.hid (And.intro hown2 (And.intro hfr (And.intro hG6 (show H ≤ w6.heap.size by have := hgrow.size; simp at this; omega))))
                clear hown' hgrow hG6 hfr hown2 ho
                go_wp2_with fail
                go_roundw
                case rel => exact ⟨1, y', c', by omega, by go_num, rfl, HF.out.1, Or.inr HF.out.2.1, HF.out.2.2.2, HF.out.2.2.1⟩
                case measure => simp [intOf]
              · have hyc : some g = (Rw.val (xa, xc, xn)).ownBlock ∨ H ≤ g := by
                  rcases hcase with h | ⟨b, h1, h2⟩
                  · exact Or.inl h
                  · right
                    have : g = b := by simpa [Value.ownBlock] using h1
                    omega
                have HY := Lib.hid hyc
                clear hcase hG hyc hfz
                by_cases hroom : xn + j + 1 ≤ c
                · clear hcells
                  go_wp2_with (at_builtin; refine wpList_append_own_spare _ rfl _ _ 22 rfl B E i0 1 Tryd.underlying22 hi hz1 g (xn + j) c _ rfl (ho.alloc _) ⟨wr.heap.size, 0, none⟩ 1 1 [m2 i] rfl rfl (cell_new _ _ _) ?e2 (by omega) ?_)
                  case e2 => first | rfl | (intro u hu; simp at hu; subst hu; rfl)
                  intro w6 hown' hgrow
                  try rw [List.append_assoc] at hown'
                  rw [← List.replicate_succ'] at hown'
                  have hGa := HI.out.2.2.fresh (World.grownBy_alloc wr (.cells #[m2 i] E) none)
                  have hG6 := hGa.room HO.out HX.out.1 hHW HY.out hgrow (by show xn ≤ xn + j; omega) (ho.alloc _) hown'
                  have HF := Lib.hid (And.intro hown' (And.intro hG6 (show H ≤ w6.heap.size by have := hgrow.size; simp at this; omega)))
                  clear hown' hgrow hG6 hGa ho
                  go_wp2_with fail
                  go_roundw
                  case rel =>
                    refine ⟨j + 1, some ⟨g, 0, none⟩, c, by omega, by go_num, rfl, HF.out.1, ?_, HF.out.2.2, HF.out.2.1⟩
                    rcases HY.out with h | h
                    · exact Or.inl h
                    · exact Or.inr ⟨g, rfl, h⟩
                  case measure => simp [intOf]; omega
                · clear hcells hCl
                  have HOLD := Lib.hid ((ho.alloc (.cells #[m2 i] E)).cells (g := g) rfl)
                  go_wp2_with (at_builtin; refine wpList_append_grows _ rfl _ _ 22 rfl E i0 (.int .i64 0) 1 8 Tryd.underlying22 hi hz0 hz1 hz2 rfl (by decide) (some ⟨g, 0, none⟩) (xn + j) c (List.replicate xn (m1 i) ++ List.replicate j (m2 i)) rfl ?h0 ?h1 (fun b hb => by cases hb; exact HOLD.out) ⟨wr.heap.size, 0, none⟩ 1 1 [m2 i] rfl rfl (cell_new _ _ _) ?h3 (by omega) ?h4 ?h5 ?_)
                  case h3 => first | rfl | (intro u hu; simp at hu; subst hu; rfl)
                  case h4 => unfold maxLen; omega
                  case h5 => omega
                  intro v' w6 hown' hgrow
                  try rw [List.append_assoc] at hown'
                  rw [← List.replicate_succ'] at hown'
                  have hG6 := (HI.out.2.2.fresh (World.grownBy_alloc wr _ none)).fresh hgrow
                  have hfr : ∃ y' c', v' = .slice y' (xn + j + 1) c' ∧ (∃ b, v'.ownBlock = some b ∧ H ≤ b) ∧ w6.ownsRow B E 1 (.slice y' (xn + j + 1) c') (xn + j + 1) (List.replicate xn (m1 i) ++ List.replicate (j + 1) (m2 i)) := by
                    obtain ⟨hx1, h | ⟨g', cap', cur, hv, hg', r⟩⟩ := hown'
                    · omega
                    · subst hv
                      exact ⟨_, _, rfl, ⟨g', rfl, by first | omega | (simp at hg'; omega)⟩, hx1, Or.inr ⟨g', cap', cur, rfl, by first | omega | (simp at hg'; omega), r⟩⟩
                  obtain ⟨y', c', rfl, hfr, hown2⟩ := hfr
                  have HF := Lib.hid (And.intro hown2 (And.intro hfr (And.intro hG6 (show H ≤ w6.heap.size by have := hgrow.size; simp at this; omega))))
                  clear hown' hgrow hG6 hfr hown2 ho
                  go_wp2_with fail
                  go_roundw
                  case rel => exact ⟨j + 1, y', c', by omega, by go_num, rfl, HF.out.1, Or.inr HF.out.2.1, HF.out.2.2.2, HF.out.2.2.1⟩
                  case measure => simp [intOf]; omega
            · obtain rfl : j = 40 := by omega
              have hgl2 : gv.length = L.length := hgl
              obtain ⟨v0, hv0⟩ : ∃ v0, gv[i]? = some v0 := ⟨_, List.getElem?_eq_getElem (by omega)⟩
              have hcg : wr.cell? ⟨G, i, none⟩ = some v0 := (hG.row.cellAt i (by omega)).trans hv0
              have hfg : wr.frozen? ⟨G, i, none⟩ = false := hG.row.frozenAt i
              obtain ⟨s1, s2⟩ := hG.row.stored i (.slice y (xn + 40) c)
              have hEG : ∀ {b n : Nat} {v : Value} {xs : List Value}, wr.ownsRow b E 1 v n xs → v.ownBlock = none ∨ v.ownBlock ≠ some G := fun {b n v xs} h => other_type h hG.row (by decide)
              have hBo : y = none ∨ ∃ b, (Value.slice y (xn + 40) c).ownBlock = some b := by
                cases y with
                | none => exact Or.inl rfl
                | some a => exact Or.inr ⟨_, rfl⟩
              have hnew : Got B w (wr.setCell ⟨G, i, none⟩ (.slice y (xn + 40) c)) L Q qo G (i + 1) (gv.set i (.slice y (xn + 40) c)) := by
                refine ⟨fun k z hz => (hG.marked k z hz).kept s2 (hEG (hG.marked k z hz)), s1, fun k z hk hz => ?_, hG.sit.kept s2 (by simp; omega), hG.below.step s2 (fun k hk => Or.inr (by have := Option.some.inj hk; omega))⟩
                by_cases hki : k = i
                · subst hki
                  have hz' : z = (xa, xc, xn) := Option.some.inj (hz.symm.trans HX.out.1)
                  subst hz'
                  refine ⟨_, List.getElem?_set_self (by omega), y, c, rfl, ho.kept s2 (hEG ho), fun k' x' hk' hx' => ?_⟩
                  rcases hcase with h | ⟨b, h1, h2⟩
                  · rw [h]
                    exact HP.out.1.two k k' _ x' HX.out.1 hx' (Ne.symm hk')
                  · right
                    rw [h1]
                    rcases HO.out.lists k' x' hx' with h3 | ⟨b', h3, h4⟩
                    · rw [h3]; simp
                    · rw [h3]; simp; omega
                · obtain ⟨v, hv, hf⟩ := hG.full k z (by omega) hz
                  refine ⟨v, by rw [List.getElem?_set_ne (Ne.symm hki)]; exact hv, hf.kept s2 ?_⟩
                  obtain ⟨y', c', rfl, ho', _⟩ := hf
                  exact hEG ho'
              have HN := Lib.hid hnew
              have hiL : i < L.length := (List.getElem?_eq_some_iff.1 HX.out.1).1
              clear hnew s1 s2 hEG hBo hv0 hG ho hcase
              go_wp2_with fail
              go_roundw
              case rel => exact ⟨i + 1, _, by omega, by go_num, HN.out⟩
              case measure => simp [intOf]; omega
        · obtain rfl : i = L.length := by omega
          have HF := Lib.hid hG
          clear hG hlt HGG
          go_wp2_with fail
          go_loop [9] (fun v => ∃ i : Nat, i ≤ L.length ∧ v = .int .i64 (i : Int)) (fun v => L.length - (intOf v).toNat)
          case atStart => exact ⟨0, Nat.zero_le _, rfl⟩
          case round =>
            obtain ⟨i, hi2, rfl⟩ := hrel
            by_cases hlt : i < L.length
            · obtain ⟨x, hx⟩ : ∃ x, L[i]? = some x := ⟨_, List.getElem?_eq_getElem hlt⟩
              have hxl := HP.out.2.2.2 x (List.mem_of_getElem? hx)
              have hcell := HF.out.sit.cell i x hx
              have hmx := HF.out.marked i x hx
              obtain ⟨v, hv, y, c, rfl, ho, _⟩ := HF.out.full i x hlt hx
              obtain ⟨xa, xc, xn⟩ := x
              replace hxl : xn ≤ 100000 := hxl
              replace hcell : wp.cell? ⟨Q, qo + i, none⟩ = some (.slice xa xn xc) := hcell
              replace hmx : wp.ownsRow B E 1 (.slice xa xn xc) xn (List.replicate xn (m1 i)) := hmx
              replace ho : wp.ownsRow B E 1 (.slice y (xn + 40) c) (xn + 40) (List.replicate xn (m1 i) ++ List.replicate 40 (m2 i)) := ho
              have hcg : wp.cell? ⟨G, i, none⟩ = some (.slice y (xn + 40) c) := (HF.out.row.cellAt i (by omega)).trans hv
              rcases shape ho with ⟨_, h0, _⟩ | ⟨g, rfl, hgB, hgl3, hnc, hcmx, hCl, hcells, _⟩
              · omega
              have HM := Lib.hid (And.intro hmx hcells)
              clear hx hv ho hmx hcells hCl
              go_wp2_with fail
              go_loop [11] (fun v => ∃ j : Nat, j ≤ xn + 40 ∧ v = .int .i64 (j : Int)) (fun v => xn + 40 - (intOf v).toNat)
              case atStart => exact ⟨0, Nat.zero_le _, rfl⟩
              case round =>
                obtain ⟨j, hj, rfl⟩ := hrel
                by_cases hjl : j < xn + 40
                · have hcj := HM.out.2 j hjl
                  have hmod : i ≤ 1000 := by omega
                  have hmod2 : i ≤ 1000 := by omega
                  by_cases hjn : j < xn
                  · rw [List.getElem?_append_left (by simpa using hjn), List.getElem?_replicate, if_pos hjn] at hcj
                    rcases shape HM.out.1 with ⟨_, h0, _⟩ | ⟨g2, rfl, _, _, hnc2, hcmx2, _, hcells2, _⟩
                    · omega
                    have hcj2 := hcells2 j hjn
                    rw [List.getElem?_replicate, if_pos hjn] at hcj2
                    unfold m1 at hcj hcj2
                    clear hcells2
                    go_wp2_with fail
                    go_round
                    case rel => exact ⟨j + 1, by omega, by go_num⟩
                    case measure => simp [intOf]; omega
                  · rw [List.getElem?_append_right (by simp; omega), List.getElem?_replicate, if_pos (by simp; omega)] at hcj
                    unfold m2 at hcj
                    go_wp2_with fail
                    go_round
                    case rel => exact ⟨j + 1, by omega, by go_num⟩
                    case measure => simp [intOf]; omega
                · obtain rfl : j = xn + 40 := by omega
                  go_wp2_with fail
                  go_round
                  case rel => exact ⟨i + 1, by omega, by go_num⟩
                  case measure => simp [intOf]; omega
            · obtain rfl : i = L.length := by omega
              go_wp2_with fail
              go_ret
              exact ⟨rfl, HF.out.below⟩
end Go.Proofs.YtfgoflaeclfggaaDoor.apartI
end
section
namespace Go.Proofs.YtfgoflaeclfggaaDoor
open Go.RowKit

/-- A list that was made: between two sizes of the heap lies its block. -/
abbrev MkI := Sl × Nat × Nat
/-- What a law knows on its way: the lent lists (below B), and the lists that were made (from B on), the newest first. -/
structure Kq (w wx : World) (B : Nat) (Ls : List (Nat × List Int)) (Lo : List MkI) : Prop where
  below : Below w.heap.size w wx
  lent : ∀ (i : Nat) (x : Nat × List Int), Ls[i]? = some x → LentI wx x.1 x.2 ∧ w.heap.size ≤ x.1 ∧ x.1 < B
  nd : ∀ (i j : Nat) (x y : Nat × List Int), Ls[i]? = some x → Ls[j]? = some y → i ≠ j → x.1 ≠ y.1
  base : B ≤ wx.heap.size
  low : w.heap.size ≤ B
  own : ∀ (i : Nat) (e : MkI), Lo[i]? = some e → IntO e.2.1 wx e.1.1 e.1.2.1 e.1.2.2 ∧ B ≤ e.2.1 ∧ (∀ k, (Sl.val e.1).ownBlock = some k → k < e.2.2) ∧ e.2.2 ≤ wx.heap.size
  apart : ∀ (i j : Nat) (e f : MkI), i < j → Lo[i]? = some e → Lo[j]? = some f → f.2.2 ≤ e.2.1
theorem Kq.next {w wx w' : World} {B : Nat} {Ls : List (Nat × List Int)} {Lo : List MkI} (K : Kq w wx B Ls Lo) (hb : Below wx.heap.size wx w') : Kq w w' B Ls Lo :=
  ⟨K.below.trans (hb.mono K.below.size), fun i x hx => ⟨(K.lent i x hx).1.below hb, (K.lent i x hx).2⟩, K.nd, Nat.le_trans K.base hb.size, K.low, fun i e he => by
    obtain ⟨h1, h2, h3, h4⟩ := K.own i e he
    exact ⟨h1.next hb, h2, h3, Nat.le_trans h4 hb.size⟩, K.apart⟩
theorem Kq.alloc {w wx : World} {B : Nat} {Ls : List (Nat × List Int)} {Lo : List MkI} (K : Kq w wx B Ls Lo) (o : Obj) : Kq w (wx.alloc o) B Ls Lo := K.next ((Below.refl _ _).alloc (Nat.le_refl _) _)
theorem IntO.lt {base : Nat} {w : World} {p : Option Addr} {c : Nat} {l : List Int} (h : IntO base w p c l) : ∀ k, (Sl.val (p, c, l)).ownBlock = some k → base ≤ k ∧ k < w.heap.size := fun k hk => World.ownsRow.lt h k hk
theorem Kq.push {w wx w' : World} {B : Nat} {Ls : List (Nat × List Int)} {Lo : List MkI} (K : Kq w wx B Ls Lo) (hb : Below wx.heap.size wx w') {p : Option Addr} {c : Nat} {l : List Int} (ho : IntO wx.heap.size w' p c l) : Kq w w' B Ls (((p, c, l), wx.heap.size, w'.heap.size) :: Lo) := by
  have K' := K.next hb
  refine ⟨K'.below, K'.lent, K'.nd, K'.base, K'.low, fun i e he => ?_, fun i j e f hij he hf => ?_⟩
  · cases i with
    | zero =>
      obtain rfl := Option.some.inj he
      exact ⟨ho, K.base, fun k hk => (ho.lt k hk).2, Nat.le_refl _⟩
    | succ i => exact K'.own i e he
  · cases j with
    | zero => omega
    | succ j =>
      cases i with
      | zero =>
        obtain rfl := Option.some.inj he
        exact (K.own j f hf).2.2.2
      | succ i => exact K'.apart i j e f (by omega) he hf
theorem Kq.get {w wx : World} {B : Nat} {Ls : List (Nat × List Int)} {Lo : List MkI} (K : Kq w wx B Ls Lo) (i : Nat) {p : Option Addr} {c lo hi : Nat} {l : List Int} (h : Lo[i]? = some ((p, c, l), lo, hi)) : IntV wx.heap.size wx p c l := (K.own i _ h).1.toV
theorem LentI.vn {w : World} {g m : Nat} {l : List Int} (h : LentI w g l) (hn : m = l.length + 2) (hl : l.length ≤ 17592186043904) : IntV w.heap.size w (some ⟨g, 0, none⟩) m l := by
  subst hn
  exact (LentI.own (base := 0) (Nat.zero_le _) hl h).toV
theorem Kq.old {w wx : World} {B : Nat} {Ls : List (Nat × List Int)} {Lo : List MkI} (K : Kq w wx B Ls Lo) {p : Option Addr} {c : Nat} {l : List Int} (h : IntV w.heap.size w p c l) : IntV wx.heap.size wx p c l := h.next K.below
/-- a lent list is written -/
theorem Kq.setx {w wx : World} {B : Nat} {Ls : List (Nat × List Int)} {Lo : List MkI} (K : Kq w wx B Ls Lo) (k g : Nat) (l : List Int) (hk : Ls[k]? = some (g, l)) (i : Nat) (v : Int) (hi : i < l.length) : Kq w (wx.setCell ⟨g, i, none⟩ (.int .i64 v)) B (Ls.set k (g, l.set i v)) Lo := by
  have hs : (wx.setCell ⟨g, i, none⟩ (.int .i64 v)).heap.size = wx.heap.size := by simp [World.setCell]
  have hg : wx.grownBy (wx.setCell ⟨g, i, none⟩ (.int .i64 v)) (some g) := ⟨rfl, rfl, rfl, by rw [hs]; exact Nat.le_refl _, fun k _ hne => Below.heap_setCell wx ⟨g, i, none⟩ _ k (fun e => hne (by rw [e]))⟩
  obtain ⟨hx, hx1, hx2⟩ := K.lent k _ hk
  have hset : ∀ (j : Nat) (x : Nat × List Int), (Ls.set k (g, l.set i v))[j]? = some x → (j = k ∧ x = (g, l.set i v)) ∨ (j ≠ k ∧ Ls[j]? = some x) := fun j x hj => by
    by_cases e : j = k
    · subst e
      rw [List.getElem?_set_self (List.getElem?_eq_some_iff.1 hk).1] at hj
      exact Or.inl ⟨rfl, (Option.some.inj hj).symm⟩
    · rw [List.getElem?_set_ne (Ne.symm e)] at hj
      exact Or.inr ⟨e, hj⟩
  refine ⟨K.below.setCell (p := ⟨g, i, none⟩) hx1 _, fun j x hj => ?_, fun j j' x y hj hj' hne => ?_, by rw [hs]; exact K.base, K.low, fun j e he => ?_, K.apart⟩
  · rcases hset j x hj with ⟨_, rfl⟩ | ⟨hne, hj⟩
    · refine ⟨?_, hx1, hx2⟩
      unfold LentI
      rw [heap_setCell_same _ g i _ _ _ hx]
      congr 2
      rw [← Array.toList_inj]
      simp only [Array.toList_setIfInBounds]
      rw [← cI_set, List.set_append_left _ _ hi]
    · obtain ⟨h1, h2, h3⟩ := K.lent j x hj
      have hxg : x.1 ≠ g := K.nd j k x _ hj hk hne
      exact ⟨h1.block (hg.block x.1 h1.lt (by simpa using hxg)), h2, h3⟩
  · rcases hset j x hj with ⟨a1, a2⟩ | ⟨a1, a2⟩
    · rcases hset j' y hj' with ⟨b1, b2⟩ | ⟨b1, b2⟩
      · exact absurd (a1.trans b1.symm) hne
      · rw [a2]
        exact K.nd k j' (g, l) y hk b2 (Ne.symm b1)
    · rcases hset j' y hj' with ⟨b1, b2⟩ | ⟨b1, b2⟩
      · rw [b2]
        exact K.nd j k x (g, l) a2 hk a1
      · exact K.nd j j' x y a2 b2 hne
  · obtain ⟨h1, h2, h3, h4⟩ := K.own j e he
    refine ⟨World.ownsRow.kept h1 hg ?_, h2, h3, by rw [hs]; exact h4⟩
    cases hb : (Sl.val e.1).ownBlock with
    | none => exact Or.inl hb
    | some z =>
      right
      have h5 := (IntO.lt h1 z hb).1
      have h7 : (Value.slice e.1.1 e.1.2.2.length e.1.2.1).ownBlock = some z := hb
      rw [h7]
      simp
      omega
def rwOf (Lo : List MkI) (i : Nat) : apartI.Rw := match Lo[i]? with
  | some e => (e.1.1, e.1.2.1, e.1.2.2.length)
  | none => (none, 0, 0)
theorem rwOf_some {Lo : List MkI} {i : Nat} {e : MkI} (h : Lo[i]? = some e) : rwOf Lo i = (e.1.1, e.1.2.1, e.1.2.2.length) := by unfold rwOf; rw [h]
theorem own_chooseI {B : Nat} {w : World} {L : List apartI.Rw} (h : ∀ (k : Nat) (x : apartI.Rw), L[k]? = some x → ∃ xs, w.ownsRow B apartI.E 1 x.val x.2.2 xs) : ∃ C, apartI.OwnAll B w L C := by
  have key : ∀ k : Nat, ∃ xs : List Value, ∀ x : apartI.Rw, L[k]? = some x → w.ownsRow B apartI.E 1 x.val x.2.2 xs := fun k => by
    cases hk : L[k]? with
    | none => exact ⟨[], fun x hx => by cases hx⟩
    | some y =>
      obtain ⟨xs, hxs⟩ := h k y hk
      exact ⟨xs, fun x hx => by obtain rfl := Option.some.inj hx; exact hxs⟩
  exact ⟨fun k => Classical.choose (key k), fun k x hx => Classical.choose_spec (key k) x hx⟩
theorem IntO.toV_of {base : Nat} {w w' : World} {p : Option Addr} {c : Nat} {l : List Int} (h : IntO base w p c l) (hs : w.heap.size ≤ w'.heap.size) (hb : ∀ z, base ≤ z → z < w.heap.size → (Sl.val (p, c, l)).ownBlock = some z → w'.heap[z]? = w.heap[z]?) : IntV w'.heap.size w' p c l := by
  have hv := h.toV
  refine ⟨hv.le, hv.cap, hv.nil, fun hn => ?_⟩
  rcases own_shape h with ⟨hv', h0, _⟩ | ⟨g, cap, hv', hg, hgl, hc, hm, hcl, _⟩
  · exact absurd (List.eq_nil_of_length_eq_zero h0) hn
  · obtain ⟨rfl, rfl⟩ : p = some ⟨g, 0, none⟩ ∧ c = cap := by simpa using hv'
    exact ⟨g, 0, rfl, by omega, fun j x hx => by rw [Nat.zero_add]; exact (World.cell?_of_block (hb g hg hgl rfl)).trans ((hcl j (ltI hx)).trans (cI_get hx))⟩
/-- what is left when lists were found apart: the lent ones, and the made ones that were not asked -/
def ApartPost (w : World) (Ls : List (Nat × List Int)) (Lo : List MkI) (Ks : List Nat) (e : Ending) (w' : World) : Prop :=
  e = .returned (.bool true) ∧ Below w.heap.size w w' ∧ (∀ (i : Nat) (x : Nat × List Int), Ls[i]? = some x → LentI w' x.1 x.2) ∧ ∀ (i : Nat) (f : MkI), Lo[i]? = some f → i ∉ Ks → IntV w'.heap.size w' f.1.1 f.1.2.1 f.1.2.2
theorem Kq.apart_call {w wx : World} {B : Nat} {Ls : List (Nat × List Int)} {Lo : List MkI} (K : Kq w wx B Ls Lo) (Ks : List Nat) (hK : Ks.Nodup) (cs : Array Value) (t : TypeId) (n : Nat) (hn : n = Ks.length) (hn2 : n ≤ 1000)
    (hall : ∀ (k i : Nat), Ks[k]? = some i → ∃ e : MkI, Lo[i]? = some e ∧ cs[k]? = some (Sl.val e.1) ∧ e.1.2.2.length ≤ 100000) :
    Calls Tryd.prog 30 #[.slice (some ⟨wx.heap.size, 0, none⟩) n n] (wx.alloc (.cells cs t)) (ApartPost w Ls Lo Ks) := by
  subst hn
  have hL : ∀ (k : Nat) (x : apartI.Rw), (Ks.map (rwOf Lo))[k]? = some x → ∃ (i : Nat) (e : MkI), Ks[k]? = some i ∧ Lo[i]? = some e ∧ x = (e.1.1, e.1.2.1, e.1.2.2.length) ∧ cs[k]? = some (Sl.val e.1) ∧ e.1.2.2.length ≤ 100000 := fun k x hx => by
    rw [List.getElem?_map] at hx
    obtain ⟨i, hi, rfl⟩ := Option.map_eq_some_iff.1 hx
    obtain ⟨e, he, hc, hl⟩ := hall k i hi
    exact ⟨i, e, hi, he, rwOf_some he, hc, hl⟩
  have hval : ∀ e : MkI, apartI.Rw.val (e.1.1, e.1.2.1, e.1.2.2.length) = Sl.val e.1 := fun e => rfl
  have key : ∀ (i : Nat) (e : MkI), Lo[i]? = some e → (Sl.val e.1).ownBlock = none ∨ ∃ z, (Sl.val e.1).ownBlock = some z ∧ e.2.1 ≤ z ∧ z < e.2.2 := fun i e he => by
    cases hb : (Sl.val e.1).ownBlock with
    | none => exact Or.inl rfl
    | some z => exact Or.inr ⟨z, rfl, (IntO.lt (K.own i e he).1 z hb).1, (K.own i e he).2.2.1 z hb⟩
  have hsz : wx.heap.size < (wx.alloc (.cells cs t)).heap.size := by simp
  have hP : apartI.Parts (Ks.map (rwOf Lo)) wx.heap.size := by
    refine ⟨fun k k' x x' hx hx' hne => ?_, fun k x hx => ?_⟩
    · obtain ⟨i, e, hi, he, rfl, _⟩ := hL k x hx
      obtain ⟨j, f, hj, hf, rfl, _⟩ := hL k' x' hx'
      have hij : i ≠ j := by
        rintro rfl
        obtain ⟨h1, h2⟩ := List.getElem?_eq_some_iff.1 hi
        obtain ⟨h3, h4⟩ := List.getElem?_eq_some_iff.1 hj
        have hp := List.pairwise_iff_getElem.1 hK
        rcases Nat.lt_or_gt_of_ne hne with h | h
        · exact hp k k' h1 h3 h (h2.trans h4.symm)
        · exact hp k' k h3 h1 h (h4.trans h2.symm)
      rw [hval, hval]
      rcases key i e he with h | ⟨z, h1, h2, h3⟩
      · exact Or.inl h
      · right
        rcases key j f hf with h | ⟨z', h4, h5, h6⟩
        · rw [h1, h]; intro e'; cases e'
        · intro e'
          rw [h1, h4] at e'
          have e3 := Option.some.inj e'
          rcases Nat.lt_or_gt_of_ne hij with h | h
          · have := K.apart i j e f h he hf; omega
          · have := K.apart j i f e h hf he; omega
    · obtain ⟨i, e, hi, he, rfl, _⟩ := hL k x hx
      rw [hval]
      intro e'
      have h1 := (K.own i e he).2.2.1 _ e'
      have h2 := (K.own i e he).2.2.2
      omega
  obtain ⟨C0, hC0⟩ := own_chooseI (B := B) (w := wx.alloc (.cells cs t)) (L := Ks.map (rwOf Lo)) (fun k x hx => by
    obtain ⟨i, e, _, he, rfl, _⟩ := hL k x hx
    obtain ⟨h1, h2, _, _⟩ := K.own i e he
    exact ⟨_, World.ownsRow.alloc (h1.base h2) _⟩)
  have hS : apartI.Sit (wx.alloc (.cells cs t)) wx.heap.size 0 (Ks.map (rwOf Lo)) := ⟨hsz, fun j x hx => by
    obtain ⟨i, e, _, he, rfl, hc, _⟩ := hL j x hx
    rw [Nat.zero_add, cell_alloc_row, hval, hc]⟩
  have hlen : ∀ x ∈ Ks.map (rwOf Lo), x.2.2 ≤ 100000 := fun x hx => by
    obtain ⟨k, hk⟩ := List.getElem?_of_mem hx
    obtain ⟨i, e, _, _, rfl, _, hl⟩ := hL k x hk
    exact hl
  have h := apartI.apart_any B (Ks.map (rwOf Lo)) wx.heap.size 0 Ks.length (wx.alloc (.cells cs t)) (Nat.le_trans K.base (Nat.le_of_lt hsz)) hP C0 hC0 hS (by rw [List.length_map]; exact hn2) hlen (by rw [List.length_map]; exact Nat.le_refl _) (by omega)
  rw [List.length_map] at h
  refine h.mono ?_
  rintro e w' ⟨rfl, hfr⟩
  have hblk : ∀ z, z < wx.heap.size → (∀ (k i : Nat) (e : MkI), Ks[k]? = some i → Lo[i]? = some e → (Sl.val e.1).ownBlock ≠ some z) → w'.heap[z]? = wx.heap[z]? := fun z hz hno => by
    rw [hfr.block z (Nat.lt_trans hz hsz) (fun k x hx => by
      obtain ⟨i, e, hi, he, rfl, _⟩ := hL k x hx
      rw [hval]
      exact hno k i e hi he)]
    exact Below.heap_alloc _ _ _ hz
  have hlow : ∀ z, z < B → w'.heap[z]? = wx.heap[z]? := fun z hz => hblk z (Nat.lt_of_lt_of_le hz K.base) (fun k i e _ he h => by
    have h1 := (IntO.lt (K.own i e he).1 z h).1
    have h2 := (K.own i e he).2.1
    omega)
  have hBl : ∀ z, z < w.heap.size → w'.heap[z]? = wx.heap[z]? := fun z hz => hlow z (Nat.lt_of_lt_of_le hz K.low)
  refine ⟨rfl, K.below.trans ⟨hfr.os, hfr.tape, hfr.output, by have := hfr.size; have := K.below.size; omega, fun k hk => hBl k hk⟩, fun i x hx => ?_, fun i f hf hni => ?_⟩
  · obtain ⟨h1, _, h3⟩ := K.lent i x hx
    exact h1.block (hlow x.1 h3)
  · obtain ⟨h1, h2, h3, h4⟩ := K.own i f hf
    refine IntO.toV_of h1 (by have := hfr.size; omega) (fun z hz1 hz2 hzo => hblk z hz2 (fun k j e hj he hze => ?_))
    have hij : i ≠ j := by rintro rfl; exact hni (List.mem_of_getElem? hj)
    have e1 := (IntO.lt (K.own j e he).1 z hze).1
    have e2 := (K.own j e he).2.2.1 z hze
    have e3 := h3 z hzo
    rcases Nat.lt_or_gt_of_ne hij with h | h
    · have := K.apart i j f e h hf he; omega
    · have := K.apart j i e f h he hf; omega
end Go.Proofs.YtfgoflaeclfggaaDoor
end
section
namespace Go.Proofs.YtfgoflaeclfggaaDoor
open Go.ChangeShapes Go.WideShapes Go.ChangeAt Go.RowKit Go.Extern.Stop Go.Stop Go.Extern WordM RuleM NatM
attribute [local go_sem ↓] Go.wp_at_zero Go.wp_at_succ

/-- a lent row -/
structure LentW (w : World) (g1 g2 g3 : Nat) (L C R : List Int) : Prop where
  l : LentI w g1 L
  c : LentI w g2 C
  r : LentI w g3 R
theorem LentW.below {w w' : World} {g1 g2 g3 : Nat} {L C R : List Int} (hb : Below w.heap.size w w') (h : LentW w g1 g2 g3 L C R) : LentW w' g1 g2 g3 L C R := ⟨h.l.below hb, h.c.below hb, h.r.below hb⟩
theorem LentW.row {w : World} {g1 g2 g3 n m u : Nat} {L C R : List Int} (h : LentW w g1 g2 g3 L C R) (hn : n = L.length) (hm : m = C.length) (hu : u = R.length) (h1 : n ≤ 17592186043904) (h2 : m ≤ 17592186043904) (h3 : u ≤ 17592186043904) :
    RowV w (some ⟨g1, 0, none⟩) (some ⟨g2, 0, none⟩) (some ⟨g3, 0, none⟩) n (n + 2) m (m + 2) u (u + 2) L C R :=
  ⟨hn, hm, hu, h.l.vn (by omega) (by omega), h.c.vn (by omega) (by omega), h.r.vn (by omega) (by omega)⟩
/-- a new lent row: its three lists lie one behind the other -/
def LentWPost (w : World) (a : Int) (n m u : Nat) (L C R : List Int) (e : Ending) (w' : World) : Prop :=
  ∃ g1 g2 g3, e = .returned (.agg #[.int .i64 a, .slice (some ⟨g1, 0, none⟩) n (n + 2), .slice (some ⟨g2, 0, none⟩) m (m + 2), .slice (some ⟨g3, 0, none⟩) u (u + 2)]) ∧ w.heap.size ≤ g1 ∧ g1 < g2 ∧ g2 < g3 ∧ LentW w' g1 g2 g3 L C R ∧ Below w.heap.size w w'
theorem box_zero (w : World) (a b c d : Value) (w0 : World) (hw0 : w0 = (w.alloc (.cells #[a, b, c, d] 24)).alloc (.cells #[.int .i64 0, .slice none 0 0, .slice none 0 0, .slice none 0 0] 24)) :
    Below w.heap.size w w0 ∧ Row4 w0 w.heap.size a b c d ∧ Row4 w0 (w.heap.size + 1) (.int .i64 0) (.slice none 0 0) (.slice none 0 0) (.slice none 0 0) := two_rows w a b c d _ _ _ _ w0 hw0
theorem LentI.put4 {w : World} {g h : Nat} {l : List Int} (hl : LentI w g l) (hne : g ≠ h) (x y z v : Value) : LentI (put4 w h x y z v) g l :=
  (((hl.block (Below.heap_setCell w ⟨h, 0, none⟩ x g hne)).block (Below.heap_setCell _ ⟨h, 1, none⟩ y g hne)).block (Below.heap_setCell _ ⟨h, 2, none⟩ z g hne)).block (Below.heap_setCell _ ⟨h, 3, none⟩ v g hne)
set_option maxRecDepth 100000 in
set_option maxHeartbeats 8000000 in
theorem lentW_any (a : Int) (p q s : Option Addr) (n c m d u e : Nat) (L C R : List Int) (w : World) (h : RowV w p q s n c m d u e L C R) (hn : n ≤ 17592186043904) (hm : m ≤ 17592186043904) (hu : u ≤ 17592186043904) :
    Calls Tryd.prog 10 #[.agg #[.int .i64 a, .slice p n c, .slice q m d, .slice s u e]] w (LentWPost w a n m u L C R) := by
  have hL1 : ∀ W, IntV W.heap.size W p c L → Calls Tryd.prog 31 #[.slice p n c] W fun e' w' => e' = .returned (.slice (some ⟨W.heap.size, 0, none⟩) n (n + 2)) ∧ LentI w' W.heap.size L ∧ Below W.heap.size W w' := fun W hW => by
    have h1 := lentI_any p c L W hW (by have := h.hn; omega)
    unfold LentPostI at h1
    rw [← h.hn] at h1
    exact h1
  have hL2 : ∀ W, IntV W.heap.size W q d C → Calls Tryd.prog 31 #[.slice q m d] W fun e' w' => e' = .returned (.slice (some ⟨W.heap.size, 0, none⟩) m (m + 2)) ∧ LentI w' W.heap.size C ∧ Below W.heap.size W w' := fun W hW => by
    have h1 := lentI_any q d C W hW (by have := h.hm; omega)
    unfold LentPostI at h1
    rw [← h.hm] at h1
    exact h1
  have hL3 : ∀ W, IntV W.heap.size W s e R → Calls Tryd.prog 31 #[.slice s u e] W fun e' w' => e' = .returned (.slice (some ⟨W.heap.size, 0, none⟩) u (u + 2)) ∧ LentI w' W.heap.size R ∧ Below W.heap.size W w' := fun W hW => by
    have h1 := lentI_any s e R W hW (by have := h.hu; omega)
    unfold LentPostI at h1
    rw [← h.hu] at h1
    exact h1
  have HC := Lib.hid (And.intro hL1 (And.intro hL2 hL3))
  have H := Lib.hid h
  clear h hL1 hL2 hL3 hn hm hu
  go_enter Tryd.func10, Tryd.ntmps10
  go_upto_region 1 with fail
  obtain ⟨w0, hw0⟩ : ∃ w0, w0 = (w.alloc (.cells #[.int .i64 a, .slice p n c, .slice q m d, .slice s u e] 24)).alloc (.cells #[.int .i64 0, .slice none 0 0, .slice none 0 0, .slice none 0 0] 24) := ⟨_, rfl⟩
  rw [← hw0]
  obtain ⟨hb0, hE0, hF0⟩ := box_zero w _ _ _ _ w0 hw0
  have HE := Lib.hid (And.intro hE0 (And.intro hF0 hb0))
  clear hw0 hE0 hF0 hb0
  have hxA : ∀ wx : World, Below w0.heap.size w0 wx → wx.cell? ⟨w.heap.size, 0, none⟩ = some (.int .i64 a) ∧ wx.cell? ⟨w.heap.size, 1, none⟩ = some (.slice p n c) ∧ wx.cell? ⟨w.heap.size, 2, none⟩ = some (.slice q m d) ∧ wx.cell? ⟨w.heap.size, 3, none⟩ = some (.slice s u e) := fun wx hb => (HE.out.1.next hb).facts
  have hxP : ∀ wx : World, Below w0.heap.size w0 wx → ∀ x y z v, (fun wx => wx.cell? ⟨w.heap.size, 0, none⟩ = some (.int .i64 a) ∧ wx.cell? ⟨w.heap.size, 1, none⟩ = some (.slice p n c) ∧ wx.cell? ⟨w.heap.size, 2, none⟩ = some (.slice q m d) ∧ wx.cell? ⟨w.heap.size, 3, none⟩ = some (.slice s u e)) (put4 wx (w.heap.size + 1) x y z v) := fun wx hb x y z v => (((((HE.out.1.next hb).setOther _ 0 (by omega) x).setOther _ 1 (by omega) y).setOther _ 2 (by omega) z).setOther _ 3 (by omega) v).facts
  unfold put4 at hxP
  have hxF : ∀ wx : World, Below w0.heap.size w0 wx → (wx.cell? ⟨w.heap.size + 1, 0, none⟩ = some (.int .i64 0) ∧ wx.cell? ⟨w.heap.size + 1, 1, none⟩ = some (.slice none 0 0) ∧ wx.cell? ⟨w.heap.size + 1, 2, none⟩ = some (.slice none 0 0) ∧ wx.cell? ⟨w.heap.size + 1, 3, none⟩ = some (.slice none 0 0)) ∧ (wx.frozen? ⟨w.heap.size + 1, 0, none⟩ = false ∧ wx.frozen? ⟨w.heap.size + 1, 1, none⟩ = false ∧ wx.frozen? ⟨w.heap.size + 1, 2, none⟩ = false ∧ wx.frozen? ⟨w.heap.size + 1, 3, none⟩ = false) := fun wx hb => ⟨(HE.out.2.1.next hb).facts, (HE.out.2.1.next hb).frozen 0, (HE.out.2.1.next hb).frozen 1, (HE.out.2.1.next hb).frozen 2, (HE.out.2.1.next hb).frozen 3⟩
  have hdr : Below w0.heap.size w0 w0.drew := (Below.refl _ _).drew
  have hlt2 : w.heap.size + 1 < w0.heap.size := HE.out.2.1.lt
  go_region_held3 (fun wx => wx.cell? ⟨w.heap.size, 0, none⟩ = some (.int .i64 a) ∧ wx.cell? ⟨w.heap.size, 1, none⟩ = some (.slice p n c) ∧ wx.cell? ⟨w.heap.size, 2, none⟩ = some (.slice q m d) ∧ wx.cell? ⟨w.heap.size, 3, none⟩ = some (.slice s u e)) (first | exact hxA _ (by assumption) | exact hxA _ (Below.refl _ _) | exact hxA _ hdr | exact hxP _ (by assumption) _ _ _ _ | go_keep) (first
    | (go_at_call 31; refine (HC.out.2.2 _ ((H.out.r.next HE.out.2.2).next hB2)).mono ?_; rintro e' wz ⟨rfl, ho3, hb3⟩; have hB3 : Below w0.heap.size w0 wz := hB2.trans (hb3.mono hB2.size); obtain ⟨⟨hg0, hg1, hg2, hg3⟩, hf0, hf1, hf2, hf3⟩ := hxF _ hB3)
    | (go_at_call 31; refine (HC.out.2.1 _ ((H.out.c.next HE.out.2.2).next hB1)).mono ?_; rintro e' wy ⟨rfl, ho2, hb2⟩; have hB2 : Below w0.heap.size w0 wy := hB1.trans (hb2.mono hB1.size))
    | (go_at_call 31; refine (HC.out.1 _ ((H.out.l.next HE.out.2.2).next (by first | exact hdr | exact Below.refl _ _))).mono ?_; rintro e' wx ⟨rfl, ho1, hb1⟩; have hB1 : Below w0.heap.size w0 wx := (by first | exact hdr.trans (hb1.mono hdr.size) | exact hb1)))
  all_goals
    have q1 : LentI wz w0.heap.size L := (ho1.below hb2).below hb3
    have q2 : LentI wz wx.heap.size C := ho2.below hb3
    have r1 : w0.heap.size < wx.heap.size := ho1.lt
    have r2 : wx.heap.size < wy.heap.size := ho2.lt
    have HF := Lib.hid (And.intro q1 (And.intro q2 (And.intro ho3 (And.intro r1 (And.intro r2 (And.intro hlt2 (HE.out.2.2.trans (hB3.mono HE.out.2.2.size))))))))
    obtain ⟨h1, hh1⟩ : ∃ x, w0.heap.size = x := ⟨_, rfl⟩
    clear hxA hxP hxF hdr ho1 ho2 ho3 hb1 hb2 hb3 hB1 hB2 hB3 q1 q2 r1 r2 hlt2 hh1
    go_wp2_with fail
    refine bodyPost_ret (v := .agg #[.int .i64 a, .slice (some ⟨w0.heap.size, 0, none⟩) n (n + 2), .slice (some ⟨wx.heap.size, 0, none⟩) m (m + 2), .slice (some ⟨wy.heap.size, 0, none⟩) u (u + 2)]) (by simp [results, Tryd.results10, go_sem, hg0, hg1, hg2, hg3]) rfl ⟨w0.heap.size, wx.heap.size, wy.heap.size, rfl, HE.out.2.2.size, HF.out.2.2.2.1, HF.out.2.2.2.2.1, ?_, ?_⟩
    · have n1 : w0.heap.size ≠ w.heap.size + 1 := by have := HF.out.2.2.2.2.2.1; omega
      have n2 : wx.heap.size ≠ w.heap.size + 1 := by have := HF.out.2.2.2.2.2.1; have := HF.out.2.2.2.1; omega
      have n3 : wy.heap.size ≠ w.heap.size + 1 := by have := HF.out.2.2.2.2.2.1; have := HF.out.2.2.2.1; have := HF.out.2.2.2.2.1; omega
      first
        | exact ⟨HF.out.1.put4 n1 _ _ _ _, HF.out.2.1.put4 n2 _ _ _ _, HF.out.2.2.1.put4 n3 _ _ _ _⟩
        | exact ⟨(HF.out.1.put4 n1 _ _ _ _).below (Below.refl _ _).drew, (HF.out.2.1.put4 n2 _ _ _ _).below (Below.refl _ _).drew, (HF.out.2.2.1.put4 n3 _ _ _ _).below (Below.refl _ _).drew⟩
    · first
        | exact put4_below HF.out.2.2.2.2.2.2 (Nat.le_succ _) _ _ _ _
        | exact (put4_below HF.out.2.2.2.2.2.2 (Nat.le_succ _) _ _ _ _).drew
set_option maxRecDepth 100000 in
set_option maxHeartbeats 8000000 in
theorem keptW_any (a : Int) (g1 g2 g3 : Nat) (p q s : Option Addr) (n c m d u e : Nat) (L C R : List Int) (w : World) (hg : LentW w g1 g2 g3 L C R) (h : RowV w p q s n c m d u e L C R) (hn : n ≤ 17592186043904) (hm : m ≤ 17592186043904) (hu : u ≤ 17592186043904) :
    Calls Tryd.prog 19 #[.agg #[.int .i64 a, .slice (some ⟨g1, 0, none⟩) n (n + 2), .slice (some ⟨g2, 0, none⟩) m (m + 2), .slice (some ⟨g3, 0, none⟩) u (u + 2)], .agg #[.int .i64 a, .slice p n c, .slice q m d, .slice s u e]] w (Tells (.bool true) w) := by
  have hK1 : ∀ W, LentI W g1 L → IntV W.heap.size W p c L → Calls Tryd.prog 46 #[.slice (some ⟨g1, 0, none⟩) n (n + 2), .slice p n c] W (Tells (.bool true) W) := fun W h1 h2 => by
    have h3 := keptI_any g1 p n (n + 2) c L W h1 h2 (by have := h.hn; omega) h.hn (by have := h.hn; omega)
    rw [← h.hn] at h3
    exact h3
  have hK2 : ∀ W, LentI W g2 C → IntV W.heap.size W q d C → Calls Tryd.prog 46 #[.slice (some ⟨g2, 0, none⟩) m (m + 2), .slice q m d] W (Tells (.bool true) W) := fun W h1 h2 => by
    have h3 := keptI_any g2 q m (m + 2) d C W h1 h2 (by have := h.hm; omega) h.hm (by have := h.hm; omega)
    rw [← h.hm] at h3
    exact h3
  have hK3 : ∀ W, LentI W g3 R → IntV W.heap.size W s e R → Calls Tryd.prog 46 #[.slice (some ⟨g3, 0, none⟩) u (u + 2), .slice s u e] W (Tells (.bool true) W) := fun W h1 h2 => by
    have h3 := keptI_any g3 s u (u + 2) e R W h1 h2 (by have := h.hu; omega) h.hu (by have := h.hu; omega)
    rw [← h.hu] at h3
    exact h3
  have HC := Lib.hid (And.intro hK1 (And.intro hK2 hK3))
  have H := Lib.hid (And.intro h hg)
  clear h hg hK1 hK2 hK3 hn hm hu
  go_enter Tryd.func19, Tryd.ntmps19
  go_upto_region 1 with fail
  obtain ⟨w0, hw0⟩ : ∃ w0, w0 = (w.alloc (.cells #[.int .i64 a, .slice (some ⟨g1, 0, none⟩) n (n + 2), .slice (some ⟨g2, 0, none⟩) m (m + 2), .slice (some ⟨g3, 0, none⟩) u (u + 2)] 24)).alloc (.cells #[.int .i64 a, .slice p n c, .slice q m d, .slice s u e] 24) := ⟨_, rfl⟩
  rw [← hw0]
  obtain ⟨hb0, hE0, hF0⟩ := two_rows w _ _ _ _ _ _ _ _ w0 hw0
  have HE := Lib.hid (And.intro hE0 (And.intro hF0 hb0))
  obtain ⟨hc0, hc1, hc2, hc3⟩ := hE0.facts
  obtain ⟨hd0, hd1, hd2, hd3⟩ := hF0.facts
  clear hw0 hE0 hF0 hb0
  go_wp2_with fail
  refine (HC.out.1 w0 (H.out.2.l.below HE.out.2.2) (H.out.1.l.next HE.out.2.2)).mono ?_
  rintro e' w1 ⟨rfl, hb1⟩
  have H1 := Lib.hid (And.intro (HE.out.1.next hb1) (And.intro (HE.out.2.1.next hb1) (HE.out.2.2.trans (hb1.mono HE.out.2.2.size))))
  clear hb1 hc0 hc1 hc2 hc3 hd0 hd1 hd2 hd3
  obtain ⟨hc0, hc1, hc2, hc3⟩ := H1.out.1.facts
  obtain ⟨hd0, hd1, hd2, hd3⟩ := H1.out.2.1.facts
  go_wp2_with fail
  refine (HC.out.2.1 w1 (H.out.2.c.below H1.out.2.2) (H.out.1.c.next H1.out.2.2)).mono ?_
  rintro e' w2 ⟨rfl, hb1⟩
  have H2 := Lib.hid (And.intro (H1.out.1.next hb1) (And.intro (H1.out.2.1.next hb1) (H1.out.2.2.trans (hb1.mono H1.out.2.2.size))))
  clear hb1 hc0 hc1 hc2 hc3 hd0 hd1 hd2 hd3
  obtain ⟨hc0, hc1, hc2, hc3⟩ := H2.out.1.facts
  obtain ⟨hd0, hd1, hd2, hd3⟩ := H2.out.2.1.facts
  go_wp2_with fail
  refine (HC.out.2.2 w2 (H.out.2.r.below H2.out.2.2) (H.out.1.r.next H2.out.2.2)).mono ?_
  rintro e' w3 ⟨rfl, hb1⟩
  have H3 := Lib.hid (H2.out.2.2.trans (hb1.mono H2.out.2.2.size))
  clear hb1 hc0 hc1 hc2 hc3 hd0 hd1 hd2 hd3
  go_wp2_with fail
  go_ret
  exact ⟨rfl, H3.out⟩
/-! ### awake -/
theorem okRwX : OkRw 2 0 [0, 1] [1, 1] [0, 0, 1] := ⟨by decide, by decide, by decide, by decide, by decide, by decide, by decide, by decide, by decide, fun x hx => by simp at hx; omega, fun x hx => by simp at hx; omega, fun x hx => by simp at hx; omega⟩
theorem okRwY : OkRw 2 (-2) [0, 1] [0, 1, 1, 1, 0] [0, 1, 0] := ⟨by decide, by decide, by decide, by decide, by decide, by decide, by decide, by decide, by decide, fun x hx => by simp at hx; omega, fun x hx => by simp at hx; omega, fun x hx => by simp at hx; omega⟩
theorem oneXY : OneR 0 [0, 1] [1, 1] [0, 0, 1] (-2) [0, 1] [0, 1, 1, 1, 0] [0, 1, 0] :=
  one_of (lo := -6) (hi := 9) (by decide) (by decide) (by decide) (by decide) (by decide) (by decide) (by decide) (by decide) fun i h1 h2 => by
    rcases (by omega : i = -6 ∨ i = -5 ∨ i = -4 ∨ i = -3 ∨ i = -2 ∨ i = -1 ∨ i = 0 ∨ i = 1 ∨ i = 2 ∨ i = 3 ∨ i = 4 ∨ i = 5 ∨ i = 6 ∨ i = 7 ∨ i = 8) with rfl | rfl | rfl | rfl | rfl | rfl | rfl | rfl | rfl | rfl | rfl | rfl | rfl | rfl | rfl <;> decide +kernel
theorem cutX : pieceR 0 [0, 1] [1, 1] [0, 0, 1] (-2) 6 = [0, 1, 1, 1, 0, 0] := by decide +kernel
theorem cut_x (p q s : Option Addr) (c d e : Nat) (w : World) (h : RowV w p q s 2 c 2 d 3 e [0, 1] [1, 1] [0, 0, 1]) :
    Calls Tryd.prog 13 #[.int .i64 2, .agg #[.int .i64 0, .slice p 2 c, .slice q 2 d, .slice s 3 e], .int .i64 (-2), .int .i64 6] w (IntOk w [0, 1, 1, 1, 0, 0]) := by
  have := rCut_ok 2 0 (-2) 6 p q s 2 c 2 d 3 e _ _ _ w h okRwX (by decide) (by decide) (by decide)
  rwa [cutX] at this
theorem same_x (p q s p' q' s' : Option Addr) (c d e c' d' e' : Nat) (w : World) (h : RowV w p q s 2 c 2 d 3 e [0, 1] [1, 1] [0, 0, 1]) (h' : RowV w p' q' s' 2 c' 5 d' 3 e' [0, 1] [0, 1, 1, 1, 0] [0, 1, 0]) :
    Calls Tryd.prog 20 #[.int .i64 2, .agg #[.int .i64 0, .slice p 2 c, .slice q 2 d, .slice s 3 e], .agg #[.int .i64 (-2), .slice p' 2 c', .slice q' 5 d', .slice s' 3 e']] w (Tells (.tuple #[.bool true, .nilIface]) w) :=
  rSame_ok 2 0 (-2) p q s p' q' s' 2 c 2 d 3 e 2 c' 5 d' 3 e' _ _ _ _ _ _ w h h' okRwX okRwY true ⟨fun _ => oneXY, fun _ => rfl⟩
theorem check_x (p q s : Option Addr) (c d e : Nat) (w : World) (A : Nat → Addr) (hr : Roots w A) (h : RowV w p q s 2 c 2 d 3 e [0, 1] [1, 1] [0, 0, 1]) :
    Calls Tryd.prog 16 #[.int .i64 0, .agg #[.int .i64 0, .slice p 2 c, .slice q 2 d, .slice s 3 e]] w (Err1 w A rowOp 0 3) :=
  rrcheck_bad 0 0 p q s 2 c 2 d 3 e _ _ _ w A hr h (by decide) (by decide) (by decide) 0 3 (by decide +kernel)
set_option maxRecDepth 100000 in
set_option maxHeartbeats 8000000 in
theorem awakeRw (w : World) (A : Nat → Addr) (hr : Roots w A) : Calls Tryd.prog 9 #[] w (Tells (.bool true) w) := by
  have HR := Lib.hid hr
  clear hr
  go_enter Tryd.func9, Tryd.ntmps9
  go_upto_region 2 with fail
  obtain ⟨w1, hw1⟩ : ∃ x, x = w.alloc (.cells #[.int .i64 0, .int .i64 1] 3) := ⟨_, rfl⟩
  have S1 := (Si.start w).lit [0, 1] #[.int .i64 0, .int .i64 1] 3 rfl (by decide)
  rw [← hw1] at S1 ⊢
  have hs1 : w1.heap.size = w.heap.size + 1 := by rw [hw1]; simp
  obtain ⟨w2, hw2⟩ : ∃ x, x = w1.alloc (.cells #[.int .i64 1, .int .i64 1] 3) := ⟨_, rfl⟩
  have S2 := S1.lit [1, 1] #[.int .i64 1, .int .i64 1] 3 rfl (by decide)
  rw [← hw2, hs1] at S2
  rw [← hw2]
  have hs2 : w2.heap.size = w.heap.size + 1 + 1 := by rw [hw2]; simp [hs1]
  obtain ⟨w3, hw3⟩ : ∃ x, x = w2.alloc (.cells #[.int .i64 0, .int .i64 0, .int .i64 1] 3) := ⟨_, rfl⟩
  have S3 := S2.lit [0, 0, 1] #[.int .i64 0, .int .i64 0, .int .i64 1] 3 rfl (by decide)
  rw [← hw3, hs2] at S3
  rw [← hw3]
  have hs3 : w3.heap.size = w.heap.size + 1 + 1 + 1 := by rw [hw3]; simp [hs2]
  obtain ⟨w4, hw4⟩ : ∃ x, x = w3.alloc (.cells #[.int .i64 0, .slice (some ⟨w.heap.size, 0, none⟩) 2 2, .slice (some ⟨w.heap.size + 1, 0, none⟩) 2 2, .slice (some ⟨w.heap.size + 1 + 1, 0, none⟩) 3 3] 24) := ⟨_, rfl⟩
  obtain ⟨hb4, hE4⟩ := box_row w3 _ _ _ _ w4 hw4
  rw [← hw4]
  rw [hs3] at hE4
  have S4 := Lib.hid (And.intro (S3.next hb4) hE4)
  obtain ⟨hc0, hc1, hc2, hc3⟩ := hE4.facts
  clear hw1 S1 hw2 S2 hw3 S3 hw4 hb4 hE4 hs1 hs2 hs3
  have hV : ∀ wx : World, Below w4.heap.size w4 wx → RowV wx (some ⟨w.heap.size, 0, none⟩) (some ⟨w.heap.size + 1, 0, none⟩) (some ⟨w.heap.size + 1 + 1, 0, none⟩) 2 2 2 2 3 3 [0, 1] [1, 1] [0, 0, 1] := fun wx hb => ⟨rfl, rfl, rfl, (S4.out.1.get 2 rfl).next hb, (S4.out.1.get 1 rfl).next hb, (S4.out.1.get 0 rfl).next hb⟩
  have HV := Lib.hid hV
  clear hV
  go_wp2_with fail
  refine (cut_x _ _ _ _ _ _ w4 (HV.out w4 (Below.refl _ _))).mono ?_
  rintro e' w5 ⟨p5, c5, rfl, ho5, hb5⟩
  have S5 := Lib.hid (And.intro ((Si.start w4).next hb5 |>.push ho5.toV) (S4.out.2.next hb5))
  have HV5 := Lib.hid (HV.out w5 hb5)
  have HB5 := Lib.hid (S4.out.1.next hb5).below
  clear ho5 hb5 hc0 hc1 hc2 hc3
  obtain ⟨hc0, hc1, hc2, hc3⟩ := S5.out.2.facts
  go_wp2_with fail
  have S6 := Lib.hid (((S5.out.1.lit [0, 1] #[.int .i64 0, .int .i64 1] 3 rfl (by decide)).lit [0, 1, 1, 1, 0] #[.int .i64 0, .int .i64 1, .int .i64 1, .int .i64 1, .int .i64 0] 3 rfl (by decide)).lit [0, 1, 0] #[.int .i64 0, .int .i64 1, .int .i64 0] 3 rfl (by decide))
  have hbx := ((((Below.refl w5.heap.size w5).alloc (Nat.le_refl _) (.cells #[.int .i64 0, .int .i64 1] 3)).alloc (by simp) (.cells #[.int .i64 0, .int .i64 1, .int .i64 1, .int .i64 1, .int .i64 0] 3)).alloc (by simp; omega) (.cells #[.int .i64 0, .int .i64 1, .int .i64 0] 3))
  have HB6 := Lib.hid hbx
  clear hbx
  refine (same_x _ _ _ _ _ _ _ _ _ _ _ _ _ (HV5.out.next HB6.out) ⟨rfl, rfl, rfl, by first | exact S6.out.get 2 rfl | (have h := S6.out.get 2 rfl; simpa using h), by first | exact S6.out.get 1 rfl | (have h := S6.out.get 1 rfl; simpa using h), by first | exact S6.out.get 0 rfl | (have h := S6.out.get 0 rfl; simpa using h)⟩).mono ?_
  rintro e' w7 ⟨rfl, hb7⟩
  have hb57 := HB6.out.trans (hb7.mono HB6.out.size)
  have S7 := Lib.hid (And.intro (S5.out.1.next hb57) (And.intro (S5.out.2.next hb57) (And.intro (HV5.out.next hb57) (HB5.out.trans (hb57.mono HB5.out.size)))))
  clear hb7 hb57 hc0 hc1 hc2 hc3 S6 HB6
  go_wp2_with fail
  have S8 := Lib.hid (S7.out.1.lit [0, 1, 1, 1, 0, 0] #[.int .i64 0, .int .i64 1, .int .i64 1, .int .i64 1, .int .i64 0, .int .i64 0] 3 rfl (by decide))
  refine (ints_any _ _ _ _ _ _ [0, 1, 1, 1, 0, 0] [0, 1, 1, 1, 0, 0] _ rfl rfl (S8.out.get 1 rfl) (S8.out.get 0 rfl)).mono ?_
  rintro e' w9 ⟨rfl, hb9⟩
  rw [sameI_self]
  have hbx := ((Below.refl w7.heap.size w7).alloc (Nat.le_refl _) (.cells #[.int .i64 0, .int .i64 1, .int .i64 1, .int .i64 1, .int .i64 0, .int .i64 0] 3))
  have hb79 := hbx.trans (hb9.mono hbx.size)
  have S9 := Lib.hid (And.intro (S7.out.2.1.next hb79) (And.intro (S7.out.2.2.1.next hb79) (S7.out.2.2.2.trans (hb79.mono S7.out.2.2.2.size))))
  clear hb9 hbx hb79 S8
  obtain ⟨hc0, hc1, hc2, hc3⟩ := S9.out.1.facts
  go_wp2_with fail
  refine (check_x _ _ _ _ _ _ w9 A (HR.out.below S9.out.2.2) S9.out.2.1).mono ?_
  rintro e' wa ⟨b, rfl, _, hba⟩
  have HZ := Lib.hid (S9.out.2.2.trans (hba.mono S9.out.2.2.size))
  clear hba hc0 hc1 hc2 hc3
  go_wp2_with fail
  go_ret
  exact ⟨rfl, HZ.out⟩
/-! ### a row that comes in -/
theorem cellsRow4 : Tryd.prog.cellsOf 24 = 4 := by kernel_rfl
set_option maxRecDepth 100000 in
/-- its lists' lengths are in reach -/
theorem open_row {H : Type} {enc : TypeId × Value → H} {W : World} {v : Value} {d : DataW H} {p : List MemPlace} {r : Reach} {b0 : Nat} (hv : Value.okWide Tryd.prog W r b0 24 v)
    (h : DataW.Trod enc Tryd.prog W 0 (fun _ => true) true 24 v d p) (hlt : ∀ x ∈ p, x.block < W.heap.size) (hw : ∀ x ∈ d.weights Tryd.prog 24, x ≤ reachBytes) :
    ∃ (a : Int) (p q s : Option Addr) (c d e : Nat) (L C R : List Int), v = .agg #[.int .i64 a, .slice p L.length c, .slice q C.length d, .slice s R.length e] ∧ RowV W p q s L.length c C.length d R.length e L C R ∧ L.length ≤ 17592186043904 ∧ C.length ≤ 17592186043904 ∧ R.length ≤ 17592186043904 ∧ -9223372036854775808 ≤ a ∧ a ≤ 9223372036854775807 := by
  obtain ⟨v0, v1, v2, v3, y0, y1, y2, y3, n, rfl, rfl, rfl, h0, h1, h2, h3⟩ := Go.Joins.open_agg4 Tryd.underlying24 (by kernel_rfl) cellsRow4 hv h
  obtain ⟨a, rfl, ha⟩ := fld_int h0
  have hws : ∀ (i : Nat) (y : DataW H × List MemPlace), ([y0.1, y1.1, y2.1, y3.1] : List (DataW H))[i]? = some y.1 → ([3, 22, 22, 22] : List TypeId)[i]? = some 22 → ∀ x ∈ y.1.weights Tryd.prog 22, x ≤ reachBytes := fun i y hy hi x hx => hw x (by
    unfold DataW.weights
    rw [Tryd.underlying24]
    exact weights_get _ _ i _ _ hi hy x hx)
  obtain ⟨p, c, L, rfl, g1, _, l1⟩ := fld_ints h1 (fun x hx => hlt x (by simp [hx])) (hws 1 y1 rfl rfl)
  obtain ⟨q, d, C, rfl, g2, _, l2⟩ := fld_ints h2 (fun x hx => hlt x (by simp [hx])) (hws 2 y2 rfl rfl)
  obtain ⟨s, e, R, rfl, g3, _, l3⟩ := fld_ints h3 (fun x hx => hlt x (by simp [hx])) (hws 3 y3 rfl rfl)
  exact ⟨a, p, q, s, c, d, e, L, C, R, rfl, ⟨rfl, rfl, rfl, g1, g2, g3⟩, l1, l2, l3, ha⟩
end Go.Proofs.YtfgoflaeclfggaaDoor
end
section
namespace Go.Proofs.YtfgoflaeclfggaaDoor
open Go.RowKit Go.Extern.Stop Go.Stop Go.Extern WordM RuleM

theorem Kq.start (w : World) : Kq w w w.heap.size [] [] :=
  ⟨Below.refl _ _, fun i x h => by simp at h, fun i j x y h => by simp at h, Nat.le_refl _, Nat.le_refl _, fun i e h => by simp at h, fun i j e f _ h => by simp at h⟩
/-- a new row, and no error: the lengths by letters -/
def RowOkN (w : World) (b : Int) (n m u : Nat) (U V W : List Int) (e : Ending) (w' : World) : Prop :=
  ∃ p1 c1 p2 c2 p3 c3 s1 s2, e = .returned (.tuple #[.agg #[.int .i64 b, .slice p1 n c1, .slice p2 m c2, .slice p3 u c3], .nilIface]) ∧
    IntO w.heap.size w' p1 c1 U ∧ IntO s1 w' p2 c2 V ∧ IntO s2 w' p3 c3 W ∧ w.heap.size ≤ s1 ∧ s1 ≤ s2 ∧ s2 ≤ w'.heap.size ∧
    (∀ k, (Sl.val (p1, c1, U)).ownBlock = some k → k < s1) ∧ (∀ k, (Sl.val (p2, c2, V)).ownBlock = some k → k < s2) ∧ Below w.heap.size w w'
theorem RowOk.lens {w w' : World} {b : Int} {n m u : Nat} {U V W : List Int} {e : Ending} (h : RowOk w b U V W e w') (h1 : U.length = n) (h2 : V.length = m) (h3 : W.length = u) : RowOkN w b n m u U V W e w' := by
  subst h1 h2 h3
  exact h
theorem Kq.push3 {w wx w' : World} {B : Nat} {Ls : List (Nat × List Int)} {Lo : List MkI} (K : Kq w wx B Ls Lo) (hb : Below wx.heap.size wx w') {p1 p2 p3 : Option Addr} {c1 c2 c3 s1 s2 : Nat} {U V W : List Int}
    (o1 : IntO wx.heap.size w' p1 c1 U) (o2 : IntO s1 w' p2 c2 V) (o3 : IntO s2 w' p3 c3 W) (h1 : wx.heap.size ≤ s1) (h2 : s1 ≤ s2) (h3 : s2 ≤ w'.heap.size)
    (k1 : ∀ k, (Sl.val (p1, c1, U)).ownBlock = some k → k < s1) (k2 : ∀ k, (Sl.val (p2, c2, V)).ownBlock = some k → k < s2) :
    Kq w w' B Ls (((p3, c3, W), s2, w'.heap.size) :: ((p2, c2, V), s1, s2) :: ((p1, c1, U), wx.heap.size, s1) :: Lo) := by
  have K' := K.next hb
  have hB := K.base
  refine ⟨K'.below, K'.lent, K'.nd, K'.base, K'.low, fun i e he => ?_, fun i j e f hij he hf => ?_⟩
  · rcases i with _ | _ | _ | i
    · obtain rfl := Option.some.inj he
      exact ⟨o3, by show B ≤ s2; omega, fun k hk => (o3.lt k hk).2, Nat.le_refl _⟩
    · obtain rfl := Option.some.inj he
      exact ⟨o2, by show B ≤ s1; omega, k2, h3⟩
    · obtain rfl := Option.some.inj he
      exact ⟨o1, hB, k1, by show s1 ≤ _; omega⟩
    · exact K'.own i e he
  · have hold : ∀ (j : Nat) (f : MkI), Lo[j]? = some f → f.2.2 ≤ wx.heap.size := fun j f hf => (K.own j f hf).2.2.2
    rcases j with _ | _ | _ | j
    · omega
    · obtain rfl : i = 0 := by omega
      obtain rfl := Option.some.inj he
      obtain rfl := Option.some.inj hf
      exact Nat.le_refl s2
    · obtain rfl := Option.some.inj hf
      rcases i with _ | _ | i
      · obtain rfl := Option.some.inj he
        exact h2
      · obtain rfl := Option.some.inj he
        exact Nat.le_refl s1
      · omega
    · have h4 := hold j f hf
      rcases i with _ | _ | _ | i
      · obtain rfl := Option.some.inj he
        show _ ≤ s2; omega
      · obtain rfl := Option.some.inj he
        show _ ≤ s1; omega
      · obtain rfl := Option.some.inj he
        exact h4
      · exact K'.apart i j e f (by omega) he hf
theorem piece_core (a : Int) (L C R : List Int) : pieceR a L C R a C.length = C := by
  apply List.ext_getElem?
  intro j
  by_cases hj : j < C.length
  · rw [pieceR_get hj]
    unfold rwAt
    rw [if_neg (by omega), if_pos (by omega), show (a + (j : Int) - a).toNat = j by omega]
    exact (ent_get hj).symm
  · rw [List.getElem?_eq_none (by rw [pieceR_length]; omega), List.getElem?_eq_none (by omega)]

set_option maxRecDepth 100000 in
set_option maxHeartbeats 8000000 in
theorem rows_same (a : Int) (p q s p' q' s' : Option Addr) (n c m d u e c' d' e' : Nat) (L C R : List Int) (w : World) (h : RowV w p q s n c m d u e L C R) (h' : RowV w p' q' s' n c' m d' u e' L C R) :
    Calls Tryd.prog 26 #[.agg #[.int .i64 a, .slice p n c, .slice q m d, .slice s u e], .agg #[.int .i64 a, .slice p' n c', .slice q' m d', .slice s' u e']] w (Tells (.bool true) w) := by
  have hI : ∀ (W : World) (x y : Option Addr) (z f k : Nat) (l : List Int), k = l.length → IntV W.heap.size W x z l → IntV W.heap.size W y f l → Calls Tryd.prog 18 #[.slice x k z, .slice y k f] W (Tells (.bool true) W) := fun W x y z f k l hk h1 h2 => by
    have := ints_any x y k k z f l l W hk hk h1 h2
    rwa [sameI_self] at this
  have HI := Lib.hid (And.intro (fun W h h' => hI W p p' c c' n L h h') (And.intro (fun W h h' => hI W q q' d d' m C h h') (fun W h h' => hI W s s' e e' u R h h')))
  have H := Lib.hid (And.intro h h')
  have HL := Lib.hid (And.intro h.hn (And.intro h.hm h.hu))
  clear h h' hI
  go_enter Tryd.func26, Tryd.ntmps26
  go_upto_region 1 with fail
  obtain ⟨w0, hw0⟩ : ∃ w0, w0 = (w.alloc (.cells #[.int .i64 a, .slice p n c, .slice q m d, .slice s u e] 24)).alloc (.cells #[.int .i64 a, .slice p' n c', .slice q' m d', .slice s' u e'] 24) := ⟨_, rfl⟩
  rw [← hw0]
  obtain ⟨hb0, hE0, hF0⟩ := two_rows w _ _ _ _ _ _ _ _ w0 hw0
  have HE := Lib.hid (And.intro hE0 (And.intro hF0 hb0))
  obtain ⟨hc0, hc1, hc2, hc3⟩ := hE0.facts
  obtain ⟨hd0, hd1, hd2, hd3⟩ := hF0.facts
  clear hw0 hE0 hF0 hb0
  go_wp2_with fail
  refine (HI.out.1 w0 HL.out.1 (H.out.1.l.next HE.out.2.2) (H.out.2.l.next HE.out.2.2)).mono ?_
  rintro e' w1 ⟨rfl, hb1⟩
  have H1 := Lib.hid (And.intro (HE.out.1.next hb1) (And.intro (HE.out.2.1.next hb1) (HE.out.2.2.trans (hb1.mono HE.out.2.2.size))))
  clear hb1 hc0 hc1 hc2 hc3 hd0 hd1 hd2 hd3
  obtain ⟨hc0, hc1, hc2, hc3⟩ := H1.out.1.facts
  obtain ⟨hd0, hd1, hd2, hd3⟩ := H1.out.2.1.facts
  go_wp2_with fail
  refine (HI.out.2.1 w1 HL.out.2.1 (H.out.1.c.next H1.out.2.2) (H.out.2.c.next H1.out.2.2)).mono ?_
  rintro e' w2 ⟨rfl, hb1⟩
  have H2 := Lib.hid (And.intro (H1.out.1.next hb1) (And.intro (H1.out.2.1.next hb1) (H1.out.2.2.trans (hb1.mono H1.out.2.2.size))))
  clear hb1 hc0 hc1 hc2 hc3 hd0 hd1 hd2 hd3
  obtain ⟨hc0, hc1, hc2, hc3⟩ := H2.out.1.facts
  obtain ⟨hd0, hd1, hd2, hd3⟩ := H2.out.2.1.facts
  go_wp2_with fail
  refine (HI.out.2.2 w2 HL.out.2.2 (H.out.1.r.next H2.out.2.2) (H.out.2.r.next H2.out.2.2)).mono ?_
  rintro e' w3 ⟨rfl, hb1⟩
  have H3 := Lib.hid (H2.out.2.2.trans (hb1.mono H2.out.2.2.size))
  clear hb1 hc0 hc1 hc2 hc3 hd0 hd1 hd2 hd3
  go_wp2_with fail
  go_ret
  exact ⟨rfl, H3.out⟩
end Go.Proofs.YtfgoflaeclfggaaDoor
end
section
namespace Go.Proofs.YtfgoflaeclfggaaDoor
open Go.RowKit Go.Extern.Stop Go.Stop Go.Extern WordM RuleM

/-- the faults of so many steps -/
def chkA (k r : Int) (t l : List Int) (z : Int) : Option (List (ByteArray × Int) × Nat) := match chkG k r t l with
  | some y => some y
  | none => if z < 0 then some ([(ringOp, 1)], 3) else if ((262144 / l.length : Nat) : Int) < z then some ([(ringOp, 1)], 4) else none
theorem chkA_num {k r : Int} {t l : List Int} {z : Int} : ∀ y, chkA k r t l z = some y → 1 ≤ y.2 ∧ y.2 ≤ 11 := fun y h => by
  unfold chkA at h
  cases hk : chkG k r t l with
  | some x => rw [hk] at h; obtain rfl := Option.some.inj h; exact chkG_num _ hk
  | none =>
    rw [hk] at h
    simp only at h
    split at h
    · obtain rfl := Option.some.inj h; simp
    · split at h
      · obtain rfl := Option.some.inj h; simp
      · cases h
theorem chkA_none {k r : Int} {t l : List Int} {z : Int} (h : chkA k r t l z = none) : chkG k r t l = none ∧ ∃ N : Nat, z = N ∧ N ≤ 262144 / l.length := by
  unfold chkA at h
  cases hk : chkG k r t l with
  | some x => rw [hk] at h; cases h
  | none =>
    rw [hk] at h
    simp only at h
    split at h
    · cases h
    · split at h
      · cases h
      · exact ⟨rfl, z.toNat, by omega, by omega⟩
set_option maxRecDepth 100000 in
set_option maxHeartbeats 4000000 in
theorem gStep_ok (K R : Nat) (p q : Option Addr) (n c m d : Nat) (t l : List Int) (w : World) (hn : n = t.length) (hm : m = l.length) (h : IntV w.heap.size w p c t) (h' : IntV w.heap.size w q d l) (ho : OkR K R t) (h0 : 0 < l.length) (h4 : l.length ≤ 4096) (hw : okW K l) :
    Calls Tryd.prog 29 #[.agg #[.int .i64 (K : Int), .int .i64 (R : Int), .slice p n c], .slice q m d] w (IntOk w (ringW K R t l)) := by
  have ST := Lib.hid (box_rule w (.int .i64 (K : Int)) (.int .i64 (R : Int)) (.slice p n c))
  have H := Lib.hid (And.intro hn (And.intro hm (And.intro h (And.intro h' (And.intro ho (And.intro h0 (And.intro h4 hw)))))))
  clear hn hm h h' ho h0 h4 hw
  go_enter Tryd.func29, Tryd.ntmps29
  go_upto_region 1 with fail
  obtain ⟨w0, hw0⟩ : ∃ w0, w0 = w.alloc (.cells #[.int .i64 (K : Int), .int .i64 (R : Int), .slice p n c] 53) := ⟨_, rfl⟩
  rw [← hw0]
  obtain ⟨hb0, hE0⟩ := ST.out w0 hw0
  have HE := Lib.hid (And.intro hE0 hb0)
  obtain ⟨_, hc0, hc1, hc2⟩ := hE0.facts
  clear hw0 hE0 hb0
  go_wp2_with fail
  refine (gcheck_ok K R p q n c m d t l w0 H.out.1 H.out.2.1 (H.out.2.2.1.next HE.out.2) (H.out.2.2.2.1.next HE.out.2) H.out.2.2.2.2.1 H.out.2.2.2.2.2.1 H.out.2.2.2.2.2.2.1 H.out.2.2.2.2.2.2.2).mono ?_
  rintro e w1 ⟨rfl, hb1⟩
  have H1 := Lib.hid (And.intro (HE.out.2.trans (hb1.mono HE.out.2.size)) (HE.out.1.next hb1))
  clear hb1 hc0 hc1 hc2
  obtain ⟨_, hc0, hc1, hc2⟩ := H1.out.2.facts
  go_wp2_with fail
  refine (gstep_ok K R p q n c m d t l w1 H.out.1 H.out.2.1 (H.out.2.2.1.next H1.out.1) (H.out.2.2.2.1.next H1.out.1) H.out.2.2.2.2.1 (by have := H.out.2.1; have := H.out.2.2.2.2.2.1; omega) (by have := H.out.2.1; have := H.out.2.2.2.2.2.2.1; omega) H.out.2.2.2.2.2.2.2).mono ?_
  rintro e w2 ⟨p2, c2, rfl, ho2, hb2⟩
  have H2 := Lib.hid (And.intro (ho2.base H1.out.1.size) (H1.out.1.trans (hb2.mono H1.out.1.size)))
  clear ho2 hb2 hc0 hc1 hc2
  obtain ⟨u, hu⟩ : ∃ u, (ringW K R t l).length = u := ⟨_, rfl⟩
  rw [hu]
  have HU := Lib.hid hu
  clear hu
  go_wp2_with fail
  go_ret2
  exact ⟨p2, c2, by rw [HU.out]; rfl, H2.out.1, H2.out.2⟩
set_option maxRecDepth 100000 in
set_option maxHeartbeats 4000000 in
theorem gStep_bad (k r : Int) (p q : Option Addr) (n c m d : Nat) (t l : List Int) (w : World) (A : Nat → Addr) (hr : Roots w A) (hT : TypeVar w) (hn : n = t.length) (hm : m = l.length) (h : IntV w.heap.size w p c t) (h' : IntV w.heap.size w q d l) (L : List (ByteArray × Int)) (M : Nat) (hc : chkG k r t l = some (L, M)) :
    Calls Tryd.prog 29 #[.agg #[.int .i64 k, .int .i64 r, .slice p n c], .slice q m d] w (FErr2 w A L M (.slice none 0 0)) := by
  have ST := Lib.hid (box_rule w (.int .i64 k) (.int .i64 r) (.slice p n c))
  have H := Lib.hid (And.intro hn (And.intro hm (And.intro h (And.intro h' (And.intro hr (And.intro hT hc))))))
  clear hn hm h h' hr hT hc
  go_enter Tryd.func29, Tryd.ntmps29
  go_upto_region 1 with fail
  obtain ⟨w0, hw0⟩ : ∃ w0, w0 = w.alloc (.cells #[.int .i64 k, .int .i64 r, .slice p n c] 53) := ⟨_, rfl⟩
  rw [← hw0]
  obtain ⟨hb0, hE0⟩ := ST.out w0 hw0
  have HE := Lib.hid (And.intro hE0 hb0)
  obtain ⟨_, hc0, hc1, hc2⟩ := hE0.facts
  clear hw0 hE0 hb0
  go_wp2_with fail
  refine (gcheck_bad k r p q n c m d t l w0 A (H.out.2.2.2.2.1.below HE.out.2) (H.out.2.2.2.2.2.1.below HE.out.2) H.out.1 H.out.2.1 (H.out.2.2.1.next HE.out.2) (H.out.2.2.2.1.next HE.out.2) L M H.out.2.2.2.2.2.2).mono ?_
  rintro e w1 ⟨b, rfl, hl, hb1⟩
  have H1 := Lib.hid (And.intro hl (HE.out.2.trans (hb1.mono HE.out.2.size)))
  clear hb1 hc0 hc1 hc2 hl
  go_wp2_with fail
  go_ret2
  exact ⟨b, rfl, H1.out.1, H1.out.2⟩
end Go.Proofs.YtfgoflaeclfggaaDoor
end
section
namespace Go.Proofs.YtfgoflaeclfggaaDoor
open Go.RowKit Go.Extern WordM NatM

/-- an Err of package word: its number k at place pl -/
def RefErrW (w : World) (pl k : Int) (v : Value) (w' : World) : Prop :=
  ∃ g g', v = .agg #[.int .i64 k, .slice (some ⟨g, 0, none⟩) 1 1, .slice (some ⟨g', 0, none⟩) 1 1] ∧ (w.heap.size ≤ g ∧ w.heap.size ≤ g') ∧ WantV w' (some ⟨g, 0, none⟩) (some ⟨g', 0, none⟩) 1 1 [(wordOp, pl)] ∧ Below w.heap.size w w'
theorem WantV.put3 {w : World} {g g' h : Nat} {op : ByteArray} {pl : Int} (hv : WantV w (some ⟨g, 0, none⟩) (some ⟨g', 0, none⟩) 1 1 [(op, pl)]) (hg : g ≠ h) (hg' : g' ≠ h) (a b c : Value) : WantV (put3 w h a b c) (some ⟨g, 0, none⟩) (some ⟨g', 0, none⟩) 1 1 [(op, pl)] := by
  obtain ⟨b1, o1, e1, l1, c1⟩ := hv.ops (by simp)
  obtain ⟨b2, o2, e2, l2, c2⟩ := hv.ats (by simp)
  obtain ⟨rfl, rfl⟩ : g = b1 ∧ 0 = o1 := by simpa using e1
  obtain ⟨rfl, rfl⟩ : g' = b2 ∧ 0 = o2 := by simpa using e2
  exact WantV.one (by rw [put3_size]; exact l1) (by rw [put3_size]; exact l2) ((put3_cell w h a b c _ hg).trans (c1 0 _ rfl)) ((put3_cell w h a b c _ hg').trans (c2 0 _ rfl))
def RefErrW1 (w : World) (pl k : Int) (e : Ending) (w' : World) : Prop := ∃ v, e = .returned v ∧ RefErrW w pl k v w'
/-- refused: the zero value v0, and the error -/
def RefErrW2 (w : World) (v0 : Value) (pl k : Int) (e : Ending) (w' : World) : Prop := ∃ v, e = .returned (.tuple #[v0, v]) ∧ RefErrW w pl k v w'


end Go.Proofs.YtfgoflaeclfggaaDoor
end
section
namespace Go.Proofs.YtfgoflaeclfggaaDoor
open Go.RowKit Go.Extern.Stop Go.Stop Go.Extern WordM RuleM NatM
attribute [local go_sem ↓] Go.wp_at_zero Go.wp_at_succ

/-- an Err of package rule: its number k at place pl; its two slices are new -/
def RefErrR (w : World) (pl k : Int) (v : Value) (w' : World) : Prop :=
  ∃ g g', v = .agg #[.int .i64 k, .slice (some ⟨g, 0, none⟩) 1 1, .slice (some ⟨g', 0, none⟩) 1 1] ∧ (w.heap.size ≤ g ∧ w.heap.size ≤ g') ∧ WantV w' (some ⟨g, 0, none⟩) (some ⟨g', 0, none⟩) 1 1 [(ruleOp, pl)] ∧ Below w.heap.size w w'
def RefErrR1 (w : World) (pl k : Int) (e : Ending) (w' : World) : Prop := ∃ v, e = .returned v ∧ RefErrR w pl k v w'
/-- refused: the zero value v0, and the error -/
def RefErrR2 (w : World) (v0 : Value) (pl k : Int) (e : Ending) (w' : World) : Prop := ∃ v, e = .returned (.tuple #[v0, v]) ∧ RefErrR w pl k v w'
theorem RefErrR.laid {w wx w2 : World} {h g g' : Nat} {pl k : Int} (hb : Below w.heap.size w wx) (hh : w.heap.size ≤ h) (hlt : h < wx.heap.size) (hg : wx.heap.size ≤ g ∧ g < w2.heap.size ∧ wx.heap.size ≤ g' ∧ g' < w2.heap.size)
    (hc : w2.cell? ⟨g, 0, none⟩ = some (.string ruleOp)) (hc' : w2.cell? ⟨g', 0, none⟩ = some (.int .i64 pl)) (hb2 : Below wx.heap.size wx w2) (a b c : Value) :
    RefErrR w pl k (.agg #[.int .i64 k, .slice (some ⟨g, 0, none⟩) 1 1, .slice (some ⟨g', 0, none⟩) 1 1]) (put3 w2 h a b c) := by
  have hs := hb.size
  refine ⟨g, g', rfl, ⟨by omega, by omega⟩, ?_, put3_below (hb.trans (hb2.mono hs)) hh _ _ _⟩
  exact WantV.put3 (WantV.one hg.2.1 hg.2.2.2 hc hc') (by omega) (by omega) _ _ _
theorem Err3.lt {w : World} {h : Nat} {a b c : Value} (k : Err3 w h a b c) : h < w.heap.size := heap_ltN k.heap
theorem start_err (w w0 : World) (hw0 : w0 = w.alloc (.cells #[.int .i64 0, .slice none 0 0, .slice none 0 0] 33)) : Below w.heap.size w w0 ∧ Err3 w0 w.heap.size (.int .i64 0) (.slice none 0 0) (.slice none 0 0) :=
  ⟨by rw [hw0]; exact (Below.refl _ _).alloc (Nat.le_refl _) _, by rw [hw0]; exact Err3.new w⟩
theorem start_both (w : World) (a b c : Value) (w0 : World) (hw0 : w0 = (w.alloc (.cells #[a, b, c] 53)).alloc (.cells #[.int .i64 0, .slice none 0 0, .slice none 0 0] 33)) :
    Below w.heap.size w w0 ∧ Rul3 w0 w.heap.size a b c ∧ Err3 w0 (w.heap.size + 1) (.int .i64 0) (.slice none 0 0) (.slice none 0 0) := by
  have h1 : Below w.heap.size w (w.alloc (.cells #[a, b, c] 53)) := (Below.refl _ _).alloc (Nat.le_refl _) _
  obtain ⟨h2, h3⟩ := start_err (w.alloc (.cells #[a, b, c] 53)) w0 hw0
  have hs : (w.alloc (.cells #[a, b, c] 53)).heap.size = w.heap.size + 1 := by simp
  rw [hs] at h3
  exact ⟨h1.trans (h2.mono h1.size), (Rul3.new w a b c).next h2, h3⟩

theorem small_pow7 {k j : Nat} (h4 : k ≤ 4) (h : j ≤ 7) : k ^ j ≤ 16384 := Nat.le_trans (Nat.pow_le_pow_left h4 _) (Nat.le_trans (Nat.pow_le_pow_right (by omega) h) (by decide))
set_option maxHeartbeats 1000000 in
theorem power_ref (k n : Nat) (w : World) (h4 : k ≤ 4) (h7 : n ≤ 7) :
    Calls Tryd.prog 67 #[.int .i64 (k : Int), .int .i64 (n : Int)] w fun e w' => e = .returned (.int .i64 ((k ^ n : Nat) : Int)) ∧ w = w' := by
  go_enter Tryd.func67, Tryd.ntmps67
  go_wp2_with fail
  go_loop [5, 6] (fun v5 v6 => ∃ j : Nat, j ≤ n ∧ v6 = .int .i64 (j : Int) ∧ v5 = .int .i64 ((k ^ j : Nat) : Int)) (fun _ v => n - (intOf v).toNat)
  case atStart => exact ⟨0, Nat.zero_le _, rfl, by simp⟩
  case round =>
    obtain ⟨j, hj, rfl, rfl⟩ := hrel
    by_cases hlt : j < n
    · have hs := small_pow7 (j := j) h4 (by omega)
      have hn := Nat.pow_succ k j
      obtain ⟨s, hs'⟩ : ∃ s, k ^ j = s := ⟨_, rfl⟩
      rw [hs'] at hn hs ⊢
      have hsq : s * k ≤ 16384 * 4 := Nat.mul_le_mul hs h4
      have hsm : ((s : Int) * (k : Int)) = ((s * k : Nat) : Int) := by push_cast; rfl
      obtain ⟨u, hu⟩ : ∃ u, s * k = u := ⟨_, rfl⟩
      rw [hu] at hsq hsm hn
      have w2 : IntKind.i64.wrap ((s : Int) * (k : Int)) = (u : Int) := by rw [hsm, IntWalk.i64_in _ (by omega)]
      have HU := Lib.hid hn
      clear hn hs' hsm hu
      go_wp2_with fail
      go_round
      case rel => exact ⟨j + 1, by omega, by go_num, by rw [HU.out]⟩
      case measure => simp [intOf]; omega
    · obtain rfl : j = n := by omega
      go_wp2_with fail
      go_ret
      exact ⟨rfl, rfl⟩

/-- the place of the first number that is none of k symbols; -1, where there is none -/
def badN (k : Int) (l : List Int) : Int := match l.findIdx? (badAt k) with
  | some i => (i : Int)
  | none => -1
theorem badN_ok {k : Nat} {l : List Int} (h : okW k l) : badN k l = -1 := by unfold badN; rw [bad_none.2 h]
theorem badN_bad {k : Int} {l : List Int} {i : Nat} (h : l.findIdx? (badAt k) = some i) : badN k l = (i : Int) := by unfold badN; rw [h]
theorem bad_ref (k : Int) (p : Option Addr) (n c : Nat) (l : List Int) (w : World) (hn : n = l.length) (h : IntV w.heap.size w p c l) :
    Calls Tryd.prog 45 #[.int .i64 k, .slice p n c] w fun e w' => e = .returned (.int .i64 (badN k l)) ∧ w = w' := by
  have hle := h.le
  have hcap := h.cap
  unfold maxLen at hcap
  have hnc : n ≤ c := by omega
  obtain ⟨z, hz⟩ : ∃ z, badN k l = z := ⟨_, rfl⟩
  rw [hz]
  unfold badN at hz
  have hcases : (z = -1 ∧ ∀ (j : Nat) (x : Int), l[j]? = some x → badAt k x = false) ∨ (∃ i : Nat, z = i ∧ i < n ∧ (∃ x : Int, l[i]? = some x ∧ badAt k x = true) ∧ ∀ (j : Nat) (x : Int), j < i → l[j]? = some x → badAt k x = false) := by
    cases hf : l.findIdx? (badAt k) with
    | none =>
      rw [hf] at hz
      left
      refine ⟨hz.symm, fun j x hx => ?_⟩
      rw [List.findIdx?_eq_none_iff] at hf
      exact hf x (List.mem_of_getElem? hx)
    | some i =>
      rw [hf] at hz
      obtain ⟨hil, hbad, hall⟩ := List.findIdx?_eq_some_iff_getElem.1 hf
      right
      refine ⟨i, hz.symm, by omega, ⟨_, List.getElem?_eq_getElem hil, hbad⟩, fun j x hj hx => ?_⟩
      have := hall j hj
      rw [List.getElem?_eq_getElem (by omega)] at hx
      obtain rfl := Option.some.inj hx
      simpa using this
  have H := Lib.hid (And.intro h hn)
  clear h hz hn hle
  rcases hcases with ⟨rfl, hall⟩ | ⟨i, rfl, hin, ⟨xb, hxb, hxb'⟩, hall⟩
  · have HA := Lib.hid hall
    clear hall
    go_enter Tryd.func45, Tryd.ntmps45
    go_wp2_with fail
    go_loop [5] (fun v => ∃ j : Nat, j ≤ n ∧ v = .int .i64 (j : Int)) (fun v => n - (intOf v).toNat)
    case atStart => exact ⟨0, Nat.zero_le _, rfl⟩
    case round =>
      obtain ⟨j, hj, rfl⟩ := hrel
      by_cases hlt : j < n
      · have hnl := H.out.2
        obtain ⟨b, off, rfl, hb, hc⟩ := H.out.1.cell (by rintro rfl; simp at hnl; omega)
        obtain ⟨x, hx⟩ := getI (l := l) (k := j) (by omega)
        have hcx := hc j x hx
        have hg := HA.out j x hx
        unfold badAt at hg
        simp at hg
        have hx1 : ¬ x < 0 := by omega
        have hx2 : ¬ k ≤ x := by omega
        clear hc hx hg hnl
        go_wp2_with fail
        go_round
        case rel => exact ⟨j + 1, by omega, by go_num⟩
        case measure => simp [intOf]; omega
      · obtain rfl : j = n := by omega
        go_wp2_with fail
        go_ret
        exact ⟨rfl, rfl⟩
  · have HA := Lib.hid (And.intro hall (And.intro hxb hxb'))
    clear hall hxb hxb'
    go_enter Tryd.func45, Tryd.ntmps45
    go_wp2_with fail
    go_loop [5] (fun v => ∃ j : Nat, j ≤ i ∧ v = .int .i64 (j : Int)) (fun v => n - (intOf v).toNat)
    case atStart => exact ⟨0, Nat.zero_le _, rfl⟩
    case round =>
      obtain ⟨j, hj, rfl⟩ := hrel
      have hnl := H.out.2
      obtain ⟨b, off, rfl, hb, hc⟩ := H.out.1.cell (by rintro rfl; simp at hnl; omega)
      by_cases hlt : j < i
      · obtain ⟨x, hx⟩ := getI (l := l) (k := j) (by omega)
        have hcx := hc j x hx
        have hg := HA.out.1 j x hlt hx
        unfold badAt at hg
        simp at hg
        have hx1 : ¬ x < 0 := by omega
        have hx2 : ¬ k ≤ x := by omega
        clear hc hx hg hnl
        go_wp2_with fail
        go_round
        case rel => exact ⟨j + 1, by omega, by go_num⟩
        case measure => simp [intOf]; omega
      · obtain rfl : j = i := by omega
        have hcx := hc j xb HA.out.2.1
        have hg := HA.out.2.2
        unfold badAt at hg
        simp at hg
        clear hc hnl
        rcases Int.lt_or_le xb 0 with hx1 | hx1
        · clear hg
          go_wp2_with fail
          go_ret
          exact ⟨rfl, rfl⟩
        · have hx2 : k ≤ xb := by omega
          have hx3 : ¬ xb < 0 := by omega
          clear hg
          go_wp2_with fail
          go_ret
          exact ⟨rfl, rfl⟩

/-- how many windows, and no error -/
def SizeRef (w : World) (n : Nat) (e : Ending) (w' : World) : Prop := e = .returned (.tuple #[.int .i64 (n : Int), noErr]) ∧ Below w.heap.size w w'
end Go.Proofs.YtfgoflaeclfggaaDoor
end
section
namespace Go.Proofs.YtfgoflaeclfggaaDoor
open Go.RowKit Go.Extern.Stop Go.Stop Go.Extern WordM RuleM NatM
attribute [local go_sem ↓] Go.wp_at_zero Go.wp_at_succ

set_option maxRecDepth 100000 in
set_option maxHeartbeats 4000000 in
theorem rcheck_ref_ok (K R : Nat) (p : Option Addr) (n c : Nat) (t : List Int) (w : World) (hn : n = t.length) (h : IntV w.heap.size w p c t) (ho : OkR K R t) :
    Calls Tryd.prog 54 #[.agg #[.int .i64 (K : Int), .int .i64 (R : Int), .slice p n c]] w (Tells noErr w) := by
  have h1 := ho.k1
  have h4 := ho.k4
  have h3 := ho.r3
  have hk1 : ¬ (K : Int) < 1 := by omega
  have hk4 : ¬ (4 : Int) < K := by omega
  have hr3 : ¬ (3 : Int) < R := by omega
  obtain ⟨R2, hR2⟩ : ∃ R2 : Nat, 2 * R = R2 := ⟨_, rfl⟩
  obtain ⟨M, hM⟩ : ∃ M : Nat, R2 + 1 = M := ⟨_, rfl⟩
  have hpw := fun W => power_ref K M W h4 (by omega)
  have hKM : K ^ M = n := by rw [← hM, ← hR2, ← ho.len, hn]
  simp only [hKM] at hpw
  have hcap := h.cap
  have hle := h.le
  unfold maxLen at hcap
  have hn63 : n ≤ 9223372036854775807 := by omega
  have w2r : IntKind.i64.wrap (2 * (R : Int)) = (R2 : Int) := by rw [IntWalk.i64_in _ (by omega)]; omega
  have wR : IntKind.i64.wrap ((R2 : Int) + 1) = (M : Int) := by rw [IntWalk.i64_in _ (by omega)]; omega
  have HP := Lib.hid hpw
  have hbn := badN_ok ho.ok
  have H := Lib.hid (And.intro h (And.intro hn hbn))
  clear hpw h hn ho hKM hbn hM hR2 hcap hle

  go_enter Tryd.func54, Tryd.ntmps54
  go_upto_region 1 with fail
  obtain ⟨w0, hw0⟩ : ∃ w0, w0 = (w.alloc (.cells #[.int .i64 (K : Int), .int .i64 (R : Int), .slice p n c] 53)).alloc (.cells #[.int .i64 0, .slice none 0 0, .slice none 0 0] 33) := ⟨_, rfl⟩
  obtain ⟨hb0, hR0, hE0⟩ := start_both w _ _ _ w0 hw0
  rw [← hw0]
  have hszb : (w.alloc (.cells #[.int .i64 (K : Int), .int .i64 (R : Int), .slice p n c] 53)).heap.size = w.heap.size + 1 := by simp
  obtain ⟨_, hr0, hr1, hr2⟩ := hR0.facts
  have HE := Lib.hid (And.intro hR0 (And.intro hE0 hb0))
  clear hw0 hR0 hE0 hb0
  go_wp2_with fail
  have hd0 : Below w0.heap.size w0 w0.drew := (Below.refl _ _).drew
  have hxA : ∀ wx : World, Below w0.heap.size w0 wx → wx.cell? ⟨w.heap.size, 0, none⟩ = some (.int .i64 (K : Int)) := fun wx hbx => (HE.out.1.next hbx).facts.2.1
  have hxB : ∀ wx : World, Below w0.heap.size w0 wx → wx.cell? ⟨w.heap.size, 1, none⟩ = some (.int .i64 (R : Int)) := fun wx hbx => (HE.out.1.next hbx).facts.2.2.1
  have hxC : ∀ wx : World, Below w0.heap.size w0 wx → wx.cell? ⟨w.heap.size, 2, none⟩ = some (.slice p n c) := fun wx hbx => (HE.out.1.next hbx).facts.2.2.2
  go_region_held3 (fun w' => w'.cell? ⟨w.heap.size, 0, none⟩ = some (.int .i64 (K : Int)) ∧ w'.cell? ⟨w.heap.size, 1, none⟩ = some (.int .i64 (R : Int)) ∧ w'.cell? ⟨w.heap.size, 2, none⟩ = some (.slice p n c)) (first | exact ⟨hxA _ hd0, hxB _ hd0, hxC _ hd0⟩ | go_keep) (first
    | (go_at_call 67; refine (HP.out _).mono ?_; rintro e w9 ⟨rfl, rfl⟩))
  all_goals
    obtain ⟨wd, hwd⟩ : ∃ x, x = w0.drew := ⟨_, rfl⟩
    rw [← hwd]
    have hdr : Err3 wd (w.heap.size + 1) (.int .i64 0) (.slice none 0 0) (.slice none 0 0) := by rw [hwd]; exact HE.out.2.1.next hd0
    have hbd : Below w.heap.size w wd := by rw [hwd]; exact HE.out.2.2.trans (hd0.mono HE.out.2.2.size)
    have hxd : Rul3 wd w.heap.size (.int .i64 (K : Int)) (.int .i64 (R : Int)) (.slice p n c) := by rw [hwd]; exact HE.out.1.next hd0
    clear hr0 hr1 hr2
    obtain ⟨_, hr0, hr1, hr2⟩ := hxd.facts
    have HD := Lib.hid (And.intro hdr (And.intro hbd hxd))
    clear hdr hbd hxd hxA hxB hxC hd0 hwd
    go_wp2_with fail
    refine (bad_ref (K : Int) p n c t wd H.out.2.1 (H.out.1.next HD.out.2.1)).mono ?_
    rintro e w1 ⟨rfl, rfl⟩
    rw [H.out.2.2]
    obtain ⟨⟨hf0, hf1, hf2⟩, hc0, hc1, hc2⟩ := HD.out.1.facts
    go_wp2_with fail
    refine bodyPost_ret (v := noErr) (by simp [results, Tryd.results54, go_sem, hc0, hc1, hc2, noErr]) rfl ⟨rfl, ?_⟩
    exact put3_below HD.out.2.1 (Nat.le_succ _) _ _ _

set_option maxRecDepth 100000 in
set_option maxHeartbeats 8000000 in
theorem rcheck_ref_bad (k r : Int) (p : Option Addr) (n c : Nat) (t : List Int) (w : World) (hn : n = t.length) (h : IntV w.heap.size w p c t) (i : Nat) (hc : chkR k r t = some i) :
    Calls Tryd.prog 54 #[.agg #[.int .i64 k, .int .i64 r, .slice p n c]] w (RefErrR1 w i 1) := by
  have hcap := h.cap
  have hle := h.le
  unfold maxLen at hcap
  have hn63 : n ≤ 9223372036854775807 := by omega
  clear hcap hle
  unfold chkR at hc
  split at hc
  · obtain rfl := Option.some.inj hc
    rename_i hk
    clear h hn hc
    rcases (by omega : k < 1 ∨ (¬ k < 1 ∧ 4 < k)) with h1 | ⟨h1, h2⟩
    all_goals
      clear hk
      go_enter Tryd.func54, Tryd.ntmps54
      go_upto_region 1 with fail
      obtain ⟨w0, hw0⟩ : ∃ w0, w0 = (w.alloc (.cells #[.int .i64 k, .int .i64 r, .slice p n c] 53)).alloc (.cells #[.int .i64 0, .slice none 0 0, .slice none 0 0] 33) := ⟨_, rfl⟩
      obtain ⟨hb0, hR0, hE0⟩ := start_both w _ _ _ w0 hw0
      rw [← hw0]
      have hszb : (w.alloc (.cells #[.int .i64 k, .int .i64 r, .slice p n c] 53)).heap.size = w.heap.size + 1 := by simp
      obtain ⟨_, hr0, hr1, hr2⟩ := hR0.facts
      have HE := Lib.hid (And.intro hR0 (And.intro hE0 hb0))
      clear hw0 hR0 hE0 hb0
      go_wp2_with fail
      refine (raw_fresh ruleOp 0 1 w0).mono ?_
      rintro e w2 ⟨g, g', rfl, hg, hcg, hcg', hb2⟩
      obtain ⟨⟨hf0, hf1, hf2⟩, hc0, hc1, hc2⟩ := (HE.out.2.1.next hb2).facts
      have HB := Lib.hid (RefErrR.laid (k := 1) HE.out.2.2 (Nat.le_succ _) HE.out.2.1.lt hg hcg hcg' hb2)
      clear hb2 hcg hcg' hg
      go_wp2_with fail
      refine bodyPost_ret (v := .agg #[.int .i64 1, .slice (some ⟨g, 0, none⟩) 1 1, .slice (some ⟨g', 0, none⟩) 1 1]) (by simp [results, Tryd.results54, go_sem, hc0, hc1, hc2]) rfl ⟨_, rfl, ?_⟩
      exact HB.out _ _ _
  · rename_i hk
    have h1 : ¬ k < 1 := by omega
    have h4 : ¬ 4 < k := by omega
    split at hc
    · obtain rfl := Option.some.inj hc
      rename_i hrr
      clear h hn hc hk
      rcases (by omega : r < 0 ∨ (¬ r < 0 ∧ 3 < r)) with h2 | ⟨h2, h3⟩
      all_goals
        clear hrr
        go_enter Tryd.func54, Tryd.ntmps54
        go_upto_region 1 with fail
        obtain ⟨w0, hw0⟩ : ∃ w0, w0 = (w.alloc (.cells #[.int .i64 k, .int .i64 r, .slice p n c] 53)).alloc (.cells #[.int .i64 0, .slice none 0 0, .slice none 0 0] 33) := ⟨_, rfl⟩
        obtain ⟨hb0, hR0, hE0⟩ := start_both w _ _ _ w0 hw0
        rw [← hw0]
        have hszb : (w.alloc (.cells #[.int .i64 k, .int .i64 r, .slice p n c] 53)).heap.size = w.heap.size + 1 := by simp
        obtain ⟨_, hr0, hr1, hr2⟩ := hR0.facts
        have HE := Lib.hid (And.intro hR0 (And.intro hE0 hb0))
        clear hw0 hR0 hE0 hb0
        go_wp2_with fail
        refine (raw_fresh ruleOp 1 1 w0).mono ?_
        rintro e w2 ⟨g, g', rfl, hg, hcg, hcg', hb2⟩
        obtain ⟨⟨hf0, hf1, hf2⟩, hc0, hc1, hc2⟩ := (HE.out.2.1.next hb2).facts
        have HB := Lib.hid (RefErrR.laid (k := 1) HE.out.2.2 (Nat.le_succ _) HE.out.2.1.lt hg hcg hcg' hb2)
        clear hb2 hcg hcg' hg
        go_wp2_with fail
        refine bodyPost_ret (v := .agg #[.int .i64 1, .slice (some ⟨g, 0, none⟩) 1 1, .slice (some ⟨g', 0, none⟩) 1 1]) (by simp [results, Tryd.results54, go_sem, hc0, hc1, hc2]) rfl ⟨_, rfl, ?_⟩
        exact HB.out _ _ _
    · rename_i hrr
      obtain ⟨K, rfl⟩ : ∃ K : Nat, k = K := ⟨k.toNat, by omega⟩
      obtain ⟨R, rfl⟩ : ∃ R : Nat, r = R := ⟨r.toNat, by omega⟩
      have hk4 : K ≤ 4 := by omega
      have hr0' : ¬ (R : Int) < 0 := by omega
      have hr3 : ¬ (3 : Int) < R := by omega
      obtain ⟨R2, hR2⟩ : ∃ R2 : Nat, 2 * R = R2 := ⟨_, rfl⟩
      obtain ⟨M, hM⟩ : ∃ M : Nat, R2 + 1 = M := ⟨_, rfl⟩
      have hpw := fun W => power_ref K M W hk4 (by omega)
      obtain ⟨S, hS⟩ : ∃ S, K ^ M = S := ⟨_, rfl⟩
      have hSle : S ≤ 16384 := by rw [← hS]; exact small_pow7 hk4 (by omega)
      simp only [hS] at hpw
      rw [Int.toNat_natCast, Int.toNat_natCast, hR2, hM, hS] at hc
      have w2r : IntKind.i64.wrap (2 * (R : Int)) = (R2 : Int) := by rw [IntWalk.i64_in _ (by omega)]; omega
      have wR : IntKind.i64.wrap ((R2 : Int) + 1) = (M : Int) := by rw [IntWalk.i64_in _ (by omega)]; omega
      clear hR2 hM hS hk hrr
      split at hc
      · obtain rfl := Option.some.inj hc
        rename_i hlen
        have HP := Lib.hid hpw
        have hnS : ((n : Int) == (S : Int)) = false := by rw [beq_eq_false_iff_ne]; omega
        have hnS' : ((n : Int) != (S : Int)) = true := by rw [bne, hnS]; rfl
        clear hpw h hn hc hlen
        go_enter Tryd.func54, Tryd.ntmps54
        go_upto_region 1 with fail
        obtain ⟨w0, hw0⟩ : ∃ w0, w0 = (w.alloc (.cells #[.int .i64 (K : Int), .int .i64 (R : Int), .slice p n c] 53)).alloc (.cells #[.int .i64 0, .slice none 0 0, .slice none 0 0] 33) := ⟨_, rfl⟩
        obtain ⟨hb0, hR0, hE0⟩ := start_both w _ _ _ w0 hw0
        rw [← hw0]
        have hszb : (w.alloc (.cells #[.int .i64 (K : Int), .int .i64 (R : Int), .slice p n c] 53)).heap.size = w.heap.size + 1 := by simp
        obtain ⟨_, hr0, hr1, hr2⟩ := hR0.facts
        have HE := Lib.hid (And.intro hR0 (And.intro hE0 hb0))
        clear hw0 hR0 hE0 hb0
        go_wp2_with fail
        have hd0 : Below w0.heap.size w0 w0.drew := (Below.refl _ _).drew
        have hxA : ∀ wx : World, Below w0.heap.size w0 wx → wx.cell? ⟨w.heap.size, 0, none⟩ = some (.int .i64 (K : Int)) := fun wx hbx => (HE.out.1.next hbx).facts.2.1
        have hxB : ∀ wx : World, Below w0.heap.size w0 wx → wx.cell? ⟨w.heap.size, 1, none⟩ = some (.int .i64 (R : Int)) := fun wx hbx => (HE.out.1.next hbx).facts.2.2.1
        have hxC : ∀ wx : World, Below w0.heap.size w0 wx → wx.cell? ⟨w.heap.size, 2, none⟩ = some (.slice p n c) := fun wx hbx => (HE.out.1.next hbx).facts.2.2.2
        go_region_held3 (fun w' => w'.cell? ⟨w.heap.size, 0, none⟩ = some (.int .i64 (K : Int)) ∧ w'.cell? ⟨w.heap.size, 1, none⟩ = some (.int .i64 (R : Int)) ∧ w'.cell? ⟨w.heap.size, 2, none⟩ = some (.slice p n c)) (first | exact ⟨hxA _ hd0, hxB _ hd0, hxC _ hd0⟩ | go_keep) (first
          | (go_at_call 67; refine (HP.out _).mono ?_; rintro e w9 ⟨rfl, rfl⟩))
        all_goals
          obtain ⟨wd, hwd⟩ : ∃ x, x = w0.drew := ⟨_, rfl⟩
          rw [← hwd]
          have hdr : Err3 wd (w.heap.size + 1) (.int .i64 0) (.slice none 0 0) (.slice none 0 0) := by rw [hwd]; exact HE.out.2.1.next hd0
          have hbd : Below w.heap.size w wd := by rw [hwd]; exact HE.out.2.2.trans (hd0.mono HE.out.2.2.size)
          have hxd : Rul3 wd w.heap.size (.int .i64 (K : Int)) (.int .i64 (R : Int)) (.slice p n c) := by rw [hwd]; exact HE.out.1.next hd0
          clear hr0 hr1 hr2
          obtain ⟨_, hr0, hr1, hr2⟩ := hxd.facts
          have HD := Lib.hid (And.intro hdr (And.intro hbd hxd))
          clear hdr hbd hxd hxA hxB hxC hd0 hwd
          go_wp2_with fail
          refine (raw_fresh ruleOp 2 1 wd).mono ?_
          rintro e w2 ⟨g, g', rfl, hg, hcg, hcg', hb2⟩
          obtain ⟨⟨hf0, hf1, hf2⟩, hc0, hc1, hc2⟩ := (HD.out.1.next hb2).facts
          have HB := Lib.hid (RefErrR.laid (k := 1) HD.out.2.1 (Nat.le_succ _) HD.out.1.lt hg hcg hcg' hb2)
          clear hb2 hcg hcg' hg
          go_wp2_with fail
          refine bodyPost_ret (v := .agg #[.int .i64 1, .slice (some ⟨g, 0, none⟩) 1 1, .slice (some ⟨g', 0, none⟩) 1 1]) (by simp [results, Tryd.results54, go_sem, hc0, hc1, hc2]) rfl ⟨_, rfl, ?_⟩
          exact HB.out _ _ _
      · rename_i hlen
        obtain ⟨j, hj, rfl⟩ := Option.map_eq_some_iff.1 hc
        have hbn := badN_bad hj
        have hjl := strayN_lt hj
        have hnS : S = n := by omega
        have hjn : j < n := by omega
        simp only [hnS] at hpw
        have HP := Lib.hid hpw
        have H := Lib.hid (And.intro h (And.intro hn hbn))
        have w3j : IntKind.i64.wrap (3 + (j : Int)) = 3 + (j : Int) := by rw [IntWalk.i64_in _ (by omega)]
        have hp3 : ((3 + j : Nat) : Int) = 3 + (j : Int) := by push_cast; rfl
        rw [hp3]
        clear hpw h hn hc hlen hj hjl hbn hnS hp3
        go_enter Tryd.func54, Tryd.ntmps54
        go_upto_region 1 with fail
        obtain ⟨w0, hw0⟩ : ∃ w0, w0 = (w.alloc (.cells #[.int .i64 (K : Int), .int .i64 (R : Int), .slice p n c] 53)).alloc (.cells #[.int .i64 0, .slice none 0 0, .slice none 0 0] 33) := ⟨_, rfl⟩
        obtain ⟨hb0, hR0, hE0⟩ := start_both w _ _ _ w0 hw0
        rw [← hw0]
        have hszb : (w.alloc (.cells #[.int .i64 (K : Int), .int .i64 (R : Int), .slice p n c] 53)).heap.size = w.heap.size + 1 := by simp
        obtain ⟨_, hr0, hr1, hr2⟩ := hR0.facts
        have HE := Lib.hid (And.intro hR0 (And.intro hE0 hb0))
        clear hw0 hR0 hE0 hb0
        go_wp2_with fail
        have hd0 : Below w0.heap.size w0 w0.drew := (Below.refl _ _).drew
        have hxA : ∀ wx : World, Below w0.heap.size w0 wx → wx.cell? ⟨w.heap.size, 0, none⟩ = some (.int .i64 (K : Int)) := fun wx hbx => (HE.out.1.next hbx).facts.2.1
        have hxB : ∀ wx : World, Below w0.heap.size w0 wx → wx.cell? ⟨w.heap.size, 1, none⟩ = some (.int .i64 (R : Int)) := fun wx hbx => (HE.out.1.next hbx).facts.2.2.1
        have hxC : ∀ wx : World, Below w0.heap.size w0 wx → wx.cell? ⟨w.heap.size, 2, none⟩ = some (.slice p n c) := fun wx hbx => (HE.out.1.next hbx).facts.2.2.2
        go_region_held3 (fun w' => w'.cell? ⟨w.heap.size, 0, none⟩ = some (.int .i64 (K : Int)) ∧ w'.cell? ⟨w.heap.size, 1, none⟩ = some (.int .i64 (R : Int)) ∧ w'.cell? ⟨w.heap.size, 2, none⟩ = some (.slice p n c)) (first | exact ⟨hxA _ hd0, hxB _ hd0, hxC _ hd0⟩ | go_keep) (first
          | (go_at_call 67; refine (HP.out _).mono ?_; rintro e w9 ⟨rfl, rfl⟩))
        all_goals
          obtain ⟨wd, hwd⟩ : ∃ x, x = w0.drew := ⟨_, rfl⟩
          rw [← hwd]
          have hdr : Err3 wd (w.heap.size + 1) (.int .i64 0) (.slice none 0 0) (.slice none 0 0) := by rw [hwd]; exact HE.out.2.1.next hd0
          have hbd : Below w.heap.size w wd := by rw [hwd]; exact HE.out.2.2.trans (hd0.mono HE.out.2.2.size)
          have hxd : Rul3 wd w.heap.size (.int .i64 (K : Int)) (.int .i64 (R : Int)) (.slice p n c) := by rw [hwd]; exact HE.out.1.next hd0
          clear hr0 hr1 hr2
          obtain ⟨_, hr0, hr1, hr2⟩ := hxd.facts
          have HD := Lib.hid (And.intro hdr (And.intro hbd hxd))
          clear hdr hbd hxd hxA hxB hxC hd0 hwd
          go_wp2_with fail
          refine (bad_ref (K : Int) p n c t wd H.out.2.1 (H.out.1.next HD.out.2.1)).mono ?_
          rintro e w1 ⟨rfl, rfl⟩
          rw [H.out.2.2]
          go_wp2_with fail
          refine (raw_fresh ruleOp (3 + (j : Int)) 1 wd).mono ?_
          rintro e w2 ⟨g, g', rfl, hg, hcg, hcg', hb2⟩
          obtain ⟨⟨hf0, hf1, hf2⟩, hc0, hc1, hc2⟩ := (HD.out.1.next hb2).facts
          have HB := Lib.hid (RefErrR.laid (k := 1) HD.out.2.1 (Nat.le_succ _) HD.out.1.lt hg hcg hcg' hb2)
          clear hb2 hcg hcg' hg
          go_wp2_with fail
          refine bodyPost_ret (v := .agg #[.int .i64 1, .slice (some ⟨g, 0, none⟩) 1 1, .slice (some ⟨g', 0, none⟩) 1 1]) (by simp [results, Tryd.results54, go_sem, hc0, hc1, hc2]) rfl ⟨_, rfl, ?_⟩
          exact HB.out _ _ _
end Go.Proofs.YtfgoflaeclfggaaDoor
end
section
namespace Go.Proofs.YtfgoflaeclfggaaDoor
open Go.RowKit Go

theorem wp_pushI {o : Oper} {a : Act} {K : Act → World → Prop} {Q : Exit → Act → World → Prop} {w : World} (s x : Operand)
    (ho : o.op = .call { callee := .builtin .append, args := #[s, x], argTypes := #[22, 22] }) (base : Nat) (p : Option Addr) (n c : Nat) (l : List Int) (hs : a.eval s = .slice p n c) (hn : n = l.length) (h : IntO base w p c l) (hB : base ≤ w.heap.size)
    (B : Nat) (y : Int) (hx : a.eval x = .slice (some ⟨B, 0, none⟩) 1 1) (hb : w.heap[B]? = some (.cells #[.int .i64 y] 3 (0, 0))) (hl : l.length ≤ 1000000)
    (hK : ∀ p' c' w', IntO base w' p' c' (l ++ [y]) → Below base w w' → K (a.put o.dst (.slice p' (n + 1) c')) w') : o.wp Tryd.prog a w K Q := by
  obtain ⟨i0, hi, hz0, hz1, hz2⟩ := info_parts infoI
  subst hn
  refine wp_append_lies w s x 22 ho base 3 i0 (.int .i64 0) 1 8 Tryd.underlying22 hi hz0 hz1 hz2 rfl (by decide) _ l.length (cI l) hs h ⟨B, 0, none⟩ 1 1 [.int .i64 y] hx (by simp) (World.news_of_block hb) (by simp [Value.oneCell']) (by omega) (by unfold maxLen; omega) (by omega) hB w.heap.size rfl ?_
  intro g cap w' hown hgrow _ _
  have hxs : cI l ++ [Value.int .i64 y] = cI (l ++ [y]) := by rw [cI_app]; rfl
  rw [hxs] at hown
  have hown2 : w'.ownsRow base 3 1 (.slice (some ⟨g, 0, none⟩) (l.length + 1) cap) (l ++ [y]).length (cI (l ++ [y])) := by rw [List.length_append]; exact hown
  obtain ⟨p', c', he, ho'⟩ := IntO.slice_own hown2
  rw [List.length_append] at he
  rw [he]
  exact hK p' c' w' ho' ((Below.refl _ _).grown hgrow hB (fun j hj => (World.ownsRow.lt h j hj).1))
theorem step_pushI {ops : Array Oper} {o : Oper} {a : Act} {K : Act → World → Prop} {Q : Exit → Act → World → Prop} {E : Prop} {w : World} (hgd : o.guard = none) (s x : Operand)
    (ho : o.op = .call { callee := .builtin .append, args := #[s, x], argTypes := #[22, 22] }) (base : Nat) (p : Option Addr) (n c : Nat) (l : List Int) (hs : a.eval s = .slice p n c) (hn : n = l.length) (h : IntO base w p c l) (hB : base ≤ w.heap.size)
    (B : Nat) (y : Int) (hx : a.eval x = .slice (some ⟨B, 0, none⟩) 1 1) (hb : w.heap[B]? = some (.cells #[.int .i64 y] 3 (0, 0))) (hl : l.length ≤ 1000000)
    (hK : ∀ p' c' w', IntO base w' p' c' (l ++ [y]) → Below base w w' → K (a.put o.dst (.slice p' (n + 1) c')) w') :
    if Region.wanted o (yielded ops a.tmps) = true then Oper.wp Tryd.prog o a w K Q else E := by
  have hw : Region.wanted o (yielded ops a.tmps) = true := by simp [Region.wanted, hgd]
  rw [if_pos hw]
  exact wp_pushI s x ho base p n c l hs hn h hB B y hx hb hl hK
theorem wpList_pushI {ops : Array Oper} {rest : List Oper} {o : Oper} {a : Act} {Q : Exit → Act → World → Prop} {w : World} (hgd : o.guard = none) (s x : Operand)
    (ho : o.op = .call { callee := .builtin .append, args := #[s, x], argTypes := #[22, 22] }) (base : Nat) (p : Option Addr) (n c : Nat) (l : List Int) (hs : a.eval s = .slice p n c) (hn : n = l.length) (h : IntO base w p c l) (hB : base ≤ w.heap.size)
    (B : Nat) (y : Int) (hx : a.eval x = .slice (some ⟨B, 0, none⟩) 1 1) (hb : w.heap[B]? = some (.cells #[.int .i64 y] 3 (0, 0))) (hl : l.length ≤ 1000000)
    (hK : ∀ p' c' w', IntO base w' p' c' (l ++ [y]) → Below base w w' → wpList Tryd.prog ops Q rest (a.put o.dst (.slice p' (n + 1) c')) w') : wpList Tryd.prog ops Q (o :: rest) a w :=
  wpList_plain hgd fun _ h' => wp_pushI s x ho base p n c l hs hn h hB B y hx hb hl fun p' c' w' h1 h2 => h' _ _ (hK p' c' w' h1 h2)
end Go.Proofs.YtfgoflaeclfggaaDoor
end
section
namespace Go.Proofs.YtfgoflaeclfggaaDoor
open Go.RowKit Go.Extern.Stop Go.Stop Go.Extern WordM RuleM NatM
attribute [local go_sem ↓] Go.wp_at_zero Go.wp_at_succ

set_option maxRecDepth 100000 in
set_option maxHeartbeats 2000000 in
theorem value_ref (k : Nat) (q : Option Addr) (m d : Nat) (l : List Int) (w : World) (h4 : k ≤ 4) (hm : m = l.length) (hl : IntV w.heap.size w q d l) (hw : okW k l) (h7 : m ≤ 7) :
    Calls Tryd.prog 81 #[.int .i64 (k : Int), .slice q m d] w fun e w' => e = .returned (.int .i64 ((valW k l : Nat) : Int)) ∧ w = w' := by
  have hle := hl.le
  have hcap := hl.cap
  unfold maxLen at hcap
  have hmd : m ≤ d := by omega
  have H := Lib.hid (And.intro hl (And.intro hm hw))
  clear hl hm hw hle
  go_enter Tryd.func81, Tryd.ntmps81
  go_wp2_with fail
  go_loop [5, 6] (fun v5 v6 => ∃ j : Nat, j ≤ m ∧ v6 = .int .i64 (j : Int) ∧ v5 = .int .i64 ((valW k (l.take j) : Nat) : Int)) (fun _ v => m - (intOf v).toNat)
  case atStart => exact ⟨0, Nat.zero_le _, rfl, rfl⟩
  case round =>
    obtain ⟨j, hj, rfl, rfl⟩ := hrel
    by_cases hlt : j < m
    · have hml := H.out.2.1
      obtain ⟨b, off, rfl, hb, hc⟩ := H.out.1.cell (by rintro rfl; simp at hml; omega)
      obtain ⟨x, hx⟩ := getI (l := l) (k := j) (by omega)
      have hcx := hc j x hx
      have hxo := H.out.2.2 x (List.mem_of_getElem? hx)
      have hstep := valW_take1 (k := k) hx
      have hv1 := val_small (l := l) (j := j) h4 H.out.2.2 (by omega)
      have hv2 := val_small (l := l) (j := j + 1) h4 H.out.2.2 (by omega)
      obtain ⟨y, rfl⟩ : ∃ y : Nat, x = (y : Int) := ⟨x.toNat, by omega⟩
      rw [Int.toNat_natCast] at hstep
      obtain ⟨v, hv⟩ : ∃ v, valW k (l.take j) = v := ⟨_, rfl⟩
      obtain ⟨z, hz⟩ : ∃ z, valW k (l.take (j + 1)) = z := ⟨_, rfl⟩
      rw [hv] at hstep hv1 ⊢
      rw [hz] at hstep hv2
      obtain ⟨u, hu⟩ : ∃ u, v * k = u := ⟨_, rfl⟩
      have hvk : ((v : Int) * (k : Int)) = (u : Int) := by rw [← hu]; push_cast; rfl
      rw [hu] at hstep
      have wvk : IntKind.i64.wrap ((v : Int) * (k : Int)) = (u : Int) := by rw [hvk, IntWalk.i64_in _ (by omega)]
      have wux : IntKind.i64.wrap ((u : Int) + (y : Int)) = (z : Int) := by rw [IntWalk.i64_in _ (by omega)]; omega
      have HZ := Lib.hid hz
      clear hc hx hv hz hu hvk hstep hml
      go_wp2_with fail
      go_round
      case rel => exact ⟨j + 1, by omega, by go_num, by rw [HZ.out]⟩
      case measure => simp [intOf]; omega
    · obtain rfl : j = m := by omega
      have he : l.take j = l := by rw [H.out.2.1, List.take_length]
      rw [he]
      go_wp2_with fail
      go_ret
      exact ⟨rfl, rfl⟩

def ImgRel (w1 : World) (u : Nat) (I : List Int) (v5 v6 : Value) (wr : World) : Prop :=
  ∃ (j : Nat) (p : Option Addr) (c : Nat), j ≤ u ∧ v6 = .int .i64 (j : Int) ∧ v5 = .slice p j c ∧ IntO w1.heap.size wr p c (I.take j) ∧ Below w1.heap.size w1 wr
set_option maxRecDepth 100000 in
set_option maxHeartbeats 8000000 in
theorem image_ref (k r : Nat) (p q : Option Addr) (n c m d : Nat) (t l : List Int) (w : World) (hn : n = t.length) (hm : m = l.length) (h : IntV w.heap.size w p c t) (hl : IntV w.heap.size w q d l) (ho : OkR k r t) (hm4 : m ≤ 1000000) (hw : okW k l) :
    Calls Tryd.prog 75 #[.agg #[.int .i64 (k : Int), .int .i64 (r : Int), .slice p n c], .slice q m d] w (IntPost w (imgW k r t l)) := by
  have h4 := ho.k4
  have h3 := ho.r3
  have hle := hl.le
  have hcap := hl.cap
  unfold maxLen at hcap
  have hmd : m ≤ d := by omega
  have hd63 : d ≤ 9223372036854775807 := by omega
  have hncap := h.cap
  have hnle := h.le
  unfold maxLen at hncap
  have hnc : n ≤ c := by omega
  have hc63 : c ≤ 9223372036854775807 := by omega
  have hil := imgW_length k r t l
  have hig := fun i => @imgW_get k r t l i
  obtain ⟨I, hI⟩ : ∃ I, imgW k r t l = I := ⟨_, rfl⟩
  simp only [hI] at hil hig
  rw [hI]
  obtain ⟨R2, hR2⟩ : ∃ R2 : Nat, 2 * r = R2 := ⟨_, rfl⟩
  rw [hR2] at hil hig
  obtain ⟨u, hu⟩ : ∃ u, I.length = u := ⟨_, rfl⟩
  rw [← hm] at hil hig
  have hum : u ≤ m := by omega
  have hR6 : R2 ≤ 6 := by omega
  have w2r : IntKind.i64.wrap (2 * (r : Int)) = (R2 : Int) := by rw [IntWalk.i64_in _ (by omega)]; omega
  have H := Lib.hid (And.intro hn (And.intro hm (And.intro h (And.intro hl (And.intro hig (And.intro hw (And.intro ho (And.intro hR2 (And.intro hu hil)))))))))
  clear hn hm h hl hig hw ho hR2 hle hcap hI hncap hnle hil hu
  go_enter Tryd.func75, Tryd.ntmps75
  go_upto_region 1 with fail
  obtain ⟨w0, hw0⟩ : ∃ w0, w0 = w.alloc (.cells #[.int .i64 (k : Int), .int .i64 (r : Int), .slice p n c] 53) := ⟨_, rfl⟩
  have hb0 : Below w.heap.size w w0 := by rw [hw0]; exact (Below.refl _ _).alloc (Nat.le_refl _) _
  have hE0 : Rul3 w0 w.heap.size (.int .i64 (k : Int)) (.int .i64 (r : Int)) (.slice p n c) := by rw [hw0]; exact Rul3.new w _ _ _
  rw [← hw0]
  have HE := Lib.hid (And.intro hE0 hb0)
  have hs01 : w.heap.size < w0.heap.size := hE0.lt
  clear hw0 hE0 hb0
  go_wp2_with fail
  go_loopw [5, 6] (fun v5 v6 wr => ImgRel w0 u I v5 v6 wr) (fun _ v _ => u - (intOf v).toNat)
  case atStart => exact ⟨0, none, 0, Nat.zero_le _, rfl, rfl, IntO.nothing _ _, Below.refl _ _⟩
  case round =>
    obtain ⟨i, p5, c5, hi, rfl, rfl, ho5, hb⟩ := hrel
    have hbw := HE.out.2.trans (hb.mono HE.out.2.size)
    have hEr := HE.out.1.next hb
    obtain ⟨_, hc0, hc1, hc2⟩ := hEr.facts
    have wiR : IntKind.i64.wrap ((i : Int) + (R2 : Int)) = (i : Int) + (R2 : Int) := by rw [IntWalk.i64_in _ (by omega)]
    by_cases hlt : i < u
    · have hum2 : i + R2 < m := by have := H.out.2.2.2.2.2.2.2.2; omega
      have hlt' : (i : Int) + (R2 : Int) < (m : Int) := by omega
      obtain ⟨J, hJ⟩ : ∃ J, i + R2 + 1 = J := ⟨_, rfl⟩
      have wJ : IntKind.i64.wrap ((i : Int) + (R2 : Int) + 1) = (J : Int) := by rw [IntWalk.i64_in _ (by omega)]; omega
      have zi0 : (0 : Int) ≤ (i : Int) := by omega
      have ziJ : (i : Int) ≤ (J : Int) := by omega
      have zJd : (J : Int) ≤ (d : Int) := by omega
      have hml := H.out.2.1
      obtain ⟨b, off, rfl, hbb, hcc⟩ := H.out.2.2.2.1.cell (by rintro rfl; simp at hml; omega)
      obtain ⟨X, hX⟩ : ∃ X, win l i (R2 + 1) = X := ⟨_, rfl⟩
      have hXl : J - i = X.length := by rw [← hX, win_length (by omega)]; omega
      have hXo : okW k X := by rw [← hX]; exact win_ok H.out.2.2.2.2.2.1 _ _
      have hIi := H.out.2.2.2.2.1 i (by omega)
      rw [hX] at hIi
      have hzt : valW k X < t.length := by rw [H.out.2.2.2.2.2.2.1.len]; have := valW_lt hXo; rw [← hXl] at this; rw [H.out.2.2.2.2.2.2.2.1, show R2 + 1 = J - i by omega]; exact this
      have hg := ent_get hzt
      obtain ⟨b2, off2, rfl, hb2, hc2'⟩ := H.out.2.2.1.cell (by rintro rfl; simp at hzt)
      have hval : ∀ wx : World, Below wr.heap.size wr wx → Calls Tryd.prog 81 #[.int .i64 (k : Int), .slice (some ⟨b, off + i, none⟩) (J - i) (d - i)] wx fun e w' => e = .returned (.int .i64 ((valW k X : Nat) : Int)) ∧ wx = w' := fun wx hbx => by
        have hv := (((H.out.2.2.2.1.next hbw).next hbx).drop i (by omega)).take (R2 + 1)
        exact value_ref k _ (J - i) (d - i) X wx h4 hXl (by rw [← hX]; exact hv) hXo (by omega)
      have htb : ∀ wx : World, Below wr.heap.size wr wx → wx.cell? ⟨b2, off2 + valW k X, none⟩ = some (.int .i64 (ent t (valW k X))) := fun wx hbx => ((hbw.trans (hbx.mono hbw.size)).cell (p := ⟨b2, off2 + valW k X, none⟩) hb2).trans (hc2' _ _ hg)
      have htb0 : ∀ wx : World, Below w.heap.size w wx → wx.cell? ⟨b2, off2 + valW k X, none⟩ = some (.int .i64 (ent t (valW k X))) := fun wx hbx => (hbx.cell (p := ⟨b2, off2 + valW k X, none⟩) hb2).trans (hc2' _ _ hg)
      obtain ⟨f, hf⟩ : ∃ f, ent t (valW k X) = f := ⟨_, rfl⟩
      obtain ⟨z, hz⟩ : ∃ z, valW k X = z := ⟨_, rfl⟩
      rw [hf] at hIi
      simp only [hf] at htb htb0
      simp only [hz] at hval htb htb0
      have hzn : (z : Int) < (n : Int) := by have := H.out.1; rw [hz] at hzt; omega
      have hzn' : z < n := by omega
      have hxA : ∀ wx : World, Below wr.heap.size wr wx → wx.cell? ⟨w.heap.size, 0, none⟩ = some (.int .i64 (k : Int)) := fun wx hbx => (hEr.next hbx).facts.2.1
      have hxB : ∀ wx : World, Below wr.heap.size wr wx → wx.cell? ⟨w.heap.size, 1, none⟩ = some (.int .i64 (r : Int)) := fun wx hbx => (hEr.next hbx).facts.2.2.1
      have hxC : ∀ wx : World, Below wr.heap.size wr wx → wx.cell? ⟨w.heap.size, 2, none⟩ = some (.slice (some ⟨b2, off2, none⟩) n c) := fun wx hbx => (hEr.next hbx).facts.2.2.2
      have hd0 : Below wr.heap.size wr wr.drew := (Below.refl _ _).drew
      have hdA : Below wr.heap.size wr (wr.drew.alloc (.cells #[.int .i64 f] 3)) := hd0.alloc (Nat.le_refl _) _
      have hblk : (wr.drew.alloc (.cells #[.int .i64 f] 3)).heap[wr.heap.size]? = some (.cells #[.int .i64 f] 3 (0, 0)) := heap_newN wr.drew _
      have hoA : IntO w0.heap.size (wr.drew.alloc (.cells #[.int .i64 f] 3)) p5 c5 (I.take i) := ho5.next hdA
      have hsA : w0.heap.size ≤ (wr.drew.alloc (.cells #[.int .i64 f] 3)).heap.size := Nat.le_trans hb.size hdA.size
      obtain ⟨T, hT⟩ : ∃ T, I.take i = T := ⟨_, rfl⟩
      rw [hT] at hoA
      have hTl : i = T.length := by rw [← hT, List.length_take]; have := H.out.2.2.2.2.2.2.2.2.1; omega
      have hTn : I.take (i + 1) = T ++ [f] := by rw [List.take_add_one, hT, hIi]; rfl
      have hdi : ¬ d = i := by omega
      have hT6 : T.length ≤ 1000000 := by omega
      have HT := Lib.hid (And.intro hTl (And.intro hTn (And.intro hoA (And.intro hsA (And.intro hT6 hblk)))))
      have HB := Lib.hid hb
      clear hbw hEr hb hJ hml hcc hX hIi hXo hf hz hc2' hXl hg hzt ho5 hoA hsA hT hTl hTn hT6 hblk hum2
      go_wp2_with fail
      go_region_held3 (fun w' => w'.cell? ⟨w.heap.size, 0, none⟩ = some (.int .i64 (k : Int)) ∧ w'.cell? ⟨w.heap.size, 1, none⟩ = some (.int .i64 (r : Int)) ∧ w'.cell? ⟨w.heap.size, 2, none⟩ = some (.slice (some ⟨b2, off2, none⟩) n c) ∧ w'.cell? ⟨b2, off2 + z, none⟩ = some (.int .i64 f)) (first | exact ⟨hxA _ hd0, hxB _ hd0, hxC _ hd0, htb _ hd0⟩ | exact ⟨hxA _ hdA, hxB _ hdA, hxC _ hdA, htb _ hdA⟩ | exact ⟨hq0, hq1, hq2, hq3⟩ | go_keep) (first
        | (go_at_call 81; refine (hval _ (by first | assumption | exact Below.refl _ _)).mono ?_; rintro e w8 ⟨rfl, rfl⟩)
        | (refine step_pushI (by rfl) _ _ (by rfl) w0.heap.size p5 i c5 T (by rfl) HT.out.1 HT.out.2.2.1 HT.out.2.2.2.1 wr.heap.size f (by rfl) HT.out.2.2.2.2.2 HT.out.2.2.2.2.1 ?_; intro p9 c9 w9 ho9 hb9; have hB0 : Below w0.heap.size w0 w9 := (HB.out.trans (hdA.mono HB.out.size)).trans hb9; have hB9 : Below w.heap.size w w9 := HE.out.2.trans (hB0.mono HE.out.2.size); obtain ⟨_, hq0, hq1, hq2⟩ := (HE.out.1.next hB0).facts; have hq3 := htb0 _ hB9))
      all_goals
        have HF := Lib.hid (And.intro ho9 hB0)
        clear hxA hxB hxC hd0 hdA htb htb0 hval ho9 hb9 hB0 hB9 hq0 hq1 hq2 hq3
        go_wp2_with fail
        go_roundw
        case rel => exact ⟨i + 1, p9, c9, by omega, by go_num, rfl, by rw [HT.out.2.1]; exact HF.out.1, HF.out.2⟩
        case measure => simp [intOf]; omega
    · obtain rfl : i = u := by omega
      have hge : ¬ (i : Int) + (R2 : Int) < (m : Int) := by have := H.out.2.2.2.2.2.2.2.2; omega
      have he : I.take i = I := by rw [← H.out.2.2.2.2.2.2.2.2.1, List.take_length]
      rw [he] at ho5
      have HF := Lib.hid (And.intro (ho5.base (Nat.le_of_lt hs01)) hbw)
      clear ho5 hbw hb hEr he
      go_wp2_with fail
      go_ret
      exact ⟨p5, c5, by rw [H.out.2.2.2.2.2.2.2.2.1]; rfl, HF.out.1, HF.out.2⟩
end Go.Proofs.YtfgoflaeclfggaaDoor
end
