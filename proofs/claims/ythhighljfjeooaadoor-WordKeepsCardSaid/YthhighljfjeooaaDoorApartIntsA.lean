/- edenraw.Apart: lists that each lie in a block of their own are found apart; nothing below changes. -/
import Derived.Test.YthhighljfjeooaaDoorProg
import Derived.WalkKit
import Derived.WalkSmall
import Derived.Deep.LoopGhost
import Derived.Lib.Hide
import Derived.Outline
import Derived.Laws.AppendOwn
import Derived.Laws.MakeOwn
import Derived.Laws.Rows
import Derived.Maps.AppendAt
import Derived.ArgAppend
import Derived.Deep.DeepAppendRoom
import Derived.OwnWalk
namespace Go.Proofs.YthhighljfjeooaaDoor.apartI
open Go.RowKit

abbrev E : TypeId := 3
theorem infoE : (Tryd.prog.info? 3).map (fun i => (i.zero, i.size, i.bytes)) = some (some (.int .i64 0), 1, 8) := by kernel_rfl
theorem infoS : (Tryd.prog.info? 40).map (fun i => (i.zero, i.size, i.bytes)) = some (some (.slice none 0 0), 1, 24) := by kernel_rfl
/-- the marks -/
def m1 (i : Nat) : Value := .int .i64 (-2 * (i : Int) - 1)
def m2 (i : Nat) : Value := .int .i64 (-2 * (i : Int) - 2)

/-- A list: its address, its capacity, its length. -/
abbrev Rw := Option Addr × Nat × Nat
def Rw.val (x : Rw) : Value := .slice x.1 x.2.2 x.2.1

/-! ### rows -/
theorem shape {w : World} {B : Nat} {e : TypeId} {a : Option Addr} {n c : Nat} {xs : List Value} (h : w.ownsRow B e 1 (.slice a n c) n xs) :
    (a = none ∧ n = 0 ∧ c = 0 ∧ xs = []) ∨ ∃ g, a = some ⟨g, 0, none⟩ ∧ B ≤ g ∧ g < w.heap.size ∧ n ≤ c ∧ c ≤ maxLen ∧ xs.length = n ∧ (∀ j, j < n → w.cell? ⟨g, j, none⟩ = xs[j]?) ∧ ∀ j, w.frozen? ⟨g, j, none⟩ = false := by
  have h0 := h
  obtain ⟨hx, h | ⟨g, cap, cur, hv, hg, hh, hc, hm, r⟩⟩ := h
  · obtain ⟨h1, h2⟩ := h
    simp only [Value.slice.injEq] at h1
    exact Or.inl ⟨h1.1, h2, h1.2.2, List.eq_nil_of_length_eq_zero (by omega)⟩
  · simp only [Value.slice.injEq] at hv
    obtain ⟨rfl, _, rfl⟩ := hv
    have hlt : g < w.heap.size := by
      rcases Nat.lt_or_ge g w.heap.size with k | k
      · exact k
      · simp [Array.getElem?_eq_none k] at hh
    exact Or.inr ⟨g, rfl, hg, hlt, hc, hm, by omega, fun j hj => h0.cellAt j (by omega), fun j => h0.frozenAt j⟩
theorem prefix_own {w : World} {B : Nat} {e : TypeId} {g n c k : Nat} {xs : List Value} (h : w.ownsRow B e 1 (.slice (some ⟨g, 0, none⟩) n c) n xs) (hk : k ≤ n) : w.ownsRow B e 1 (.slice (some ⟨g, 0, none⟩) k c) k (xs.take k) := by
  obtain ⟨hx, h | ⟨g', cap, cur, hv, hg, hh, hc, hm, hs, ht⟩⟩ := h
  · simp at h
  · simp only [Value.slice.injEq, Option.some.injEq, Addr.mk.injEq, and_true, true_and] at hv
    obtain ⟨rfl, rfl⟩ := hv
    refine ⟨by rw [List.length_take]; omega, Or.inr ⟨g, c, cur, rfl, hg, hh, by omega, hm, hs, ?_⟩⟩
    rw [← ht, List.take_take]
    congr 1
    omega
theorem same_cap {w : World} {B B' : Nat} {e e' : TypeId} {g n n' c c' : Nat} {xs xs' : List Value} (h : w.ownsRow B e 1 (.slice (some ⟨g, 0, none⟩) n c) n xs) (h' : w.ownsRow B' e' 1 (.slice (some ⟨g, 0, none⟩) n' c') n' xs') : c = c' := by
  obtain ⟨_, h | ⟨g1, c1, cur, hv, _, hh, _, _, hs, _⟩⟩ := h
  · simp at h
  obtain ⟨_, h' | ⟨g2, c2, cur', hv', _, hh', _, _, hs', _⟩⟩ := h'
  · simp at h'
  simp only [Value.slice.injEq, Option.some.injEq, Addr.mk.injEq, and_true, true_and] at hv hv'
  obtain ⟨rfl, rfl⟩ := hv
  obtain ⟨rfl, rfl⟩ := hv'
  rw [hh] at hh'
  injection hh' with hh'
  injection hh' with hcur
  subst hcur
  omega
theorem other_type {w : World} {b b' : Nat} {e e' : TypeId} {v v' : Value} {n n' : Nat} {xs xs' : List Value} (h : w.ownsRow b e 1 v n xs) (h' : w.ownsRow b' e' 1 v' n' xs') (hne : e ≠ e') : v.ownBlock = none ∨ v.ownBlock ≠ v'.ownBlock := by
  rcases h.2 with ⟨rfl, _⟩ | ⟨g, cap, cur, rfl, _, hh, _⟩
  · exact Or.inl rfl
  · right
    rcases h'.2 with ⟨rfl, _⟩ | ⟨g', cap', cur', rfl, _, hh', _⟩
    · simp [Value.ownBlock]
    · intro hq
      have : g = g' := by simpa [Value.ownBlock] using hq
      subst this
      rw [hh] at hh'
      injection hh' with hh'
      injection hh' with _ ht
      exact hne ht
theorem below_lt {w : World} {B : Nat} {e : TypeId} {v : Value} {n : Nat} {xs : List Value} (h : w.ownsRow B e 1 v n xs) : v.ownBlock = none ∨ ∃ b, v.ownBlock = some b ∧ B ≤ b ∧ b < w.heap.size := by
  cases hv : v.ownBlock with
  | none => exact Or.inl rfl
  | some b => exact Or.inr ⟨b, rfl, h.lt b hv⟩
theorem set_take {l : List Value} {k : Nat} {u : Value} (h : k < l.length) : (l.set k u).take (k + 1) = l.take k ++ [u] := by
  rw [List.take_succ_eq_append_getElem (by simpa using h), List.take_set_of_le (Nat.le_refl _)]
  simp

/-! ### the lists, and where they stand -/
def OwnAll (B : Nat) (w : World) (L : List Rw) (C : Nat → List Value) : Prop := ∀ (k : Nat) (x : Rw), L[k]? = some x → w.ownsRow B E 1 x.val x.2.2 (C k)
structure Sit (w : World) (Q qo : Nat) (L : List Rw) : Prop where
  lt : Q < w.heap.size
  cell : ∀ (j : Nat) (x : Rw), L[j]? = some x → w.cell? ⟨Q, qo + j, none⟩ = some x.val
structure Parts (L : List Rw) (Q : Nat) : Prop where
  two : ∀ (k k' : Nat) (x x' : Rw), L[k]? = some x → L[k']? = some x' → k ≠ k' → x.val.ownBlock = none ∨ x.val.ownBlock ≠ x'.val.ownBlock
  q : ∀ (k : Nat) (x : Rw), L[k]? = some x → x.val.ownBlock ≠ some Q
theorem Sit.kept {w w' : World} {Q qo : Nat} {L : List Rw} (h : Sit w Q qo L) {row : Option Nat} (hg : w.grownBy w' row) (hne : row ≠ some Q) : Sit w' Q qo L :=
  ⟨Nat.lt_of_lt_of_le h.lt hg.size, fun j x hx => (World.cell?_of_block (hg.block Q h.lt (Ne.symm hne))).trans (h.cell j x hx)⟩
theorem OwnAll.kept {B : Nat} {w w' : World} {L : List Rw} {C : Nat → List Value} (h : OwnAll B w L C) {row : Option Nat} (hg : w.grownBy w' row) (hne : ∀ (k : Nat) (x : Rw), L[k]? = some x → x.val.ownBlock = none ∨ x.val.ownBlock ≠ row) : OwnAll B w' L C :=
  fun k x hx => (h k x hx).kept hg (hne k x hx)
theorem val_some {x : Rw} {g : Nat} (h : x.1 = some ⟨g, 0, none⟩) : x.val.ownBlock = some g := by unfold Rw.val; rw [h]; rfl
/-- a mark is laid -/
theorem OwnAll.store {B : Nat} {w : World} {L : List Rw} {C : Nat → List Value} {Q : Nat} (hP : Parts L Q) (h : OwnAll B w L C) {i : Nat} {x : Rw} (hx : L[i]? = some x) {g : Nat} (hg : x.1 = some ⟨g, 0, none⟩) (j : Nat) (u : Value) :
    OwnAll B (w.setCell ⟨g, j, none⟩ u) L (fun k => if k = i then (C i).set j u else C k) ∧ w.grownBy (w.setCell ⟨g, j, none⟩ u) (some g) := by
  have ho := h i x hx
  unfold Rw.val at ho
  rw [hg] at ho
  obtain ⟨s1, s2⟩ := ho.stored j u
  refine ⟨fun k y hy => ?_, s2⟩
  by_cases hk : k = i
  · subst hk
    rw [hx] at hy
    obtain rfl := Option.some.inj hy
    simp only [if_true]
    unfold Rw.val
    rw [hg]
    exact s1
  · simp only [if_neg hk]
    refine (h k y hy).kept s2 ?_
    have := hP.two k i y x hy hx hk
    rwa [val_some hg] at this

theorem other_rows {B : Nat} {w : World} {L : List Rw} {C : Nat → List Value} (h : OwnAll B w L C) {b : Nat} {e : TypeId} {v : Value} {n : Nat} {xs : List Value} (hv : w.ownsRow b e 1 v n xs) (hne : E ≠ e) : ∀ (k : Nat) (x : Rw), L[k]? = some x → x.val.ownBlock = none ∨ x.val.ownBlock ≠ v.ownBlock :=
  fun k x hx => other_type (h k x hx) hv hne

/-- Nothing has changed but what is new, and the lists' own blocks. -/
structure Fr (L : List Rw) (w w' : World) : Prop where
  os : w'.os = w.os
  tape : w'.tape = w.tape
  output : w'.output = w.output
  size : w.heap.size ≤ w'.heap.size
  block : ∀ b, b < w.heap.size → (∀ (k : Nat) (x : Rw), L[k]? = some x → x.val.ownBlock ≠ some b) → w'.heap[b]? = w.heap[b]?
theorem Fr.refl (L : List Rw) (w : World) : Fr L w w := ⟨rfl, rfl, rfl, Nat.le_refl _, fun _ _ _ => rfl⟩
theorem Fr.step {L : List Rw} {w a b : World} (h : Fr L w a) {row : Option Nat} (hg : a.grownBy b row) (hr : ∀ k, row = some k → (∃ (i : Nat) (x : Rw), L[i]? = some x ∧ x.val.ownBlock = some k) ∨ w.heap.size ≤ k) : Fr L w b :=
  ⟨hg.os.trans h.os, hg.tape.trans h.tape, hg.output.trans h.output, Nat.le_trans h.size hg.size, fun k hk hno => (hg.block k (Nat.lt_of_lt_of_le hk h.size) (fun e => by
    rcases hr k e.symm with ⟨i, x, hx, hb⟩ | h1
    · exact hno i x hx hb
    · omega)).trans (h.block k hk hno)⟩
theorem Fr.below {L : List Rw} {w w' : World} (h : Fr L w w') {B : Nat} (hB : B ≤ w.heap.size) (hL : ∀ (k : Nat) (x : Rw), L[k]? = some x → x.val.ownBlock = none ∨ ∃ b, x.val.ownBlock = some b ∧ B ≤ b) : Below B w w' :=
  ⟨h.os, h.tape, h.output, h.size, fun k hk => h.block k (by omega) (fun i x hx e => by
    rcases hL i x hx with h1 | ⟨b, h1, h2⟩
    · rw [h1] at e; cases e
    · rw [h1] at e
      have := Option.some.inj e
      omega)⟩

def Rel1 (B : Nat) (w : World) (L : List Rw) (Q qo : Nat) (v3 : Value) (wr : World) : Prop :=
  ∃ (i : Nat) (C : Nat → List Value), i ≤ L.length ∧ v3 = .int .i64 (i : Int) ∧ OwnAll B wr L C ∧ (∀ (k : Nat) (x : Rw), k < i → L[k]? = some x → C k = List.replicate x.2.2 (m1 k)) ∧ Sit wr Q qo L ∧ Fr L w wr
def Rel2 (B : Nat) (w : World) (L : List Rw) (Q qo i n : Nat) (v4 : Value) (wr : World) : Prop :=
  ∃ (j : Nat) (C : Nat → List Value), j ≤ n ∧ v4 = .int .i64 (j : Int) ∧ OwnAll B wr L C ∧ (∀ (k : Nat) (x : Rw), k < i → L[k]? = some x → C k = List.replicate x.2.2 (m1 k)) ∧ (C i).take j = List.replicate j (m1 i) ∧ Sit wr Q qo L ∧ Fr L w wr
/-- The lists, marked. -/
def Marked (B : Nat) (w : World) (L : List Rw) : Prop := ∀ (k : Nat) (x : Rw), L[k]? = some x → w.ownsRow B E 1 x.val x.2.2 (List.replicate x.2.2 (m1 k))
/-- A list grown by forty. -/
def Full (B : Nat) (w : World) (L : List Rw) (k : Nat) (x : Rw) (v : Value) : Prop :=
  ∃ y c, v = .slice y (x.2.2 + 40) c ∧ w.ownsRow B E 1 (.slice y (x.2.2 + 40) c) (x.2.2 + 40) (List.replicate x.2.2 (m1 k) ++ List.replicate 40 (m2 k)) ∧
    ∀ (k' : Nat) (x' : Rw), k' ≠ k → L[k']? = some x' → (Value.slice y (x.2.2 + 40) c).ownBlock = none ∨ (Value.slice y (x.2.2 + 40) c).ownBlock ≠ x'.val.ownBlock
structure Got (B : Nat) (w wr : World) (L : List Rw) (Q qo G i : Nat) (gv : List Value) : Prop where
  marked : Marked B wr L
  row : wr.ownsRow B 40 1 (.slice (some ⟨G, 0, none⟩) L.length L.length) L.length gv
  full : ∀ (k : Nat) (x : Rw), k < i → L[k]? = some x → ∃ v, gv[k]? = some v ∧ Full B wr L k x v
  sit : Sit wr Q qo L
  below : Fr L w wr
def Rel3 (B : Nat) (w : World) (L : List Rw) (Q qo G : Nat) (v6 : Value) (wr : World) : Prop :=
  ∃ (i : Nat) (gv : List Value), i ≤ L.length ∧ v6 = .int .i64 (i : Int) ∧ Got B w wr L Q qo G i gv
/-- The list that is being grown: in its own old block, or in one made since H. -/
def Rel4 (B : Nat) (w : World) (L : List Rw) (Q qo G i H : Nat) (x : Rw) (gv : List Value) (v7 v8 : Value) (wr : World) : Prop :=
  ∃ (j : Nat) (y : Option Addr) (c : Nat), j ≤ 40 ∧ v8 = .int .i64 (j : Int) ∧ v7 = .slice y (x.2.2 + j) c ∧ wr.ownsRow B E 1 (.slice y (x.2.2 + j) c) (x.2.2 + j) (List.replicate x.2.2 (m1 i) ++ List.replicate j (m2 i)) ∧
    ((Value.slice y (x.2.2 + j) c).ownBlock = x.val.ownBlock ∨ ∃ b, (Value.slice y (x.2.2 + j) c).ownBlock = some b ∧ H ≤ b) ∧ H ≤ wr.heap.size ∧ Got B w wr L Q qo G i gv

/-- What was there before H, and is of no list i, stays. -/
structure Old (L : List Rw) (Q G i H : Nat) (x : Rw) (gv : List Value) : Prop where
  lists : ∀ (k : Nat) (z : Rw), L[k]? = some z → z.val.ownBlock = none ∨ ∃ b, z.val.ownBlock = some b ∧ b < H
  apart : ∀ (k : Nat) (z : Rw), k ≠ i → L[k]? = some z → z.val.ownBlock = none ∨ z.val.ownBlock ≠ x.val.ownBlock
  grown : ∀ (k : Nat) (v : Value), k < i → gv[k]? = some v → (v.ownBlock = none ∨ ∃ b, v.ownBlock = some b ∧ b < H) ∧ (v.ownBlock = none ∨ v.ownBlock ≠ x.val.ownBlock)
  g : G < H
  q : Q < H
  xq : x.val.ownBlock ≠ some Q
  xg : x.val.ownBlock ≠ some G
theorem Full.kept {B : Nat} {w w' : World} {L : List Rw} {k : Nat} {x : Rw} {v : Value} (h : Full B w L k x v) {row : Option Nat} (hg : w.grownBy w' row) (hne : v.ownBlock = none ∨ v.ownBlock ≠ row) : Full B w' L k x v := by
  obtain ⟨y, c, rfl, ho, ha⟩ := h
  exact ⟨y, c, rfl, ho.kept hg hne, ha⟩
/-- an alien block is written, or none -/
theorem Got.kept {B : Nat} {w wr w' : World} {L : List Rw} {Q qo G i : Nat} {gv : List Value} (h : Got B w wr L Q qo G i gv) {row : Option Nat} (hg : wr.grownBy w' row)
    (h1 : ∀ (k : Nat) (z : Rw), L[k]? = some z → z.val.ownBlock = none ∨ z.val.ownBlock ≠ row) (h2 : ∀ (k : Nat) (v : Value), k < i → gv[k]? = some v → v.ownBlock = none ∨ v.ownBlock ≠ row) (h3 : row ≠ some G) (h4 : row ≠ some Q) (h5 : ∀ k, row = some k → (∃ (i : Nat) (x : Rw), L[i]? = some x ∧ x.val.ownBlock = some k) ∨ w.heap.size ≤ k) : Got B w w' L Q qo G i gv :=
  ⟨fun k z hz => (h.marked k z hz).kept hg (h1 k z hz), h.row.kept hg (Or.inr (by simpa [Value.ownBlock] using fun e => h3 e.symm)), fun k z hk hz => by
    obtain ⟨v, hv, hf⟩ := h.full k z hk hz
    exact ⟨v, hv, hf.kept hg (h2 k v hk hv)⟩, h.sit.kept hg h4, h.below.step hg h5⟩
/-- nothing old is written -/
theorem Got.fresh {B : Nat} {w wr w' : World} {L : List Rw} {Q qo G i : Nat} {gv : List Value} (h : Got B w wr L Q qo G i gv) (hg : wr.grownBy w' none) : Got B w w' L Q qo G i gv :=
  h.kept hg (fun k z hz => by
    rcases below_lt (h.marked k z hz) with h1 | ⟨b, h1, _⟩
    · exact Or.inl h1
    · exact Or.inr (by rw [h1]; simp)) (fun k v hk hv => by
    cases hb : v.ownBlock with
    | none => exact Or.inl rfl
    | some b => exact Or.inr (by simp)) (by simp) (by simp) (fun k hk => by cases hk)
/-- the list that grows is written within its room -/
theorem Got.room {B : Nat} {w wr w' : World} {L : List Rw} {Q qo G i H : Nat} {x : Rw} {gv : List Value} (hO : Old L Q G i H x gv) (hx : L[i]? = some x) (h : Got B w wr L Q qo G i gv) (hH : w.heap.size ≤ H) {y n c : Nat} (hcase : some y = x.val.ownBlock ∨ H ≤ y)
    (hg : wr.grownBy w' (some y)) {ys : List Value} (hn : x.2.2 ≤ n) (hold : wr.ownsRow B E 1 (.slice (some ⟨y, 0, none⟩) n c) n ys) {ys' : List Value} (hnew : w'.ownsRow B E 1 (.slice (some ⟨y, 0, none⟩) (n + 1) c) (n + 1) (List.replicate x.2.2 (m1 i) ++ ys')) : Got B w w' L Q qo G i gv := by
  have hL : ∀ (k : Nat) (z : Rw), k ≠ i → L[k]? = some z → z.val.ownBlock = none ∨ z.val.ownBlock ≠ some y := fun k z hk hz => by
    rcases hcase with e | e
    · rw [e]; exact hO.apart k z hk hz
    · rcases hO.lists k z hz with h1 | ⟨b, h1, h2⟩
      · exact Or.inl h1
      · exact Or.inr (by rw [h1]; simp; omega)
  have hm : Marked B w' L := fun k z hz => by
    by_cases hk : k = i
    · subst hk
      rw [hx] at hz
      obtain rfl := Option.some.inj hz
      by_cases he : x.val.ownBlock = some y
      · have hmi := h.marked k x hx
        unfold Rw.val at hmi he ⊢
        rcases shape hmi with ⟨h1, _⟩ | ⟨g, h1, _⟩
        · rw [h1] at he; simp [Value.ownBlock] at he
        · rw [h1] at he hmi ⊢
          obtain rfl : g = y := by simpa [Value.ownBlock] using he
          obtain rfl := same_cap hmi hold
          have hp := prefix_own hnew (k := x.2.2) (by omega)
          rwa [List.take_left' (by simp)] at hp
      · exact (h.marked k x hx).kept hg (Or.inr he)
    · exact (h.marked k z hz).kept hg (hL k z hk hz)
  refine ⟨hm, h.row.kept hg (Or.inr ?_), fun k z hk hz => ?_, h.sit.kept hg ?_, h.below.step hg (fun k hk => by
    obtain rfl : y = k := Option.some.inj hk
    rcases hcase with e | e
    · exact Or.inl ⟨i, x, hx, e.symm⟩
    · exact Or.inr (Nat.le_trans hH e))⟩
  · have : (Value.slice (some ⟨G, 0, none⟩) L.length L.length).ownBlock = some G := rfl
    rw [this]
    rcases hcase with e | e
    · rw [e]; exact fun h => hO.xg h.symm
    · have := hO.g; simp; omega
  · obtain ⟨v, hv, hf⟩ := h.full k z hk hz
    obtain ⟨h1, h2⟩ := hO.grown k v hk hv
    refine ⟨v, hv, hf.kept hg ?_⟩
    rcases hcase with e | e
    · rw [e]; exact h2
    · rcases h1 with h1 | ⟨b, h1, h3⟩
      · exact Or.inl h1
      · exact Or.inr (by rw [h1]; simp; omega)
  · rcases hcase with e | e
    · rw [e]; exact hO.xq
    · have := hO.q; simp; omega
theorem cell_new (w : World) (v : Value) (t : TypeId) : ∀ j u, [v][j]? = some u → (w.alloc (.cells #[v] t)).cell? ((⟨w.heap.size, 0, none⟩ : Addr).add j) = some u := by
  intro j u hj
  match j, hj with
  | 0, hj => simp at hj; subst hj; simp [Addr.add]
theorem make_rows (n : Nat) (hn : n ≤ 1000000) (w : World) :
    (Instr.makeSlice 96 (.int .i64 (n : Int)) (.int .i64 (n : Int))).run Tryd.prog w = .ok (.slice (some ⟨w.heap.size, 0, none⟩) n n) (w.alloc (.cells (madeCells #[.slice none 0 0] n) 40)) := by
  obtain ⟨i0, hi, hz0, hz1, hz2⟩ := info_parts infoS
  have h := run_make (P := Tryd.prog) w 96 40 i0 (.slice none 0 0) Tryd.underlying96 hi hz0 .i64 .i64 n n (by omega) (by omega) (by rw [hz2]; omega) (by omega)
  rw [hz1] at h
  simpa [Value.cells] using h
theorem rows_made (B : Nat) (w : World) (n : Nat) (hB : B ≤ w.heap.size) (hn : n ≤ 1000000) : (w.alloc (.cells (madeCells #[.slice none 0 0] n) 40)).ownsRow B 40 1 (.slice (some ⟨w.heap.size, 0, none⟩) n n) n (List.replicate n (.slice none 0 0)) := by
  refine ⟨by simp, Or.inr ⟨w.heap.size, n, madeCells #[.slice none 0 0] n, rfl, hB, ?_, Nat.le_refl _, by unfold maxLen; omega, by rw [size_madeCells, Nat.mul_one], ?_⟩⟩
  · show (w.heap.push _)[w.heap.size]? = _
    simp
  · rw [Nat.mul_one, toList_madeCells_one, List.take_of_length_le (by simp)]

def TruePost (L : List Rw) (w : World) (e : Ending) (w' : World) : Prop := e = .returned (.bool true) ∧ Fr L w w'
end Go.Proofs.YthhighljfjeooaaDoor.apartI
