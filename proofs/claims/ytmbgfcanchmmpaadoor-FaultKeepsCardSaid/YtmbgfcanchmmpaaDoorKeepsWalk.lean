/- FaultKeeps, first part: lists of texts held against each other; what the loops hand on. -/
import Derived.Test.YtmbgfcanchmmpaaDoorWrapsWalk
import Derived.Maps.AppendAt
import Derived.ArgAppend
import Derived.Deep.DeepAppendRoom
import Derived.Deep.QuietTactic
import Derived.BigQuiet
namespace Go.Proofs.YtmbgfcanchmmpaaDoor
open Go.RowKit Go.Extern.Stop Go.Stop Go.Extern

/-- The first n cells of a block. -/
def Has (w : World) (g n : Nat) (xs : List Value) : Prop := ∀ j, j < n → w.cell? ⟨g, j, none⟩ = xs[j]?
def strVals (l : List ByteArray) : List Value := l.map Value.string

set_option maxHeartbeats 1000000 in
theorem texts_same (l : List ByteArray) (g c g' c' : Nat) (w : World) (hg : Has w g l.length (strVals l)) (hg' : Has w g' l.length (strVals l)) (hb : g < w.heap.size) (hb' : g' < w.heap.size) (hl : l.length ≤ 1048576) :
    Calls Tryd.prog 27 #[.slice (some ⟨g, 0, none⟩) l.length c, .slice (some ⟨g', 0, none⟩) l.length c'] w (AwakePost w) := by
  have HG := Lib.hid (And.intro hg hg')
  clear hg hg'
  go_enter Tryd.func27, Tryd.ntmps27
  go_wp2_with fail
  go_loopw [5] (fun v wx => ∃ k : Nat, k ≤ l.length ∧ v = .int .i64 k ∧ Below w.heap.size w wx) (fun i _ => l.length - (intOf i).toNat)
  case atStart => exact ⟨0, Nat.zero_le _, rfl, Below.refl _ _⟩
  case round =>
    obtain ⟨k, hk, rfl, hbx⟩ := hrel
    by_cases hlt : k < l.length
    · have h1 : wr.cell? ⟨g, k, none⟩ = some (.string l[k]) := (hbx.cell (p := ⟨g, k, none⟩) hb).trans ((HG.out.1 k hlt).trans (by simp [strVals, hlt]))
      have h2 : wr.cell? ⟨g', k, none⟩ = some (.string l[k]) := (hbx.cell (p := ⟨g', k, none⟩) hb').trans ((HG.out.2 k hlt).trans (by simp [strVals, hlt]))
      obtain ⟨s, hs⟩ : ∃ s, s = l[k] := ⟨_, rfl⟩
      rw [← hs] at h1 h2
      clear hs
      go_wp2_with fail
      go_quiet (fail)
      go_wp2_with fail
      go_roundw
      case rel => exact ⟨k + 1, by omega, by go_num, below_drewN hbx _⟩
      case measure => simp [intOf]; omega
    · obtain rfl : k = l.length := by omega
      go_wp2_with fail
      go_ret
      exact ⟨rfl, hbx⟩

/-- What the building loop hands on. -/
def Keep1 (w0 : World) (A : Nat → Addr) (m : Nat) (ss : List ByteArray) (n : Nat) (v5 v6 : Value) (wr : World) : Prop :=
  ∃ (k : Nat) (t : Tree), k ≤ n ∧ v6 = .int .i64 k ∧ v5 = t.val ∧ t.lies wr ∧ Ends A m t ∧ opTexts t = (ss.take k).reverse ++ [rootText] ∧ Below w0.heap.size w0 wr

/-- The slices of FaultKeeps that stand beside each other. -/
structure Side (wb wr : World) (gb cb g9 c9 : Nat) (l : List ByteArray) : Prop where
  b : wr.ownsRow wb.heap.size 9 1 (.slice (some ⟨gb, 0, none⟩) l.length cb) l.length (strVals l)
  k : wr.ownsRow wb.heap.size 9 1 (.slice (some ⟨g9, 0, none⟩) l.length c9) l.length (strVals l)
  below : Below wb.heap.size wb wr

theorem Side.grown {wb wr w' : World} {gb cb g9 c9 : Nat} {l : List ByteArray} (h : Side wb wr gb cb g9 c9 l) {x : Nat} (hg : wr.grownBy w' (some x)) (hx : wb.heap.size ≤ x) (h1 : x ≠ gb) (h2 : x ≠ g9) : Side wb w' gb cb g9 c9 l :=
  ⟨h.b.kept hg (Or.inr (by simp [Value.ownBlock]; omega)), h.k.kept hg (Or.inr (by simp [Value.ownBlock]; omega)), h.below.grown hg h.below.size (fun k hk => by cases hk; exact hx)⟩
theorem Side.alloc {wb wr : World} {gb cb g9 c9 : Nat} {l : List ByteArray} (h : Side wb wr gb cb g9 c9 l) (o : Obj) : Side wb (wr.alloc o) gb cb g9 c9 l :=
  ⟨h.b.alloc o, h.k.alloc o, h.below.alloc h.below.size o⟩

def Keep2 (wb : World) (ga ca gb cb g9 c9 : Nat) (l : List ByteArray) (mark : ByteArray) (v10 : Value) (wr : World) : Prop :=
  ∃ k : Nat, k ≤ l.length ∧ v10 = .int .i64 k ∧ wr.ownsRow wb.heap.size 9 1 (.slice (some ⟨ga, 0, none⟩) l.length ca) l.length (List.replicate k (.string mark) ++ (strVals l).drop k) ∧ Side wb wr gb cb g9 c9 l
def Keep3 (wb : World) (gb cb g9 c9 : Nat) (l : List ByteArray) (mark : ByteArray) (v11 v13 : Value) (wr : World) : Prop :=
  ∃ k y c : Nat, k ≤ 20 ∧ v13 = .int .i64 k ∧ v11 = .slice (some ⟨y, 0, none⟩) (l.length + k) c ∧ wr.ownsRow wb.heap.size 9 1 v11 (l.length + k) (List.replicate (l.length + k) (.string mark)) ∧ y ≠ gb ∧ y ≠ g9 ∧ Side wb wr gb cb g9 c9 l
/-- While h grows: b by its cells, keep, and g. -/
structure Side4 (wb wr : World) (gb g9 c9 y c : Nat) (l : List ByteArray) (mark : ByteArray) : Prop where
  b : Has wr gb l.length (strVals l)
  blt : gb < wr.heap.size
  k : wr.ownsRow wb.heap.size 9 1 (.slice (some ⟨g9, 0, none⟩) l.length c9) l.length (strVals l)
  g : wr.ownsRow wb.heap.size 9 1 (.slice (some ⟨y, 0, none⟩) (l.length + 20) c) (l.length + 20) (List.replicate (l.length + 20) (.string mark))
  below : Below wb.heap.size wb wr
def Keep4 (wb : World) (gb g9 c9 y c : Nat) (l : List ByteArray) (mark bang : ByteArray) (v12 v14 : Value) (wr : World) : Prop :=
  ∃ k x d : Nat, k ≤ 20 ∧ v14 = .int .i64 k ∧ v12 = .slice (some ⟨x, 0, none⟩) (l.length + k) d ∧ wr.ownsRow wb.heap.size 9 1 v12 (l.length + k) (strVals l ++ List.replicate k (.string bang)) ∧ x ≠ g9 ∧ x ≠ y ∧ Side4 wb wr gb g9 c9 y c l mark

theorem Side4.grow {wb wr w' : World} {gb g9 c9 y c : Nat} {l : List ByteArray} {mark : ByteArray} (h : Side4 wb wr gb g9 c9 y c l mark) (hg : wr.grownBy w' none) : Side4 wb w' gb g9 c9 y c l mark :=
  ⟨fun j hj => (World.cell?_of_block (hg.block gb h.blt (by simp))).trans (h.b j hj), Nat.lt_of_lt_of_le h.blt hg.size, h.k.kept hg (Or.inr (by simp [Value.ownBlock])), h.g.kept hg (Or.inr (by simp [Value.ownBlock])),
    h.below.grown hg h.below.size (fun k hk => by cases hk)⟩
theorem Side4.alloc {wb wr : World} {gb g9 c9 y c : Nat} {l : List ByteArray} {mark : ByteArray} (h : Side4 wb wr gb g9 c9 y c l mark) (o : Obj) : Side4 wb (wr.alloc o) gb g9 c9 y c l mark :=
  h.grow (World.grownBy_alloc wr o none)
/-- h grows within its own room: b's cells are in front of it. -/
theorem Side4.room {wb wr w' : World} {gb g9 c9 y c x d n : Nat} {l : List ByteArray} {mark : ByteArray} {ys : List Value} (h : Side4 wb wr gb g9 c9 y c l mark) (hg : wr.grownBy w' (some x)) (hx : wb.heap.size ≤ x)
    (h1 : x ≠ g9) (h2 : x ≠ y) (hn : l.length ≤ n) (hown : w'.ownsRow wb.heap.size 9 1 (.slice (some ⟨x, 0, none⟩) n d) n (strVals l ++ ys)) : Side4 wb w' gb g9 c9 y c l mark := by
  refine ⟨fun j hj => ?_, Nat.lt_of_lt_of_le h.blt hg.size, h.k.kept hg (Or.inr (by simp [Value.ownBlock]; omega)), h.g.kept hg (Or.inr (by simp [Value.ownBlock]; omega)), h.below.grown hg h.below.size (fun k hk => by cases hk; exact hx)⟩
  by_cases e : gb = x
  · subst e
    have := hown.cellAt j (by omega)
    rw [this, List.getElem?_append_left (by simp [strVals]; omega)]
  · exact (World.cell?_of_block (hg.block gb h.blt (by simp; omega))).trans (h.b j hj)
theorem set_step {l : List Value} {k : Nat} {m : Value} (hk : k < l.length) : (List.replicate k m ++ l.drop k).set k m = List.replicate (k + 1) m ++ l.drop (k + 1) := by
  rw [List.set_append_right _ _ (by simp), List.length_replicate, Nat.sub_self, List.drop_eq_getElem_cons hk, List.set_cons_zero, List.replicate_succ', List.append_assoc]
  rfl
end Go.Proofs.YtmbgfcanchmmpaaDoor
