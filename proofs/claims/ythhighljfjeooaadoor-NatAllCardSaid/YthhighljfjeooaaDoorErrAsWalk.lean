/- errors.as and errors.As by their contracts, at a target that is a pointer to a *api.Fault: the first Fault of the tree is stored, or none is found and old memory stays. -/
import Derived.Test.YthhighljfjeooaaDoorErrAsFacts
import Derived.Test.YthhighljfjeooaaDoorErrIsWalk
namespace Go.Proofs.YthhighljfjeooaaDoor
open Go.RowKit Go.Extern.Stop Go.Stop Go.Extern

/-- The target variable is there and may be written. -/
def Slot (w : World) (g : Nat) : Prop := g < w.heap.size ∧ (∃ old, w.cell? ⟨g, 0, none⟩ = some old) ∧ w.frozen? ⟨g, 0, none⟩ = false
theorem Slot.below {w w' : World} {g : Nat} (hb : Below w.heap.size w w') (h : Slot w g) : Slot w' g := by
  obtain ⟨h1, ⟨old, h2⟩, h3⟩ := h
  exact ⟨Nat.lt_of_lt_of_le h1 hb.size, ⟨old, (hb.cell (p := ⟨g, 0, none⟩) h1).trans h2⟩, (hb.frozen (p := ⟨g, 0, none⟩) h1).trans h3⟩

/-- reflectlite's Value of the target: its three cells in block v; the target's address in block u. -/
def Held (w : World) (v u g : Nat) : Prop := v < w.heap.size ∧ u < w.heap.size ∧ w.cell? ⟨v, 0, none⟩ = some (.pointer (some ⟨14, 107, none⟩)) ∧ w.cell? ⟨v, 1, none⟩ = some (.pointer (some ⟨u, 0, none⟩)) ∧ w.cell? ⟨v, 2, none⟩ = some (.int .u64 150) ∧ w.cell? ⟨u, 0, none⟩ = some (.pointer (some ⟨g, 0, none⟩))
theorem Held.below {w w' : World} {v u g : Nat} (hb : Below w.heap.size w w') (h : Held w v u g) : Held w' v u g := by
  obtain ⟨h1, h2, h3, h4, h5, h6⟩ := h
  exact ⟨Nat.lt_of_lt_of_le h1 hb.size, Nat.lt_of_lt_of_le h2 hb.size, (hb.cell (p := ⟨v, 0, none⟩) h1).trans h3, (hb.cell (p := ⟨v, 1, none⟩) h1).trans h4, (hb.cell (p := ⟨v, 2, none⟩) h1).trans h5, (hb.cell (p := ⟨u, 0, none⟩) h2).trans h6⟩

def AsPost (w : World) (g : Nat) (t : Tree) (e : Ending) (w' : World) : Prop :=
  (t.first = none ∧ e = .returned (.bool false) ∧ Below w.heap.size w w') ∨
  (∃ b, t.first = some b ∧ e = .returned (.bool true) ∧ Below g w w' ∧ w'.cell? ⟨g, 0, none⟩ = some (.pointer (some ⟨b, 0, none⟩)) ∧ w'.frozen? ⟨g, 0, none⟩ = false)

def AsRel (w : World) (g v u n : Nat) (t : Tree) (k : Nat) (x : Value) (wr : World) : Prop :=
  ∃ t' : Tree, x = t'.val ∧ t'.isNil = false ∧ t'.lies wr ∧ Slot wr g ∧ Held wr v u g ∧ t'.size ≤ k ∧ k ≤ n ∧ t'.first = t.first ∧ Below w.heap.size w wr

theorem eql_isNil' (t : Tree) (w : World) : (binOp .eql 48 t.val .nilIface).run Tryd.prog w = .ok (.bool t.isNil) w := eql_isNil t w

set_option maxRecDepth 100000 in
set_option maxHeartbeats 2000000 in
theorem as_any (n : Nat) : ∀ (t : Tree) (w : World) (g u : Nat), t.size ≤ n → t.isNil = false → t.lies w → Slot w g → u < w.heap.size → w.cell? ⟨u, 0, none⟩ = some (.pointer (some ⟨g, 0, none⟩)) →
    Calls Tryd.prog 102 #[t.val, .iface 107 (.pointer (some ⟨g, 0, none⟩)), .agg #[.pointer (some ⟨14, 107, none⟩), .pointer (some ⟨u, 0, none⟩), .int .u64 150], .iface 132 (.agg #[.pointer (some ⟨14, 105, none⟩)])] w (AsPost w g t) := by
  induction n with
  | zero =>
    intro t w g u hn
    cases t <;> simp [Tree.size] at hn
  | succ n ih =>
    intro t w g u hn hnil hl hs hu hcu
    have hB0 : Below w.heap.size w (w.alloc (.cells #[.pointer (some ⟨14, 107, none⟩), .pointer (some ⟨u, 0, none⟩), .int .u64 150] 121)) := (Below.refl _ _).alloc (Nat.le_refl _) _
    have hH0 : Held (w.alloc (.cells #[.pointer (some ⟨14, 107, none⟩), .pointer (some ⟨u, 0, none⟩), .int .u64 150] 121)) w.heap.size u g :=
      ⟨by simp, by simp; omega, by simp, by simp, by simp, (hB0.cell (p := ⟨u, 0, none⟩) hu).trans hcu⟩
    have hl0 := Tree.lies_below hB0 (t := t) hl
    have hs0 := hs.below hB0
    have hg : g < w.heap.size := hs.1
    clear hl hs hcu
    go_enter Tryd.func102, Tryd.ntmps102
    go_wp2_with fail
    go_loopg [0] (n + 1) (fun k x wr => AsRel w g w.heap.size u (n + 1) t k x wr)
    case atStart => exact ⟨t, rfl, hnil, hl0, hs0, hH0, hn, Nat.le_refl _, rfl, hB0⟩
    case round =>
      clear hl0 hs0 hH0 hnil hn hB0 hu
      obtain ⟨t', rfl, hnil', hl', hs', hH', hk, hkn, hh, hb⟩ := hrel
      have HH := Lib.hid hh
      clear hh
      have mA := asMethodAssignableTo
      cases t' with
      | nil => cases hnil'
      | leaf a =>
        have hv : (Tree.leaf a).val = .iface 147 (.pointer (some a)) := rfl
        have f0 := asTypeOf94
        have f1 := asAssignable94
        have f2 := noAs94
        have f3 := noU94
        have f4 := noV94
        clear hnil' hl' hs' hH'
        go_wp2
        go_ret
        exact Or.inl ⟨HH.out.symm, rfl, hb⟩
      | fault b op pl t1 =>
        have hv : (Tree.fault b op pl t1).val = .iface 105 (.pointer (some ⟨b, 0, none⟩)) := rfl
        obtain ⟨hs1, ⟨old, hs2⟩, hs3⟩ := hs'
        obtain ⟨v1, u1, c0, c1, c2, cu⟩ := hH'
        have f0 := asTypeOf44
        have f1 := asAssignable44
        have f2 := asElemV ⟨u, 0, none⟩ ⟨g, 0, none⟩ wr cu
        have f3 := asValueOf44
        have f4 := asSet ⟨g, 0, none⟩ ⟨wr.heap.size, 0, none⟩ ⟨b, 0, none⟩ old (wr.alloc (.cells #[.pointer (some ⟨b, 0, none⟩)] 105)) (by simp) (by rw [World.cell?_alloc_lt _ _ ⟨g, 0, none⟩ hs1]; exact hs2) (by rw [World.frozen?_alloc_old _ _ ⟨g, 0, none⟩ (Nat.ne_of_lt hs1)]; exact hs3)
        clear hnil' hl' hk hkn
        go_wp2
        go_ret
        exact Or.inr ⟨b, HH.out.symm, rfl, ((hb.mono (Nat.le_of_lt hg)).setCell (Nat.le_refl _) _).alloc (by simp; omega) _, (World.cell?_alloc_lt _ _ _ (by simpa using hs1)).trans (World.cell?_setCell_same _ _ _ hs2), (World.frozen?_alloc_old _ _ _ (by simp; omega)).trans (by simpa using hs3)⟩
/-- errors' own variable errorType holds the handle of the type 'error'. -/
def TypeVar (w : World) : Prop := w.cell? ⟨12, 0, none⟩ = some (.iface 132 (.agg #[.pointer (some ⟨14, 48, none⟩)]))
theorem cell_lt {w : World} {a : Addr} {v : Value} (h : w.cell? a = some v) : a.block < w.heap.size := by
  rcases Nat.lt_or_ge a.block w.heap.size with k | k
  · exact k
  · simp [World.cell?, Array.getElem?_eq_none k] at h
theorem TypeVar.below {w w' : World} (hb : Below w.heap.size w w') (h : TypeVar w) : TypeVar w' := (hb.cell (p := ⟨12, 0, none⟩) (cell_lt h)).trans h

theorem AsPost.mono {w W : World} {g : Nat} {t : Tree} {e : Ending} {w' : World} (hB : Below w.heap.size w W) (hg : g < w.heap.size) (h : AsPost W g t e w') : AsPost w g t e w' := by
  rcases h with ⟨h1, h2, h3⟩ | ⟨b, h1, h2, h3, h4⟩
  · exact Or.inl ⟨h1, h2, hB.trans (h3.mono hB.size)⟩
  · exact Or.inr ⟨b, h1, h2, (hB.mono (Nat.le_of_lt hg)).trans h3, h4⟩

set_option maxHeartbeats 1000000 in
theorem errorsAs (t : Tree) (w : World) (g : Nat) (hl : t.lies w) (hs : Slot w g) (hT : TypeVar w) :
    Calls Tryd.prog 88 #[t.val, .iface 107 (.pointer (some ⟨g, 0, none⟩))] w (AsPost w g t) := by
  have hn1 := eql_isNil t
  have hn2 := guard_isNil t
  by_cases hnn : t.isNil = true
  · obtain rfl := Tree.val_isNil _ hnn
    go_enter Tryd.func88, Tryd.ntmps88
    go_wp2
    go_ret
    exact Or.inl ⟨rfl, rfl, Below.refl _ _⟩
  · have hnn : t.isNil = false := by simpa using hnn
    have H := Lib.hid hnn
    have hB1 : Below w.heap.size w (w.alloc (.cells #[.pointer (some ⟨g, 0, none⟩)] 107)) := (Below.refl _ _).alloc (Nat.le_refl _) _
    have hB2 : Below w.heap.size w ((w.alloc (.cells #[.pointer (some ⟨g, 0, none⟩)] 107)).alloc (.cells #[.pointer (some ⟨14, 107, none⟩), .pointer (some ⟨w.heap.size, 0, none⟩), .int .u64 150] 121)) := hB1.alloc (by simp) _
    have hc := as_any t.size t ((w.alloc (.cells #[.pointer (some ⟨g, 0, none⟩)] 107)).alloc (.cells #[.pointer (some ⟨14, 107, none⟩), .pointer (some ⟨w.heap.size, 0, none⟩), .int .u64 150] 121)) g w.heap.size (Nat.le_refl _) hnn (Tree.lies_below hB2 (t := t) hl) (hs.below hB2) (by simp; omega) (by rw [World.cell?_alloc_lt _ _ ⟨w.heap.size, 0, none⟩ (by simp)]; simp)
    have f1 := asValueOf46
    have f2 := asType46
    have f3 := asMethodKind
    have f4 := asMethodElem
    have f5 := asMethodImplements
    have f6 := asKind46
    have f7 := asKind44
    have f8 := asElem46
    have f9 := asImplements
    have f10 := asIsNil ⟨w.heap.size, 0, none⟩ ⟨g, 0, none⟩ ((w.alloc (.cells #[.pointer (some ⟨g, 0, none⟩)] 107)).alloc (.cells #[.pointer (some ⟨14, 107, none⟩), .pointer (some ⟨w.heap.size, 0, none⟩), .int .u64 150] 121)) (by rw [World.cell?_alloc_lt _ _ ⟨w.heap.size, 0, none⟩ (by simp)]; simp)
    have hv : ((w.alloc (.cells #[.pointer (some ⟨g, 0, none⟩)] 107)).alloc (.cells #[.pointer (some ⟨14, 107, none⟩), .pointer (some ⟨w.heap.size, 0, none⟩), .int .u64 150] 121)).cell? ⟨12, 0, none⟩ = some (.iface 132 (.agg #[.pointer (some ⟨14, 48, none⟩)])) := hT.below hB2
    have hg := hs.1
    have HH := Lib.hid (And.intro hl (And.intro hs hT))
    clear hl hs hT
    go_enter Tryd.func88, Tryd.ntmps88
    go_wp2_with fail
    refine hc.mono ?_
    intro e w' h
    have hp := h.mono hB2 hg
    clear h hc
    rcases hp with ⟨h1, rfl, h3⟩ | ⟨b, h1, rfl, h3, h4⟩
    · go_wp2_with fail
      go_ret
      exact Or.inl ⟨h1, rfl, h3⟩
    · go_wp2_with fail
      go_ret
      exact Or.inr ⟨b, h1, rfl, h3, h4⟩
end Go.Proofs.YthhighljfjeooaaDoor
