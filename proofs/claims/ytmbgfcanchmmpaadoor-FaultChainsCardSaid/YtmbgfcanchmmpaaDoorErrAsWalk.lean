/- errors.as and errors.As by their contracts, at a target that is a pointer to a *api.Fault: the first Fault of the tree is stored, or none is found and old memory stays. -/
import Derived.Test.YtmbgfcanchmmpaaDoorErrAsFacts
import Derived.Test.YtmbgfcanchmmpaaDoorErrIsWalk
namespace Go.Proofs.YtmbgfcanchmmpaaDoor
open Go.RowKit Go.Extern.Stop Go.Stop Go.Extern

/-- The target variable is there and may be written. -/
def Slot (w : World) (g : Nat) : Prop := g < w.heap.size ∧ (∃ old, w.cell? ⟨g, 0, none⟩ = some old) ∧ w.frozen? ⟨g, 0, none⟩ = false
theorem Slot.below {w w' : World} {g : Nat} (hb : Below w.heap.size w w') (h : Slot w g) : Slot w' g := by
  obtain ⟨h1, ⟨old, h2⟩, h3⟩ := h
  exact ⟨Nat.lt_of_lt_of_le h1 hb.size, ⟨old, (hb.cell (p := ⟨g, 0, none⟩) h1).trans h2⟩, (hb.frozen (p := ⟨g, 0, none⟩) h1).trans h3⟩

/-- reflectlite's Value of the target: its three cells in block v; the target's address in block u. -/
def Held (w : World) (v u g : Nat) : Prop := v < w.heap.size ∧ u < w.heap.size ∧ w.cell? ⟨v, 0, none⟩ = some (.pointer (some ⟨16, 46, none⟩)) ∧ w.cell? ⟨v, 1, none⟩ = some (.pointer (some ⟨u, 0, none⟩)) ∧ w.cell? ⟨v, 2, none⟩ = some (.int .u64 150) ∧ w.cell? ⟨u, 0, none⟩ = some (.pointer (some ⟨g, 0, none⟩))
theorem Held.below {w w' : World} {v u g : Nat} (hb : Below w.heap.size w w') (h : Held w v u g) : Held w' v u g := by
  obtain ⟨h1, h2, h3, h4, h5, h6⟩ := h
  exact ⟨Nat.lt_of_lt_of_le h1 hb.size, Nat.lt_of_lt_of_le h2 hb.size, (hb.cell (p := ⟨v, 0, none⟩) h1).trans h3, (hb.cell (p := ⟨v, 1, none⟩) h1).trans h4, (hb.cell (p := ⟨v, 2, none⟩) h1).trans h5, (hb.cell (p := ⟨u, 0, none⟩) h2).trans h6⟩

def AsPost (w : World) (g : Nat) (t : Tree) (e : Ending) (w' : World) : Prop :=
  (t.first = none ∧ e = .returned (.bool false) ∧ Below w.heap.size w w') ∨
  (∃ b, t.first = some b ∧ e = .returned (.bool true) ∧ Below g w w' ∧ w'.cell? ⟨g, 0, none⟩ = some (.pointer (some ⟨b, 0, none⟩)) ∧ w'.frozen? ⟨g, 0, none⟩ = false)

def AsRel (w : World) (g v u n : Nat) (t : Tree) (k : Nat) (x : Value) (wr : World) : Prop :=
  ∃ t' : Tree, x = t'.val ∧ t'.isNil = false ∧ t'.lies wr ∧ Slot wr g ∧ Held wr v u g ∧ t'.size ≤ k ∧ k ≤ n ∧ t'.first = t.first ∧ Below w.heap.size w wr

theorem eql_isNil' (t : Tree) (w : World) : (binOp .eql 28 t.val .nilIface).run Tryd.prog w = .ok (.bool t.isNil) w := eql_isNil t w

set_option maxRecDepth 100000 in
set_option maxHeartbeats 2000000 in
theorem as_any (n : Nat) : ∀ (t : Tree) (w : World) (g u : Nat), t.size ≤ n → t.isNil = false → t.lies w → Slot w g → u < w.heap.size → w.cell? ⟨u, 0, none⟩ = some (.pointer (some ⟨g, 0, none⟩)) →
    Calls Tryd.prog 40 #[t.val, .iface 46 (.pointer (some ⟨g, 0, none⟩)), .agg #[.pointer (some ⟨16, 46, none⟩), .pointer (some ⟨u, 0, none⟩), .int .u64 150], .iface 98 (.agg #[.pointer (some ⟨16, 44, none⟩)])] w (AsPost w g t) := by
  induction n with
  | zero =>
    intro t w g u hn
    cases t <;> simp [Tree.size] at hn
  | succ n ih =>
    intro t w g u hn hnil hl hs hu hcu
    have hB0 : Below w.heap.size w (w.alloc (.cells #[.pointer (some ⟨16, 46, none⟩), .pointer (some ⟨u, 0, none⟩), .int .u64 150] 80)) := (Below.refl _ _).alloc (Nat.le_refl _) _
    have hH0 : Held (w.alloc (.cells #[.pointer (some ⟨16, 46, none⟩), .pointer (some ⟨u, 0, none⟩), .int .u64 150] 80)) w.heap.size u g :=
      ⟨by simp, by simp; omega, by simp, by simp, by simp, (hB0.cell (p := ⟨u, 0, none⟩) hu).trans hcu⟩
    have hl0 := Tree.lies_below hB0 (t := t) hl
    have hs0 := hs.below hB0
    have hg : g < w.heap.size := hs.1
    clear hl hs hcu
    go_enter Tryd.func40, Tryd.ntmps40
    go_wp2_with fail
    go_loopg [0] (n + 1) (fun k x wr => AsRel w g w.heap.size u (n + 1) t k x wr)
    case atStart => exact ⟨t, rfl, hnil, hl0, hs0, hH0, hn, Nat.le_refl _, rfl, hB0⟩
    case round =>
      clear hl0 hs0 hH0 hnil hn hB0 hu
      obtain ⟨t', rfl, hnil', hl', hs', hH', hk, hkn, hh, hb⟩ := hrel
      have HH := Lib.hid hh
      clear hh
      have mA := asMethodAssignableTo
      cases t' with
      | nil => cases hnil'
      | leaf a =>
        have hv : (Tree.leaf a).val = .iface 94 (.pointer (some a)) := rfl
        have f0 := asTypeOf94
        have f1 := asAssignable94
        have f2 := noAs94
        have f3 := noU94
        have f4 := noV94
        clear hnil' hl' hs' hH'
        go_wp2
        go_ret
        exact Or.inl ⟨HH.out.symm, rfl, hb⟩
      | fault b op pl t1 =>
        have hv : (Tree.fault b op pl t1).val = .iface 44 (.pointer (some ⟨b, 0, none⟩)) := rfl
        obtain ⟨hs1, ⟨old, hs2⟩, hs3⟩ := hs'
        obtain ⟨v1, u1, c0, c1, c2, cu⟩ := hH'
        have f0 := asTypeOf44
        have f1 := asAssignable44
        have f2 := asElemV ⟨u, 0, none⟩ ⟨g, 0, none⟩ wr cu
        have f3 := asValueOf44
        have f4 := asSet ⟨g, 0, none⟩ ⟨wr.heap.size, 0, none⟩ ⟨b, 0, none⟩ old (wr.alloc (.cells #[.pointer (some ⟨b, 0, none⟩)] 44)) (by simp) (by rw [World.cell?_alloc_lt _ _ ⟨g, 0, none⟩ hs1]; exact hs2) (by rw [World.frozen?_alloc_old _ _ ⟨g, 0, none⟩ (Nat.ne_of_lt hs1)]; exact hs3)
        clear hnil' hl' hk hkn
        go_wp2
        go_ret
        exact Or.inr ⟨b, HH.out.symm, rfl, ((hb.mono (Nat.le_of_lt hg)).setCell (Nat.le_refl _) _).alloc (by simp; omega) _, (World.cell?_alloc_lt _ _ _ (by simpa using hs1)).trans (World.cell?_setCell_same _ _ _ hs2), (World.frozen?_alloc_old _ _ _ (by simp; omega)).trans (by simpa using hs3)⟩
      | own t1 =>
        have hv : (Tree.own t1).val = .iface 58 (.agg #[t1.val]) := rfl
        have f0 := asTypeOf58
        have f1 := asAssignable58
        have f2 := noAs58
        have f3 := hasU58
        have mU := methodU58
        have hn1 := eql_isNil t1
        have hn2 := guard_isNil t1
        have hl1 : t1.lies wr := hl'
        clear hnil'
        by_cases hnn : t1.isNil = true
        · obtain rfl := Tree.val_isNil _ hnn
          go_wp2_with (go_at_call 80; refine (unwrap58 Tree.nil.val _).mono ?_; rintro e w' ⟨rfl, hb1⟩)
          go_ret
          exact Or.inl ⟨HH.out.symm, rfl, hb.trans (hb1.mono hb.size)⟩
        · have hnn : t1.isNil = false := by simpa using hnn
          have H1 := Lib.hid hnn
          go_wp2_with (go_at_call 80; refine (unwrap58 t1.val _).mono ?_; rintro e w' ⟨rfl, hb1⟩)
          go_roundg t1.size
          case rel => exact ⟨t1, rfl, H1.out, Tree.lies_below hb1 (t := t1) hl1, hs'.below hb1, hH'.below hb1, Nat.le_refl _, by simp only [Tree.size] at hk; omega, HH.out, hb.trans (hb1.mono hb.size)⟩
          case measure => simp only [Tree.size] at hk; omega
      | shut t1 =>
        have hv : (Tree.shut t1).val = .iface 60 (.agg #[t1.val]) := rfl
        have f0 := asTypeOf60
        have f1 := asAssignable60
        have f2 := noAs60
        have f3 := noU60
        have f4 := noV60
        clear hnil' hl' hs' hH'
        go_wp2
        go_ret
        exact Or.inl ⟨HH.out.symm, rfl, hb⟩
      | both t1 t2 =>
        have hv : (Tree.both t1 t2).val = .iface 62 (.agg #[t1.val, t2.val]) := rfl
        have f0 := asTypeOf62
        have f1 := asAssignable62
        have f2 := noAs62
        have f3 := noU62
        have f4 := hasV62
        have mU := methodU62
        have hs1 : t1.size ≤ n := by simp only [Tree.size] at hk; omega
        have hs2 : t2.size ≤ n := by simp only [Tree.size] at hk; omega
        have hl1 : t1.lies wr := hl'.1
        have hl2 : t2.lies wr := hl'.2
        have hn1 := eql_isNil t1
        have hn2 := guard_isNil t1
        have hm1 := eql_isNil t2
        have hm2 := guard_isNil t2
        have e1 : (Tree.both t1 t2).first = (match t1.first with | some b => some b | none => t2.first) := rfl
        rw [e1] at HH
        clear e1 hk hl' hnil'
        go_wp2_with (go_at_call 83; refine (unwrap62 t1.val t2.val _ t1.val_shape t2.val_shape).mono ?_; rintro e w1 ⟨b, rfl, hb1, hlt, hge, hc0, hc1⟩)
        have hH1 := hH'.below hb1
        have hB1 : Below w.heap.size w w1 := hb.trans (hb1.mono hb.size)
        refine wp_loop_rounds 3 ?_
        rw [rounds_succ]
        by_cases hnn1 : t1.isNil = true
        · obtain rfl := Tree.val_isNil _ hnn1
          clear hnn1
          have HH : Hid (t2.first = t.first) := HH
          have hH2 := hH1
          have hB := hB1
          obtain ⟨v1, u1, d0, d1, d2, du⟩ := hH1
          go_wp2_with fail
          clear hc0
          rw [rounds_succ]
          by_cases hnn2 : t2.isNil = true
          · obtain rfl := Tree.val_isNil _ hnn2
            clear hnn2
            go_wp2_with fail
            rw [rounds_succ]
            go_wp2_with fail
            go_ret
            exact Or.inl ⟨HH.out.symm, rfl, hB⟩
          · have hnn2 : t2.isNil = false := by simpa using hnn2
            have hc := ih t2 w1 g u hs2 hnn2 (Tree.lies_below hb1 (t := t2) hl2) (hs'.below hb1) hH2.2.1 hH2.2.2.2.2.2
            go_wp2_with fail
            refine hc.mono ?_
            clear hc
            rintro e w3 (⟨hf2, rfl, hb3⟩ | ⟨b2, hf2, rfl, hb3, hq1, hq2⟩)
            · go_wp2_with fail
              rw [rounds_succ]
              go_wp2_with fail
              go_ret
              exact Or.inl ⟨HH.out.symm.trans hf2, rfl, hB.trans (hb3.mono hB.size)⟩
            · go_wp2_with fail
              go_ret
              exact Or.inr ⟨b2, HH.out.symm.trans hf2, rfl, (hB.mono (Nat.le_of_lt hg)).trans hb3, hq1, hq2⟩
        · have hnn1 : t1.isNil = false := by simpa using hnn1
          have hc := ih t1 w1 g u hs1 hnn1 (Tree.lies_below hb1 (t := t1) hl1) (hs'.below hb1) hH1.2.1 hH1.2.2.2.2.2
          obtain ⟨v1, u1, d0, d1, d2, du⟩ := hH1
          go_wp2_with fail
          refine hc.mono ?_
          clear hc
          rintro e w2 (⟨hf1, rfl, hb2⟩ | ⟨b1, hf1, rfl, hb2, hq1, hq2⟩)
          · rw [hf1] at HH
            have HH : Hid (t2.first = t.first) := HH
            have hB12 : Below wr.heap.size wr w2 := hb1.trans (hb2.mono hb1.size)
            have hH2 := hH'.below hB12
            have hB : Below w.heap.size w w2 := hb.trans (hB12.mono hb.size)
            have hd1 : w2.cell? ⟨b, 1, none⟩ = some t2.val := (hb2.cell (p := ⟨b, 1, none⟩) hlt).trans hc1
            clear hf1 hc1 d0 d1 d2 du
            obtain ⟨v1, u1, d0, d1, d2, du⟩ := hH'.below hB12
            go_wp2_with fail
            clear hc0 hb2
            rw [rounds_succ]
            by_cases hnn2 : t2.isNil = true
            · obtain rfl := Tree.val_isNil _ hnn2
              clear hnn2
              go_wp2_with fail
              rw [rounds_succ]
              go_wp2_with fail
              go_ret
              exact Or.inl ⟨HH.out.symm, rfl, hB⟩
            · have hnn2 : t2.isNil = false := by simpa using hnn2
              have hc := ih t2 w2 g u hs2 hnn2 (Tree.lies_below hB12 (t := t2) hl2) (hs'.below hB12) hH2.2.1 hH2.2.2.2.2.2
              go_wp2_with fail
              refine hc.mono ?_
              clear hc
              rintro e w3 (⟨hf2, rfl, hb3⟩ | ⟨b2, hf2, rfl, hb3, hq1, hq2⟩)
              · go_wp2_with fail
                rw [rounds_succ]
                go_wp2_with fail
                go_ret
                exact Or.inl ⟨HH.out.symm.trans hf2, rfl, hB.trans (hb3.mono hB.size)⟩
              · go_wp2_with fail
                go_ret
                exact Or.inr ⟨b2, HH.out.symm.trans hf2, rfl, (hB.mono (Nat.le_of_lt hg)).trans hb3, hq1, hq2⟩
          · rw [hf1] at HH
            go_wp2_with fail
            go_ret
            exact Or.inr ⟨b1, HH.out.symm, rfl, (hB1.mono (Nat.le_of_lt hg)).trans hb2, hq1, hq2⟩
/-- errors' own variable errorType holds the handle of the type 'error'. -/
def TypeVar (w : World) : Prop := w.cell? ⟨1, 0, none⟩ = some (.iface 98 (.agg #[.pointer (some ⟨16, 28, none⟩)]))
theorem cell_lt {w : World} {a : Addr} {v : Value} (h : w.cell? a = some v) : a.block < w.heap.size := by
  rcases Nat.lt_or_ge a.block w.heap.size with k | k
  · exact k
  · simp [World.cell?, Array.getElem?_eq_none k] at h
theorem TypeVar.below {w w' : World} (hb : Below w.heap.size w w') (h : TypeVar w) : TypeVar w' := (hb.cell (p := ⟨1, 0, none⟩) (cell_lt h)).trans h

theorem AsPost.mono {w W : World} {g : Nat} {t : Tree} {e : Ending} {w' : World} (hB : Below w.heap.size w W) (hg : g < w.heap.size) (h : AsPost W g t e w') : AsPost w g t e w' := by
  rcases h with ⟨h1, h2, h3⟩ | ⟨b, h1, h2, h3, h4⟩
  · exact Or.inl ⟨h1, h2, hB.trans (h3.mono hB.size)⟩
  · exact Or.inr ⟨b, h1, h2, (hB.mono (Nat.le_of_lt hg)).trans h3, h4⟩

set_option maxHeartbeats 1000000 in
theorem errorsAs (t : Tree) (w : World) (g : Nat) (hl : t.lies w) (hs : Slot w g) (hT : TypeVar w) :
    Calls Tryd.prog 20 #[t.val, .iface 46 (.pointer (some ⟨g, 0, none⟩))] w (AsPost w g t) := by
  have hn1 := eql_isNil t
  have hn2 := guard_isNil t
  by_cases hnn : t.isNil = true
  · obtain rfl := Tree.val_isNil _ hnn
    go_enter Tryd.func20, Tryd.ntmps20
    go_wp2
    go_ret
    exact Or.inl ⟨rfl, rfl, Below.refl _ _⟩
  · have hnn : t.isNil = false := by simpa using hnn
    have H := Lib.hid hnn
    have hB1 : Below w.heap.size w (w.alloc (.cells #[.pointer (some ⟨g, 0, none⟩)] 46)) := (Below.refl _ _).alloc (Nat.le_refl _) _
    have hB2 : Below w.heap.size w ((w.alloc (.cells #[.pointer (some ⟨g, 0, none⟩)] 46)).alloc (.cells #[.pointer (some ⟨16, 46, none⟩), .pointer (some ⟨w.heap.size, 0, none⟩), .int .u64 150] 80)) := hB1.alloc (by simp) _
    have hc := as_any t.size t ((w.alloc (.cells #[.pointer (some ⟨g, 0, none⟩)] 46)).alloc (.cells #[.pointer (some ⟨16, 46, none⟩), .pointer (some ⟨w.heap.size, 0, none⟩), .int .u64 150] 80)) g w.heap.size (Nat.le_refl _) hnn (Tree.lies_below hB2 (t := t) hl) (hs.below hB2) (by simp; omega) (by rw [World.cell?_alloc_lt _ _ ⟨w.heap.size, 0, none⟩ (by simp)]; simp)
    have f1 := asValueOf46
    have f2 := asType46
    have f3 := asMethodKind
    have f4 := asMethodElem
    have f5 := asMethodImplements
    have f6 := asKind46
    have f7 := asKind44
    have f8 := asElem46
    have f9 := asImplements
    have f10 := asIsNil ⟨w.heap.size, 0, none⟩ ⟨g, 0, none⟩ ((w.alloc (.cells #[.pointer (some ⟨g, 0, none⟩)] 46)).alloc (.cells #[.pointer (some ⟨16, 46, none⟩), .pointer (some ⟨w.heap.size, 0, none⟩), .int .u64 150] 80)) (by rw [World.cell?_alloc_lt _ _ ⟨w.heap.size, 0, none⟩ (by simp)]; simp)
    have hv : ((w.alloc (.cells #[.pointer (some ⟨g, 0, none⟩)] 46)).alloc (.cells #[.pointer (some ⟨16, 46, none⟩), .pointer (some ⟨w.heap.size, 0, none⟩), .int .u64 150] 80)).cell? ⟨1, 0, none⟩ = some (.iface 98 (.agg #[.pointer (some ⟨16, 28, none⟩)])) := hT.below hB2
    have hg := hs.1
    have HH := Lib.hid (And.intro hl (And.intro hs hT))
    clear hl hs hT
    go_enter Tryd.func20, Tryd.ntmps20
    go_wp2_with fail
    refine hc.mono ?_
    intro e w' h
    have hp := h.mono hB2 hg
    clear h hc
    rcases hp with ⟨h1, rfl, h3⟩ | ⟨b, h1, rfl, h3, h4⟩
    · go_wp2_with fail
      go_ret
      exact Or.inl ⟨h1, rfl, h3⟩
    · go_wp2_with fail
      go_ret
      exact Or.inr ⟨b, h1, rfl, h3, h4⟩
end Go.Proofs.YtmbgfcanchmmpaaDoor
