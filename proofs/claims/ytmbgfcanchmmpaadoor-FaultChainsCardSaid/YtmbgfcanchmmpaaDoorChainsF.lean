/- FaultChains, sixth part: what the law's built hands from node to node. -/
import Derived.Test.YtmbgfcanchmmpaaDoorChainsE
import Derived.Laws.MakeOwn
namespace Go.Proofs.YtmbgfcanchmmpaaDoor
open Go.RowKit Go.Extern.Stop Go.Stop Go.Extern

theorem info28 : (Tryd.prog.info? 28).map (fun i => (i.zero, i.size, i.bytes)) = some (some .nilIface, 1, 16) := by kernel_rfl

/-- The list of errors after k nodes. -/
def valsAt (T : Nat → Tree) (k n : Nat) : List Value := (List.range n).map fun j => if j < k then (T j).val else .nilIface
theorem valsAt_len (T : Nat → Tree) (k n : Nat) : (valsAt T k n).length = n := by simp [valsAt]
theorem valsAt_get (T : Nat → Tree) {k n j : Nat} (hj : j < k) (hk : k ≤ n) : (valsAt T k n)[j]? = some (T j).val := by
  have : j < n := by omega
  simp [valsAt, this, hj]
theorem valsAt_next (T : Nat → Tree) {k n : Nat} (hk : k < n) : (valsAt T k n)[k]? = some .nilIface := by
  simp [valsAt, hk]
def upd (T : Nat → Tree) (k : Nat) (t : Tree) : Nat → Tree := fun j => if j = k then t else T j
theorem valsAt_set (T : Nat → Tree) {k n : Nat} (t : Tree) (hk : k < n) : (valsAt T k n).set k t.val = valsAt (upd T k t) (k + 1) n := by
  apply List.ext_getElem?
  intro j
  rw [List.getElem?_set]
  by_cases hj : k = j
  · subst hj
    simp [valsAt, hk, upd]
  · rw [if_neg hj]
    by_cases hn : j < n
    · by_cases hjk : j < k
      · have h1 : j < k + 1 := by omega
        have h2 : ¬ j = k := by omega
        simp [valsAt, hn, hjk, h1, upd, h2]
      · have h1 : ¬ j < k + 1 := by omega
        simp [valsAt, hn, hjk, h1]
    · simp [valsAt, hn]

theorem lies_setCell {w : World} {g k : Nat} {v : Value} {cur : Array Value} (hg : w.heap[g]? = some (.cells cur 28 (0, 0))) : ∀ {t : Tree}, t.lies w → t.lies (w.setCell ⟨g, k, none⟩ v)
  | .nil, _ => True.intro
  | .leaf a, ⟨c, t, h⟩ => by
    by_cases e : a.block = g
    · have h2 : (w.setCell ⟨g, k, none⟩ v).heap[a.block]? = some (.cells (c.set! k v) t (0, 0)) := by
        rw [e] at h ⊢
        simp [World.setCell, Array.getElem?_modify, h]
      exact ⟨_, _, h2⟩
    · exact ⟨c, t, (Below.heap_setCell _ _ _ _ e).trans h⟩
  | .fault b op pl t, ⟨h, ht, hn⟩ => by
    have e : b ≠ g := by
      rintro rfl
      rw [h] at hg
      simp at hg
    exact ⟨(Below.heap_setCell _ _ _ _ e).trans h, lies_setCell hg (t := t) ht, hn⟩
  | .own t, h => lies_setCell hg (t := t) h
  | .shut t, h => lies_setCell hg (t := t) h
  | .both t u, ⟨h, k'⟩ => ⟨lies_setCell hg (t := t) h, lies_setCell hg (t := u) k'⟩

/-- The list after k nodes, in memory. -/
structure BuiltAt (w0 : World) (A : Nat → Addr) (nd : Nat → Nd) (g n k : Nat) (T : Nat → Tree) (wr : World) : Prop where
  own : wr.ownsRow w0.heap.size 28 1 (.slice (some ⟨g, 0, none⟩) n n) n (valsAt T k n)
  fits : ∀ j, j < k → Fits A nd j (T j) ∧ (T j).lies wr
  below : Below w0.heap.size w0 wr
theorem BuiltAt.grow {w0 : World} {A : Nat → Addr} {nd : Nat → Nd} {g n k : Nat} {T : Nat → Tree} {wr w' : World} (h : BuiltAt w0 A nd g n k T wr) (hb : Below wr.heap.size wr w') : BuiltAt w0 A nd g n k T w' :=
  ⟨ownsRow_below hb h.own, fun j hj => ⟨(h.fits j hj).1, Tree.lies_below hb (t := T j) (h.fits j hj).2⟩, h.below.trans (hb.mono h.below.size)⟩
theorem BuiltAt.alloc {w0 : World} {A : Nat → Addr} {nd : Nat → Nd} {g n k : Nat} {T : Nat → Tree} {wr : World} (h : BuiltAt w0 A nd g n k T wr) (o : Obj) : BuiltAt w0 A nd g n k T (wr.alloc o) :=
  h.grow ((Below.refl _ _).alloc (Nat.le_refl _) o)
theorem BuiltAt.drew {w0 : World} {A : Nat → Addr} {nd : Nat → Nd} {g n k : Nat} {T : Nat → Tree} {wr : World} (h : BuiltAt w0 A nd g n k T wr) : BuiltAt w0 A nd g n k T wr.drew :=
  h.grow (Below.refl _ _).drew
theorem BuiltAt.put {w0 : World} {A : Nat → Addr} {nd : Nat → Nd} {g n k : Nat} {T : Nat → Tree} {wr : World} (h : BuiltAt w0 A nd g n k T wr) (hk : k < n) {t : Tree} (hf : Fits A nd k t) (hl : t.lies wr) :
    BuiltAt w0 A nd g n (k + 1) (upd T k t) (wr.setCell ⟨g, k, none⟩ t.val) := by
  obtain ⟨s1, s2⟩ := h.own.stored k t.val
  rw [valsAt_set T t hk] at s1
  have hg : ∃ cur, wr.heap[g]? = some (.cells cur 28 (0, 0)) := by
    rcases h.own.2 with ⟨h0, _⟩ | ⟨g', cap, cur, hv, _, hh, _⟩
    · cases h0
    · cases hv; exact ⟨cur, hh⟩
  obtain ⟨cur, hg⟩ := hg
  refine ⟨s1, fun j hj => ?_, h.below.setCell (h.own.lt g rfl).1 _⟩
  unfold upd
  by_cases e : j = k
  · subst e
    rw [if_pos rfl]
    exact ⟨hf, lies_setCell hg (t := t) hl⟩
  · rw [if_neg e]
    have := h.fits j (by omega)
    exact ⟨this.1, lies_setCell hg (t := T j) this.2⟩
theorem BuiltAt.slot {w0 : World} {A : Nat → Addr} {nd : Nat → Nd} {g n k : Nat} {T : Nat → Tree} {wr : World} (h : BuiltAt w0 A nd g n k T wr) (hk : k < n) : wr.cell? ⟨g, k, none⟩ = some .nilIface ∧ wr.frozen? ⟨g, k, none⟩ = false :=
  ⟨(h.own.cellAt k (by omega)).trans (valsAt_next T hk), h.own.frozenAt k⟩
theorem BuiltAt.cell {w0 : World} {A : Nat → Addr} {nd : Nat → Nd} {g n k j : Nat} {T : Nat → Tree} {wr : World} (h : BuiltAt w0 A nd g n k T wr) (hj : j < k) (hk : k ≤ n) : wr.cell? ⟨g, j, none⟩ = some (T j).val :=
  (h.own.cellAt j (by omega)).trans (valsAt_get T hj hk)

/-- The answer of built. -/
def BuiltPost (w : World) (A : Nat → Addr) (nd : Nat → Nd) (n : Nat) (e : Ending) (w' : World) : Prop :=
  ∃ (g : Nat) (T : Nat → Tree), e = .returned (.slice (some ⟨g, 0, none⟩) n n) ∧ BuiltAt w A nd g n n T w'
def BuiltRel (w : World) (A : Nat → Addr) (nd : Nat → Nd) (n g : Nat) (v4 : Value) (wr : World) : Prop :=
  ∃ (k : Nat) (T : Nat → Tree), k ≤ n ∧ v4 = .int .i64 k ∧ BuiltAt w A nd g n k T wr

theorem errorsNew (op : ByteArray) (w : World) :
    Calls Tryd.prog 29 #[.string op] w fun e w' => e = .returned (Tree.leaf ⟨w.heap.size, 0, none⟩).val ∧ Below w.heap.size w w' ∧ (Tree.leaf ⟨w.heap.size, 0, none⟩).lies w' := by
  go_enter Tryd.func29, Tryd.ntmps29
  go_wp2
  go_ret
  exact ⟨rfl, (Below.refl _ _).alloc (Nat.le_refl _) _, _, _, heap_alloc_new _ _⟩

theorem kinds (i : Nat) (nd : Nat → Nd) : (nrm i (nd i)).kind = 0 ∨ (nrm i (nd i)).kind = 1 ∨ (nrm i (nd i)).kind = 2 ∨ (0 < i ∧ (nrm i (nd i)).kind = 3) ∨ (0 < i ∧ (nrm i (nd i)).kind = 4) ∨ (0 < i ∧ (nrm i (nd i)).kind = 5) ∨ (0 < i ∧ (nrm i (nd i)).kind = 6) := by
  have h := nrmK_bd i (nd i).kind
  have e : (nrm i (nd i)).kind = nrmK i (nd i).kind := rfl
  rw [e]
  omega
end Go.Proofs.YtmbgfcanchmmpaaDoor
