/- What the program's own errors look like: one Fault of a package, with its place, over one of api's errors. -/
import Derived.Test.YthhighljfjeooaaDoorFaultA
import Derived.Test.YthhighljfjeooaaDoorBase
namespace Go.Proofs.YthhighljfjeooaaDoor
open Go.RowKit Go.Extern.Stop Go.Stop Go.Extern

/-- nothing but an error of this package, with its place and its number -/
def Err1 (w : World) (A : Nat → Addr) (op : ByteArray) (pl : Int) (k : Nat) (e : Ending) (w' : World) : Prop :=
  ∃ b, e = .returned (.iface 105 (.pointer (some ⟨b, 0, none⟩))) ∧ (Tree.fault b op pl (.leaf (A k))).lies w' ∧ Below w.heap.size w w'
/-- the same behind a first result -/
def Err2 (w : World) (A : Nat → Addr) (op : ByteArray) (pl : Int) (k : Nat) (v : Value) (e : Ending) (w' : World) : Prop :=
  ∃ b, e = .returned (.tuple #[v, .iface 105 (.pointer (some ⟨b, 0, none⟩))]) ∧ (Tree.fault b op pl (.leaf (A k))).lies w' ∧ Below w.heap.size w w'
theorem new_at (op : ByteArray) (pl : Int) (n : Nat) (w : World) (A : Nat → Addr) (hr : Roots w A) (hn : 1 ≤ n ∧ n ≤ 11) :
    Calls Tryd.prog 77 #[.string op, .int .i64 pl, .int .i64 (n : Int)] w (Err1 w A op pl n) := by
  have hk : known (n : Int) = n := by unfold known; rw [if_pos (by omega)]; rfl
  refine (new_any op pl n w A hr (by omega)).mono fun e w' ⟨he, hb, _, hl⟩ => ?_
  rw [hk] at he hl
  exact ⟨_, he, hl, hb⟩
theorem fault_val (b : Nat) (op : ByteArray) (pl : Int) (t : Tree) : (Tree.fault b op pl t).val = .iface 105 (.pointer (some ⟨b, 0, none⟩)) := rfl
theorem Err1.under {w w0 : World} {A : Nat → Addr} {op : ByteArray} {pl : Int} {k : Nat} {e : Ending} {w' : World} (hb : Below w0.heap.size w0 w) (h : Err1 w A op pl k e w') : Err1 w0 A op pl k e w' := by
  obtain ⟨b, h1, h2, h3⟩ := h
  exact ⟨b, h1, h2, hb.trans (h3.mono hb.size)⟩
end Go.Proofs.YthhighljfjeooaaDoor
