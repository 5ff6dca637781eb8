/- Closed facts on this program's errors for the library's errors.Is and errors.As, and the error trees: each fact holds for every value and world it names. -/
import Derived.Test.YthhighljfjeooaaDoorProg
import Derived.WalkKit
import Derived.LaidEql
import Derived.Stop.Asserts
import Derived.RowKitTokens
import Derived.Deep.LoopGhost
import Derived.Lib.Hide
namespace Go.Proofs.YthhighljfjeooaaDoor
open Go.RowKit Go.Extern.Stop Go.Stop Go.Extern

/-- An error as this program makes it: no error, a pointer to an errorString, a Fault (with its address), and the law's foreign errors. -/
inductive Tree where
  | nil : Tree
  | leaf (a : Addr) : Tree
  | fault (b : Nat) (op : ByteArray) (pl : Int) (t : Tree) : Tree

namespace Tree
def val : Tree → Value
  | nil => .nilIface
  | leaf a => .iface 147 (.pointer (some a))
  | fault b _ _ _ => .iface 105 (.pointer (some ⟨b, 0, none⟩))

/-- The tree lies in the world: each errorString's and each Fault's block is there. -/
def lies (w : World) : Tree → Prop
  | nil => True
  | leaf a => ∃ c t, w.heap[a.block]? = some (.cells c t (0, 0))
  | fault b op pl t => w.heap[b]? = some (.cells #[.string op, .int .i64 pl, t.val] 109 (0, 0)) ∧ t.lies w ∧ t ≠ nil

def isNil : Tree → Bool
  | nil => true
  | _ => false

/-- Does errors.Is find the pointer p of the dynamic type T? -/
def hits (T : Nat) (p : Addr) : Tree → Bool
  | nil => false
  | leaf a => decide (T = 147 ∧ a = p)
  | fault b _ _ t => decide (T = 105 ∧ (⟨b, 0, none⟩ : Addr) = p) || t.hits T p

/-- The first Fault that errors.As finds: its block. -/
def first : Tree → Option Nat
  | nil => none
  | leaf _ => none
  | fault b _ _ _ => some b

def size : Tree → Nat
  | nil => 1
  | leaf _ => 1
  | fault _ _ _ t => t.size + 1
end Tree

/-- What is below stays: the tree lies in the later world, too. -/
theorem heap_lt {w : World} {b : Nat} {o : Obj} (h : w.heap[b]? = some o) : b < w.heap.size := by
  rcases Nat.lt_or_ge b w.heap.size with k | k
  · exact k
  · simp [Array.getElem?_eq_none k] at h
theorem Tree.lies_below {w w' : World} (hb : Below w.heap.size w w') : ∀ {t : Tree}, t.lies w → t.lies w'
  | .nil, _ => True.intro
  | .leaf _, ⟨c, t, h⟩ => ⟨c, t, (hb.block _ (heap_lt h)).trans h⟩
  | .fault _ _ _ t, ⟨h, ht, hn⟩ => ⟨(hb.block _ (heap_lt h)).trans h, Tree.lies_below hb (t := t) ht, hn⟩
theorem Tree.val_isNil (t : Tree) : t.isNil = true → t = .nil := by cases t <;> simp [Tree.isNil]

theorem Tree.val_shape (t : Tree) : t.val = .nilIface ∨ ∃ T x, t.val = .iface T x := by
  cases t
  · exact Or.inl rfl
  all_goals exact Or.inr ⟨_, _, rfl⟩
theorem Tree.val_held {t : Tree} (h : t ≠ .nil) : ∃ T x, t.val = .iface T x := by
  rcases t.val_shape with k | k
  · cases t <;> first | exact absurd rfl h | cases k
  · exact k

/-! ### closed facts -/
theorem isComp94 : (Tryd.prog.info? 147).map (·.comparable) = some true := by kernel_rfl
theorem isComp44 : (Tryd.prog.info? 105).map (·.comparable) = some true := by kernel_rfl
theorem isSize96 : (Tryd.prog.info? 168).map (·.size) = some 1 := by kernel_rfl
theorem isSize48 : (Tryd.prog.info? 109).map (·.size) = some 3 := by kernel_rfl
theorem typeOf94 (v : Value) (w : World) : (ReflectliteType.typeOf #[.iface 147 v]).run Tryd.prog w = .ok (.iface 132 (.agg #[.pointer (some ⟨14, 147, none⟩)])) w := by kernel_rfl
theorem typeOf44 (v : Value) (w : World) : (ReflectliteType.typeOf #[.iface 105 v]).run Tryd.prog w = .ok (.iface 132 (.agg #[.pointer (some ⟨14, 105, none⟩)])) w := by kernel_rfl
theorem comparable94 (w : World) : (callFunc 133 #[.agg #[.pointer (some ⟨14, 147, none⟩)]]).run Tryd.prog w = .ok (Next.value (.bool true)) w := by kernel_rfl
theorem comparable44 (w : World) : (callFunc 133 #[.agg #[.pointer (some ⟨14, 105, none⟩)]]).run Tryd.prog w = .ok (Next.value (.bool true)) w := by kernel_rfl
theorem methodComparable (v : Value) (w : World) : (Go.method 280 132 v "Comparable").run Tryd.prog w = .ok (133, v) w := by kernel_rfl
theorem noIs94 (v : Value) (x : TypeId) (w : World) : (Instr.typeAssert (.iface 147 v) x 134 true).run Tryd.prog w = .ok (.tuple #[.nilIface, .bool false]) w := run_typeAssert_lacksB Tryd.underlying134 (by kernel_rfl) (by kernel_rfl) v x w
theorem noIs44 (v : Value) (x : TypeId) (w : World) : (Instr.typeAssert (.iface 105 v) x 134 true).run Tryd.prog w = .ok (.tuple #[.nilIface, .bool false]) w := run_typeAssert_lacksB Tryd.underlying134 (by kernel_rfl) (by kernel_rfl) v x w
theorem noU94 (v : Value) (x : TypeId) (w : World) : (Instr.typeAssert (.iface 147 v) x 137 true).run Tryd.prog w = .ok (.tuple #[.nilIface, .bool false]) w := run_typeAssert_lacksB Tryd.underlying137 (by kernel_rfl) (by kernel_rfl) v x w
theorem hasU44 (v : Value) (x : TypeId) (w : World) : (Instr.typeAssert (.iface 105 v) x 137 true).run Tryd.prog w = .ok (.tuple #[.iface 105 v, .bool true]) w := run_typeAssert_hasB Tryd.underlying137 (by kernel_rfl) v x w
theorem noV94 (v : Value) (x : TypeId) (w : World) : (Instr.typeAssert (.iface 147 v) x 139 true).run Tryd.prog w = .ok (.tuple #[.nilIface, .bool false]) w := run_typeAssert_lacksB Tryd.underlying139 (by kernel_rfl) (by kernel_rfl) v x w
theorem methodU44 (v : Value) (w : World) : (Go.method 280 105 v "Unwrap").run Tryd.prog w = .ok (127, v) w := by kernel_rfl
theorem noIsN (x : TypeId) (w : World) : (Instr.typeAssert .nilIface x 134 true).run Tryd.prog w = .ok (.tuple #[.nilIface, .bool false]) w := by kernel_rfl
theorem noUN (x : TypeId) (w : World) : (Instr.typeAssert .nilIface x 137 true).run Tryd.prog w = .ok (.tuple #[.nilIface, .bool false]) w := by kernel_rfl
theorem noVN (x : TypeId) (w : World) : (Instr.typeAssert .nilIface x 139 true).run Tryd.prog w = .ok (.tuple #[.nilIface, .bool false]) w := by kernel_rfl
end Go.Proofs.YthhighljfjeooaaDoor
