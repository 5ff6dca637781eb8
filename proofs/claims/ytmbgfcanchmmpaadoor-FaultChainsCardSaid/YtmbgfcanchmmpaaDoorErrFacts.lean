/- Closed facts on this program's errors for the library's errors.Is and errors.As, and the error trees: each fact holds for every value and world it names. -/
import Derived.Test.YtmbgfcanchmmpaaDoorProg
import Derived.WalkKit
import Derived.LaidEql
import Derived.Stop.Asserts
import Derived.RowKitTokens
import Derived.Deep.LoopGhost
import Derived.Lib.Hide
namespace Go.Proofs.YtmbgfcanchmmpaaDoor
open Go.RowKit Go.Extern.Stop Go.Stop Go.Extern

/-- An error as this program makes it: no error, a pointer to an errorString, a Fault (with its address), and the law's foreign errors. -/
inductive Tree where
  | nil : Tree
  | leaf (a : Addr) : Tree
  | fault (b : Nat) (op : ByteArray) (pl : Int) (t : Tree) : Tree
  | own (t : Tree) : Tree
  | shut (t : Tree) : Tree
  | both (t u : Tree) : Tree

namespace Tree
def val : Tree → Value
  | nil => .nilIface
  | leaf a => .iface 94 (.pointer (some a))
  | fault b _ _ _ => .iface 44 (.pointer (some ⟨b, 0, none⟩))
  | own t => .iface 58 (.agg #[t.val])
  | shut t => .iface 60 (.agg #[t.val])
  | both t u => .iface 62 (.agg #[t.val, u.val])

/-- The tree lies in the world: each errorString's and each Fault's block is there. -/
def lies (w : World) : Tree → Prop
  | nil => True
  | leaf a => ∃ c t, w.heap[a.block]? = some (.cells c t (0, 0))
  | fault b op pl t => w.heap[b]? = some (.cells #[.string op, .int .i64 pl, t.val] 48 (0, 0)) ∧ t.lies w ∧ t ≠ nil
  | own t => t.lies w
  | shut t => t.lies w
  | both t u => t.lies w ∧ u.lies w

def isNil : Tree → Bool
  | nil => true
  | _ => false

/-- Does errors.Is find the pointer p of the dynamic type T? -/
def hits (T : Nat) (p : Addr) : Tree → Bool
  | nil => false
  | leaf a => decide (T = 94 ∧ a = p)
  | fault b _ _ t => decide (T = 44 ∧ (⟨b, 0, none⟩ : Addr) = p) || t.hits T p
  | own t => t.hits T p
  | shut _ => false
  | both t u => t.hits T p || u.hits T p

/-- The first Fault that errors.As finds: its block. -/
def first : Tree → Option Nat
  | nil => none
  | leaf _ => none
  | fault b _ _ _ => some b
  | own t => t.first
  | shut _ => none
  | both t u => match t.first with
    | some b => some b
    | none => u.first

def size : Tree → Nat
  | nil => 1
  | leaf _ => 1
  | fault _ _ _ t => t.size + 1
  | own t => t.size + 1
  | shut t => t.size + 1
  | both t u => t.size + u.size + 1
end Tree

/-- What is below stays: the tree lies in the later world, too. -/
theorem heap_lt {w : World} {b : Nat} {o : Obj} (h : w.heap[b]? = some o) : b < w.heap.size := by
  rcases Nat.lt_or_ge b w.heap.size with k | k
  · exact k
  · simp [Array.getElem?_eq_none k] at h
theorem Tree.lies_below {w w' : World} (hb : Below w.heap.size w w') : ∀ {t : Tree}, t.lies w → t.lies w'
  | .nil, _ => True.intro
  | .leaf _, ⟨c, t, h⟩ => ⟨c, t, (hb.block _ (heap_lt h)).trans h⟩
  | .fault _ _ _ t, ⟨h, ht, hn⟩ => ⟨(hb.block _ (heap_lt h)).trans h, Tree.lies_below hb (t := t) ht, hn⟩
  | .own t, h => Tree.lies_below hb (t := t) h
  | .shut t, h => Tree.lies_below hb (t := t) h
  | .both t u, ⟨h, k⟩ => ⟨Tree.lies_below hb (t := t) h, Tree.lies_below hb (t := u) k⟩
theorem Tree.val_isNil (t : Tree) : t.isNil = true → t = .nil := by cases t <;> simp [Tree.isNil]

theorem Tree.val_shape (t : Tree) : t.val = .nilIface ∨ ∃ T x, t.val = .iface T x := by
  cases t
  · exact Or.inl rfl
  all_goals exact Or.inr ⟨_, _, rfl⟩
theorem Tree.val_held {t : Tree} (h : t ≠ .nil) : ∃ T x, t.val = .iface T x := by
  rcases t.val_shape with k | k
  · cases t <;> first | exact absurd rfl h | cases k
  · exact k

/-! ### closed facts -/
theorem isComp94 : (Tryd.prog.info? 94).map (·.comparable) = some true := by kernel_rfl
theorem isComp44 : (Tryd.prog.info? 44).map (·.comparable) = some true := by kernel_rfl
theorem isSize96 : (Tryd.prog.info? 96).map (·.size) = some 1 := by kernel_rfl
theorem isSize48 : (Tryd.prog.info? 48).map (·.size) = some 3 := by kernel_rfl
theorem typeOf94 (v : Value) (w : World) : (ReflectliteType.typeOf #[.iface 94 v]).run Tryd.prog w = .ok (.iface 98 (.agg #[.pointer (some ⟨16, 94, none⟩)])) w := by kernel_rfl
theorem typeOf44 (v : Value) (w : World) : (ReflectliteType.typeOf #[.iface 44 v]).run Tryd.prog w = .ok (.iface 98 (.agg #[.pointer (some ⟨16, 44, none⟩)])) w := by kernel_rfl
theorem comparable94 (w : World) : (callFunc 90 #[.agg #[.pointer (some ⟨16, 94, none⟩)]]).run Tryd.prog w = .ok (Next.value (.bool true)) w := by kernel_rfl
theorem comparable44 (w : World) : (callFunc 90 #[.agg #[.pointer (some ⟨16, 44, none⟩)]]).run Tryd.prog w = .ok (Next.value (.bool true)) w := by kernel_rfl
theorem methodComparable (v : Value) (w : World) : (Go.method 256 98 v "Comparable").run Tryd.prog w = .ok (90, v) w := by kernel_rfl
theorem noIs94 (v : Value) (x : TypeId) (w : World) : (Instr.typeAssert (.iface 94 v) x 107 true).run Tryd.prog w = .ok (.tuple #[.nilIface, .bool false]) w := run_typeAssert_lacksB Tryd.underlying107 (by kernel_rfl) (by kernel_rfl) v x w
theorem noIs44 (v : Value) (x : TypeId) (w : World) : (Instr.typeAssert (.iface 44 v) x 107 true).run Tryd.prog w = .ok (.tuple #[.nilIface, .bool false]) w := run_typeAssert_lacksB Tryd.underlying107 (by kernel_rfl) (by kernel_rfl) v x w
theorem noU94 (v : Value) (x : TypeId) (w : World) : (Instr.typeAssert (.iface 94 v) x 91 true).run Tryd.prog w = .ok (.tuple #[.nilIface, .bool false]) w := run_typeAssert_lacksB Tryd.underlying91 (by kernel_rfl) (by kernel_rfl) v x w
theorem hasU44 (v : Value) (x : TypeId) (w : World) : (Instr.typeAssert (.iface 44 v) x 91 true).run Tryd.prog w = .ok (.tuple #[.iface 44 v, .bool true]) w := run_typeAssert_hasB Tryd.underlying91 (by kernel_rfl) v x w
theorem noV94 (v : Value) (x : TypeId) (w : World) : (Instr.typeAssert (.iface 94 v) x 105 true).run Tryd.prog w = .ok (.tuple #[.nilIface, .bool false]) w := run_typeAssert_lacksB Tryd.underlying105 (by kernel_rfl) (by kernel_rfl) v x w
theorem methodU44 (v : Value) (w : World) : (Go.method 256 44 v "Unwrap").run Tryd.prog w = .ok (78, v) w := by kernel_rfl
theorem noIsN (x : TypeId) (w : World) : (Instr.typeAssert .nilIface x 107 true).run Tryd.prog w = .ok (.tuple #[.nilIface, .bool false]) w := by kernel_rfl
theorem noUN (x : TypeId) (w : World) : (Instr.typeAssert .nilIface x 91 true).run Tryd.prog w = .ok (.tuple #[.nilIface, .bool false]) w := by kernel_rfl
theorem noVN (x : TypeId) (w : World) : (Instr.typeAssert .nilIface x 105 true).run Tryd.prog w = .ok (.tuple #[.nilIface, .bool false]) w := by kernel_rfl
theorem noIs58 (v : Value) (x : TypeId) (w : World) : (Instr.typeAssert (.iface 58 v) x 107 true).run Tryd.prog w = .ok (.tuple #[.nilIface, .bool false]) w := run_typeAssert_lacksB Tryd.underlying107 (by kernel_rfl) (by kernel_rfl) v x w
theorem noIs60 (v : Value) (x : TypeId) (w : World) : (Instr.typeAssert (.iface 60 v) x 107 true).run Tryd.prog w = .ok (.tuple #[.nilIface, .bool false]) w := run_typeAssert_lacksB Tryd.underlying107 (by kernel_rfl) (by kernel_rfl) v x w
theorem noIs62 (v : Value) (x : TypeId) (w : World) : (Instr.typeAssert (.iface 62 v) x 107 true).run Tryd.prog w = .ok (.tuple #[.nilIface, .bool false]) w := run_typeAssert_lacksB Tryd.underlying107 (by kernel_rfl) (by kernel_rfl) v x w
theorem hasU58 (v : Value) (x : TypeId) (w : World) : (Instr.typeAssert (.iface 58 v) x 91 true).run Tryd.prog w = .ok (.tuple #[.iface 58 v, .bool true]) w := run_typeAssert_hasB Tryd.underlying91 (by kernel_rfl) v x w
theorem noU60 (v : Value) (x : TypeId) (w : World) : (Instr.typeAssert (.iface 60 v) x 91 true).run Tryd.prog w = .ok (.tuple #[.nilIface, .bool false]) w := run_typeAssert_lacksB Tryd.underlying91 (by kernel_rfl) (by kernel_rfl) v x w
theorem noU62 (v : Value) (x : TypeId) (w : World) : (Instr.typeAssert (.iface 62 v) x 91 true).run Tryd.prog w = .ok (.tuple #[.nilIface, .bool false]) w := run_typeAssert_lacksB Tryd.underlying91 (by kernel_rfl) (by kernel_rfl) v x w
theorem noV60 (v : Value) (x : TypeId) (w : World) : (Instr.typeAssert (.iface 60 v) x 105 true).run Tryd.prog w = .ok (.tuple #[.nilIface, .bool false]) w := run_typeAssert_lacksB Tryd.underlying105 (by kernel_rfl) (by kernel_rfl) v x w
theorem hasV62 (v : Value) (x : TypeId) (w : World) : (Instr.typeAssert (.iface 62 v) x 105 true).run Tryd.prog w = .ok (.tuple #[.iface 62 v, .bool true]) w := run_typeAssert_hasB Tryd.underlying105 (by kernel_rfl) v x w
theorem methodU58 (v : Value) (w : World) : (Go.method 256 58 v "Unwrap").run Tryd.prog w = .ok (80, v) w := by kernel_rfl
theorem methodU62 (v : Value) (w : World) : (Go.method 256 62 v "Unwrap").run Tryd.prog w = .ok (83, v) w := by kernel_rfl
end Go.Proofs.YtmbgfcanchmmpaaDoor
