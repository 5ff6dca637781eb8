/- Closed facts on this program's errors for the library's errors.Is and errors.As, and the error trees: each fact holds for every value and world it names.
errors.Is by its contract: of any error tree and any target that is a pointer of one of the two kinds, it finds just what the tree holds, and leaves old memory alone.
Closed facts and small laws on the entries that errors.As meets, at a target that is a pointer to a *api.Fault.
errors.is and errors.Is by their contracts: of any error tree that lies in memory and any target that is a pointer of one of the two kinds.
errors.as and errors.As by their contracts, at a target that is a pointer to a *api.Fault: the first Fault of the tree is stored, or none is found and old memory stays.
Package fault by its contracts, first part: New, Under, numbered, and the two functions that ask errors.Is and errors.As behind a deferred recover.
What every walk of ours stands on: worlds below, rows that the call owns, slices that read a list of values.
What the program's own errors look like: one Fault of a package, with its place, over one of api's errors.
Package fault by its contracts: Code of any error tree; Outer and Code of one Fault.
What the statements ask of errors: edenraw.Root, edenraw.New and edenraw.Is, by contracts.
An error told by one package after another: a chain of Faults over api's error.

Plain mathematics of words: the least turn.
Plain mathematics of words: words as numbers, the next word, repeats.
Plain mathematics of rules: their windows, their tables, images of words.
Plain mathematics of rings: their images, later rings, traces.
Posts of calls that only draw.
Lists of ints in memory: slices that read one, rows that the call owns, edenraw.Ints. -/
import Derived.Test.YtgdjnohhofbcnaaDoorProg
import Derived.WalkKit
import Derived.LaidEql
import Derived.Stop.Asserts
import Derived.RowKitTokens
import Derived.Deep.LoopGhost
import Derived.Lib.Hide
import Derived.Recover
import Derived.Defers
import Derived.WalkSmall
import Derived.Deep.QuietTactic
import Derived.BigQuiet
import Derived.Lib.QuietBelow
import Derived.Outline
import Derived.Laws.AppendOwn
import Derived.Deep.RegionWith
import Derived.Deep.DeepCutAuto
import Derived.Laws.Rows
section
namespace Go.Proofs.YtgdjnohhofbcnaaDoor
open Go.RowKit Go.Extern.Stop Go.Stop Go.Extern

/-- An error as this program makes it: no error, a pointer to an errorString, a Fault (with its address), and the law's foreign errors. -/
inductive Tree where
  | nil : Tree
  | leaf (a : Addr) : Tree
  | fault (b : Nat) (op : ByteArray) (pl : Int) (t : Tree) : Tree

namespace Tree
def val : Tree → Value
  | nil => .nilIface
  | leaf a => .iface 132 (.pointer (some a))
  | fault b _ _ _ => .iface 61 (.pointer (some ⟨b, 0, none⟩))

/-- The tree lies in the world: each errorString's and each Fault's block is there. -/
def lies (w : World) : Tree → Prop
  | nil => True
  | leaf a => ∃ c t, w.heap[a.block]? = some (.cells c t (0, 0))
  | fault b op pl t => w.heap[b]? = some (.cells #[.string op, .int .i64 pl, t.val] 65 (0, 0)) ∧ t.lies w ∧ t ≠ nil

def isNil : Tree → Bool
  | nil => true
  | _ => false

/-- Does errors.Is find the pointer p of the dynamic type T? -/
def hits (T : Nat) (p : Addr) : Tree → Bool
  | nil => false
  | leaf a => decide (T = 132 ∧ a = p)
  | fault b _ _ t => decide (T = 61 ∧ (⟨b, 0, none⟩ : Addr) = p) || t.hits T p

/-- The first Fault that errors.As finds: its block. -/
def first : Tree → Option Nat
  | nil => none
  | leaf _ => none
  | fault b _ _ _ => some b

def size : Tree → Nat
  | nil => 1
  | leaf _ => 1
  | fault _ _ _ t => t.size + 1
end Tree

/-- What is below stays: the tree lies in the later world, too. -/
theorem heap_lt {w : World} {b : Nat} {o : Obj} (h : w.heap[b]? = some o) : b < w.heap.size := by
  rcases Nat.lt_or_ge b w.heap.size with k | k
  · exact k
  · simp [Array.getElem?_eq_none k] at h
theorem Tree.lies_below {w w' : World} (hb : Below w.heap.size w w') : ∀ {t : Tree}, t.lies w → t.lies w'
  | .nil, _ => True.intro
  | .leaf _, ⟨c, t, h⟩ => ⟨c, t, (hb.block _ (heap_lt h)).trans h⟩
  | .fault _ _ _ t, ⟨h, ht, hn⟩ => ⟨(hb.block _ (heap_lt h)).trans h, Tree.lies_below hb (t := t) ht, hn⟩
theorem Tree.val_isNil (t : Tree) : t.isNil = true → t = .nil := by cases t <;> simp [Tree.isNil]

theorem Tree.val_shape (t : Tree) : t.val = .nilIface ∨ ∃ T x, t.val = .iface T x := by
  cases t
  · exact Or.inl rfl
  all_goals exact Or.inr ⟨_, _, rfl⟩
theorem Tree.val_held {t : Tree} (h : t ≠ .nil) : ∃ T x, t.val = .iface T x := by
  rcases t.val_shape with k | k
  · cases t <;> first | exact absurd rfl h | cases k
  · exact k

/-! ### closed facts -/
theorem isComp94 : (Tryd.prog.info? 132).map (·.comparable) = some true := by kernel_rfl
theorem isComp44 : (Tryd.prog.info? 61).map (·.comparable) = some true := by kernel_rfl
theorem isSize96 : (Tryd.prog.info? 153).map (·.size) = some 1 := by kernel_rfl
theorem isSize48 : (Tryd.prog.info? 65).map (·.size) = some 3 := by kernel_rfl
theorem typeOf94 (v : Value) (w : World) : (ReflectliteType.typeOf #[.iface 132 v]).run Tryd.prog w = .ok (.iface 111 (.agg #[.pointer (some ⟨13, 132, none⟩)])) w := by kernel_rfl
theorem typeOf44 (v : Value) (w : World) : (ReflectliteType.typeOf #[.iface 61 v]).run Tryd.prog w = .ok (.iface 111 (.agg #[.pointer (some ⟨13, 61, none⟩)])) w := by kernel_rfl
theorem comparable94 (w : World) : (callFunc 107 #[.agg #[.pointer (some ⟨13, 132, none⟩)]]).run Tryd.prog w = .ok (Next.value (.bool true)) w := by kernel_rfl
theorem comparable44 (w : World) : (callFunc 107 #[.agg #[.pointer (some ⟨13, 61, none⟩)]]).run Tryd.prog w = .ok (Next.value (.bool true)) w := by kernel_rfl
theorem methodComparable (v : Value) (w : World) : (Go.method 265 111 v "Comparable").run Tryd.prog w = .ok (107, v) w := by kernel_rfl
theorem noIs94 (v : Value) (x : TypeId) (w : World) : (Instr.typeAssert (.iface 132 v) x 113 true).run Tryd.prog w = .ok (.tuple #[.nilIface, .bool false]) w := run_typeAssert_lacksB Tryd.underlying113 (by kernel_rfl) (by kernel_rfl) v x w
theorem noIs44 (v : Value) (x : TypeId) (w : World) : (Instr.typeAssert (.iface 61 v) x 113 true).run Tryd.prog w = .ok (.tuple #[.nilIface, .bool false]) w := run_typeAssert_lacksB Tryd.underlying113 (by kernel_rfl) (by kernel_rfl) v x w
theorem noU94 (v : Value) (x : TypeId) (w : World) : (Instr.typeAssert (.iface 132 v) x 116 true).run Tryd.prog w = .ok (.tuple #[.nilIface, .bool false]) w := run_typeAssert_lacksB Tryd.underlying116 (by kernel_rfl) (by kernel_rfl) v x w
theorem hasU44 (v : Value) (x : TypeId) (w : World) : (Instr.typeAssert (.iface 61 v) x 116 true).run Tryd.prog w = .ok (.tuple #[.iface 61 v, .bool true]) w := run_typeAssert_hasB Tryd.underlying116 (by kernel_rfl) v x w
theorem noV94 (v : Value) (x : TypeId) (w : World) : (Instr.typeAssert (.iface 132 v) x 118 true).run Tryd.prog w = .ok (.tuple #[.nilIface, .bool false]) w := run_typeAssert_lacksB Tryd.underlying118 (by kernel_rfl) (by kernel_rfl) v x w
theorem methodU44 (v : Value) (w : World) : (Go.method 265 61 v "Unwrap").run Tryd.prog w = .ok (101, v) w := by kernel_rfl
theorem noIsN (x : TypeId) (w : World) : (Instr.typeAssert .nilIface x 113 true).run Tryd.prog w = .ok (.tuple #[.nilIface, .bool false]) w := by kernel_rfl
theorem noUN (x : TypeId) (w : World) : (Instr.typeAssert .nilIface x 116 true).run Tryd.prog w = .ok (.tuple #[.nilIface, .bool false]) w := by kernel_rfl
theorem noVN (x : TypeId) (w : World) : (Instr.typeAssert .nilIface x 118 true).run Tryd.prog w = .ok (.tuple #[.nilIface, .bool false]) w := by kernel_rfl
end Go.Proofs.YtgdjnohhofbcnaaDoor
end
section
namespace Go.Proofs.YtgdjnohhofbcnaaDoor
open Go.RowKit Go.Extern.Stop Go.Stop Go.Extern

/-- What holds of a target: its block is there. -/
def Target (w : World) (p : Addr) : Prop := ∃ c t, w.heap[p.block]? = some (.cells c t (0, 0))
theorem Target.below {w w' : World} {p : Addr} (hb : Below w.heap.size w w') : Target w p → Target w' p := fun ⟨c, t, h⟩ => ⟨c, t, (hb.block _ (heap_lt h)).trans h⟩

theorem unwrap44 (b : Nat) (op : ByteArray) (pl : Int) (v : Value) (w : World) (h : w.heap[b]? = some (.cells #[.string op, .int .i64 pl, v] 65 (0, 0))) :
    Calls Tryd.prog 101 #[.pointer (some ⟨b, 0, none⟩)] w fun e w' => e = .returned v ∧ w = w' := by
  have hc : w.cell? ⟨b, 2, none⟩ = some v := by simp [World.cell?, h]
  go_enter Tryd.func101, Tryd.ntmps101
  go_wp2
  go_ret
  exact ⟨rfl, rfl⟩
/-- What the round of errors.is needs of the comparison with the target. -/
theorem eql_hit (w : World) (T : Nat) (a : Addr) (hT : T = 132 ∨ T = 61) :
    (binOp .eql 29 (.iface T (.pointer (some a))) (.iface T (.pointer (some a)))).run Tryd.prog w = .ok (.bool true) w := by
  rcases hT with rfl | rfl
  · obtain ⟨i, hi, hcmp⟩ := Option.map_eq_some_iff.1 isComp94
    obtain ⟨j, hj, hjs⟩ := Option.map_eq_some_iff.1 isSize96
    exact run_eql_iface_ptr_same (P := Tryd.prog) w a Tryd.underlying29 Tryd.underlying132 hi hcmp hj
  · obtain ⟨i, hi, hcmp⟩ := Option.map_eq_some_iff.1 isComp44
    obtain ⟨j, hj, hjs⟩ := Option.map_eq_some_iff.1 isSize48
    exact run_eql_iface_ptr_same (P := Tryd.prog) w a Tryd.underlying29 Tryd.underlying61 hi hcmp hj
theorem eql_miss (w : World) (T : Nat) (a p : Addr) (hT : T = 132 ∨ T = 61) (hne : a ≠ p) (ha : Target w a) (hp : Target w p) :
    (binOp .eql 29 (.iface T (.pointer (some a))) (.iface T (.pointer (some p)))).run Tryd.prog w = .ok (.bool false) w := by
  obtain ⟨c, t, ha⟩ := ha
  obtain ⟨c', t', hp⟩ := hp
  rcases hT with rfl | rfl
  · obtain ⟨i, hi, hcmp⟩ := Option.map_eq_some_iff.1 isComp94
    obtain ⟨j, hj, hjs⟩ := Option.map_eq_some_iff.1 isSize96
    exact run_eql_iface_ptr_other (P := Tryd.prog) w Tryd.underlying29 Tryd.underlying132 hi hcmp hj (by rw [hjs]; decide) hne ha hp
  · obtain ⟨i, hi, hcmp⟩ := Option.map_eq_some_iff.1 isComp44
    obtain ⟨j, hj, hjs⟩ := Option.map_eq_some_iff.1 isSize48
    exact run_eql_iface_ptr_other (P := Tryd.prog) w Tryd.underlying29 Tryd.underlying61 hi hcmp hj (by rw [hjs]; decide) hne ha hp
theorem eql_types (w : World) (T U : Nat) (x y : Value) (hne : T ≠ U) :
    (binOp .eql 29 (.iface T x) (.iface U y)).run Tryd.prog w = .ok (.bool false) w :=
  run_eql_iface_types (P := Tryd.prog) T U x y Tryd.underlying29 hne w
theorem eql_nil (w : World) (T : Nat) (x : Value) :
    (binOp .eql 29 .nilIface (.iface T x)).run Tryd.prog w = .ok (.bool false) w :=
  run_eql_iface_nil_left (P := Tryd.prog) w T x Tryd.underlying29

/-- Whether the error at the tree's head is the target itself. -/
def Tree.atHead (T : Nat) (p : Addr) : Tree → Bool
  | .leaf a => decide (T = 132 ∧ a = p)
  | .fault b _ _ _ => decide (T = 61 ∧ (⟨b, 0, none⟩ : Addr) = p)
  | _ => false
theorem eql_head (w : World) (T : Nat) (p : Addr) (t : Tree) (hT : T = 132 ∨ T = 61) (hl : t.lies w) (hp : Target w p) :
    (binOp .eql 29 t.val (.iface T (.pointer (some p)))).run Tryd.prog w = .ok (.bool (t.atHead T p)) w := by
  cases t with
  | nil => exact eql_nil w T _
  | leaf a =>
    by_cases h : T = 132
    · subst h
      by_cases k : a = p
      · subst k
        rw [show (Tree.leaf a).atHead 132 a = true from decide_eq_true ⟨rfl, rfl⟩]
        exact eql_hit w _ a hT
      · rw [show (Tree.leaf a).atHead 132 p = false from decide_eq_false fun e => k e.2]
        exact eql_miss w _ a p hT k hl hp
    · rw [show (Tree.leaf a).atHead T p = false from decide_eq_false fun e => h e.1]
      exact eql_types w _ T _ _ (Ne.symm h)
  | fault b op pl t =>
    by_cases h : T = 61
    · subst h
      by_cases k : (⟨b, 0, none⟩ : Addr) = p
      · subst k
        rw [show (Tree.fault b op pl t).atHead 61 ⟨b, 0, none⟩ = true from decide_eq_true ⟨rfl, rfl⟩]
        exact eql_hit w _ ⟨b, 0, none⟩ hT
      · rw [show (Tree.fault b op pl t).atHead 61 p = false from decide_eq_false fun e => k e.2]
        exact eql_miss w _ ⟨b, 0, none⟩ p hT k ⟨_, _, hl.1⟩ hp
    · rw [show (Tree.fault b op pl t).atHead T p = false from decide_eq_false fun e => h e.1]
      exact eql_types w _ T _ _ (Ne.symm h)
end Go.Proofs.YtgdjnohhofbcnaaDoor
end
section
namespace Go.Proofs.YtgdjnohhofbcnaaDoor
open Go.RowKit Go.Extern.Stop Go.Stop Go.Extern

theorem asValueOf46 (t : Addr) (w : World) : (callFunc 61 #[.iface 63 (.pointer (some t))]).run Tryd.prog w
    = .ok (Next.value (.agg #[.pointer (some ⟨13, 63, none⟩), .pointer (some ⟨w.heap.size, 0, none⟩), .int .u64 150])) (w.alloc (.cells #[.pointer (some t)] 63)) := by kernel_rfl
theorem asValueOf44 (t : Addr) (w : World) : (callFunc 61 #[.iface 61 (.pointer (some t))]).run Tryd.prog w
    = .ok (Next.value (.agg #[.pointer (some ⟨13, 61, none⟩), .pointer (some ⟨w.heap.size, 0, none⟩), .int .u64 150])) (w.alloc (.cells #[.pointer (some t)] 61)) := by kernel_rfl
theorem asType46 (a : Addr) (w : World) : (callFunc 62 #[.agg #[.pointer (some ⟨13, 63, none⟩), .pointer (some a), .int .u64 150]]).run Tryd.prog w
    = .ok (Next.value (.iface 111 (.agg #[.pointer (some ⟨13, 63, none⟩)]))) w := by kernel_rfl
theorem asMethodKind (h : Value) (w : World) : (Go.method 265 111 (.agg #[h]) "Kind").run Tryd.prog w = .ok (97, h) w := by kernel_rfl
theorem asMethodElem (h : Value) (w : World) : (Go.method 265 111 (.agg #[h]) "Elem").run Tryd.prog w = .ok (108, .agg #[h]) w := by kernel_rfl
theorem asMethodImplements (h : Value) (w : World) : (Go.method 265 111 (.agg #[h]) "Implements").run Tryd.prog w = .ok (109, .agg #[h]) w := by kernel_rfl
theorem asMethodAssignableTo (h : Value) (w : World) : (Go.method 265 111 (.agg #[h]) "AssignableTo").run Tryd.prog w = .ok (106, .agg #[h]) w := by kernel_rfl
theorem asKind46 (w : World) : (callFunc 97 #[.pointer (some ⟨13, 63, none⟩)]).run Tryd.prog w = .ok (Next.value (.int .u8 22)) w := by kernel_rfl
theorem asKind44 (w : World) : (callFunc 97 #[.pointer (some ⟨13, 61, none⟩)]).run Tryd.prog w = .ok (Next.value (.int .u8 22)) w := by kernel_rfl
theorem asElem46 (w : World) : (callFunc 108 #[.agg #[.pointer (some ⟨13, 63, none⟩)]]).run Tryd.prog w = .ok (Next.value (.iface 111 (.agg #[.pointer (some ⟨13, 61, none⟩)]))) w := by kernel_rfl
theorem asImplements (w : World) : (callFunc 109 #[.agg #[.pointer (some ⟨13, 61, none⟩)], .iface 111 (.agg #[.pointer (some ⟨13, 29, none⟩)])]).run Tryd.prog w = .ok (Next.value (.bool true)) w := by kernel_rfl
theorem asTypeOf44 (v : Value) (w : World) : (callFunc 59 #[.iface 61 v]).run Tryd.prog w = .ok (Next.value (.iface 111 (.agg #[.pointer (some ⟨13, 61, none⟩)]))) w := by kernel_rfl
theorem asTypeOf94 (v : Value) (w : World) : (callFunc 59 #[.iface 132 v]).run Tryd.prog w = .ok (Next.value (.iface 111 (.agg #[.pointer (some ⟨13, 132, none⟩)]))) w := by kernel_rfl
theorem asAssignable44 (w : World) : (callFunc 106 #[.agg #[.pointer (some ⟨13, 61, none⟩)], .iface 111 (.agg #[.pointer (some ⟨13, 61, none⟩)])]).run Tryd.prog w = .ok (Next.value (.bool true)) w := by kernel_rfl
theorem asAssignable94 (w : World) : (callFunc 106 #[.agg #[.pointer (some ⟨13, 132, none⟩)], .iface 111 (.agg #[.pointer (some ⟨13, 61, none⟩)])]).run Tryd.prog w = .ok (Next.value (.bool false)) w := by kernel_rfl
theorem noAs94 (v : Value) (x : TypeId) (w : World) : (Instr.typeAssert (.iface 132 v) x 123 true).run Tryd.prog w = .ok (.tuple #[.nilIface, .bool false]) w := run_typeAssert_lacksB Tryd.underlying123 (by kernel_rfl) (by kernel_rfl) v x w

/-! ### the entries that read or write memory -/
theorem parts46 (a : Addr) (w : World) : (ReflectliteValue.parts (.agg #[.pointer (some ⟨13, 63, none⟩), .pointer (some a), .int .u64 150])).run Tryd.prog w = .ok (some (63, a, 150)) w := by kernel_rfl
theorem asIsNil (a p : Addr) (W : World) (ha : W.cell? a = some (.pointer (some p))) :
    (callFunc 63 #[.agg #[.pointer (some ⟨13, 63, none⟩), .pointer (some a), .int .u64 150]]).run Tryd.prog W = .ok (Next.value (.bool false)) W := by
  rw [@run_callFunc_extern Tryd.prog 63 _ (ReflectliteValue.method (ReflectliteValue.valueError "reflectlite.Value.IsNil" 0) ReflectliteValue.isNil) Tryd.func63 (by kernel_rfl) (by kernel_rfl) (by kernel_rfl) (by kernel_rfl)]
  refine congrArg (fun r => Result.andThen r fun v w' => .ok (Next.value v) w') (?_ : _ = Result.ok (.bool false) W)
  change Sem.run Tryd.prog (ReflectliteValue.parts _ >>= _) W = _
  simp only [Sem.run_bind, Array.getLit, List.getElem_toArray, List.getElem_cons_zero, parts46, Result.andThen]
  simp [ReflectliteValue.isNil, loadVar, isAgg, underlying, Tryd.underlying63, ha, Result.andThen]
theorem elemOf46 (w : World) : (Rtype.elem? 63).run Tryd.prog w = .ok (some 61) w := by kernel_rfl
theorem mk44 (p : Addr) (w : World) : (ReflectliteValue.mk 61 p ReflectliteValue.flagAddr).run Tryd.prog w = .ok (.agg #[.pointer (some ⟨13, 61, none⟩), .pointer (some p), .int .u64 406]) w := by kernel_rfl
theorem asElemV (a p : Addr) (W : World) (ha : W.cell? a = some (.pointer (some p))) :
    (callFunc 76 #[.agg #[.pointer (some ⟨13, 63, none⟩), .pointer (some a), .int .u64 150]]).run Tryd.prog W
      = .ok (Next.value (.agg #[.pointer (some ⟨13, 61, none⟩), .pointer (some p), .int .u64 406])) W := by
  rw [@run_callFunc_extern Tryd.prog 76 _ (ReflectliteValue.method (ReflectliteValue.valueError "reflectlite.Value.Elem" 0) ReflectliteValue.elem) Tryd.func76 (by kernel_rfl) (by kernel_rfl) (by kernel_rfl) (by kernel_rfl)]
  refine congrArg (fun r => Result.andThen r fun v w' => .ok (Next.value v) w') (?_ : _ = Result.ok (.agg #[.pointer (some ⟨13, 61, none⟩), .pointer (some p), .int .u64 406]) W)
  change Sem.run Tryd.prog (ReflectliteValue.parts _ >>= _) W = _
  simp only [Sem.run_bind, Array.getLit, List.getElem_toArray, List.getElem_cons_zero, parts46, Result.andThen]
  simp [ReflectliteValue.elem, loadVar, isAgg, underlying, Tryd.underlying63, ha, Result.andThen, elemOf46, mk44]
theorem parts44a (a : Addr) (w : World) : (ReflectliteValue.parts (.agg #[.pointer (some ⟨13, 61, none⟩), .pointer (some a), .int .u64 406])).run Tryd.prog w = .ok (some (61, a, 406)) w := by kernel_rfl
theorem parts44 (a : Addr) (w : World) : (ReflectliteValue.parts (.agg #[.pointer (some ⟨13, 61, none⟩), .pointer (some a), .int .u64 150])).run Tryd.prog w = .ok (some (61, a, 150)) w := by kernel_rfl
theorem direct44 (w : World) : (Rtype.directlyAssignable 61 61).run Tryd.prog w = .ok true w := by kernel_rfl
theorem asSet (ta b e : Addr) (old : Value) (W : World) (hb : W.cell? b = some (.pointer (some e))) (ht : W.cell? ta = some old) (hf : W.frozen? ta = false) :
    (callFunc 77 #[.agg #[.pointer (some ⟨13, 61, none⟩), .pointer (some ta), .int .u64 406], .agg #[.pointer (some ⟨13, 61, none⟩), .pointer (some b), .int .u64 150]]).run Tryd.prog W
      = .ok (Next.value (.tuple #[])) (W.setCell ta (.pointer (some e))) := by
  rw [@run_callFunc_extern Tryd.prog 77 _ ReflectliteValue.set Tryd.func77 (by kernel_rfl) (by kernel_rfl) (by kernel_rfl) (by kernel_rfl)]
  refine congrArg (fun r => Result.andThen r fun v w' => .ok (Next.value v) w') (?_ : _ = Result.ok (.tuple #[]) (W.setCell ta (.pointer (some e))))
  change Sem.run Tryd.prog (ReflectliteValue.parts _ >>= _) W = _
  simp only [Sem.run_bind, Array.getLit, List.getElem_toArray, List.getElem_cons_zero, List.getElem_cons_succ, parts44a, parts44, Result.andThen]
  simp [ReflectliteValue.flagAddr, loadVar, isAgg, underlying, Tryd.underlying61, hb, Result.andThen, direct44, storeVar, Value.cells, storeCells, Addr.add]
  rw [run_store Tryd.prog W ta _ _ (by rfl)]
  simp [ht, hf]
end Go.Proofs.YtgdjnohhofbcnaaDoor
end
section
namespace Go.Proofs.YtgdjnohhofbcnaaDoor
open Go.RowKit Go.Extern.Stop Go.Stop Go.Extern

theorem eql_isNil (t : Tree) (w : World) : (binOp .eql 29 t.val .nilIface).run Tryd.prog w = .ok (.bool t.isNil) w := by
  cases t <;> kernel_rfl

theorem guard_isNil (t : Tree) (n : Nat) (w : World) : (eqGuard .eql 29 (.tmp n) (.const .nilIface) t.val .nilIface).run Tryd.prog w = .ok () w := by
  cases t <;> kernel_rfl

/-- What the loop of errors.is hands from round to round. -/
def IsRel (w : World) (T : Nat) (p : Addr) (n : Nat) (t : Tree) (k : Nat) (v : Value) (wr : World) : Prop :=
  ∃ t' : Tree, v = t'.val ∧ t'.lies wr ∧ Target wr p ∧ t'.size ≤ k ∧ k ≤ n ∧ t'.hits T p = t.hits T p ∧ Below w.heap.size w wr

def IsPost (w : World) (T : Nat) (p : Addr) (t : Tree) (e : Ending) (w' : World) : Prop := e = .returned (.bool (t.hits T p)) ∧ Below w.heap.size w w'

theorem IsRel.next {w : World} {T : Nat} {p : Addr} {n : Nat} {t : Tree} {k k' : Nat} {wr : World} {t' : Tree} (h1 : t'.lies wr) (h2 : Target wr p) (h3 : t'.size ≤ k') (h4 : k' < k) (h5 : k ≤ n) (h6 : t'.hits T p = t.hits T p) (h7 : Below w.heap.size w wr) :
    IsRel w T p n t k' t'.val wr := ⟨t', rfl, h1, h2, h3, by omega, h6, h7⟩

set_option maxRecDepth 100000 in
set_option maxHeartbeats 1000000 in
theorem is_any (n : Nat) : ∀ (t : Tree) (w : World) (T : Nat) (p : Addr), t.size ≤ n → t.lies w → Target w p → (T = 132 ∨ T = 61) →
    Calls Tryd.prog 60 #[t.val, .iface T (.pointer (some p)), .bool true] w (IsPost w T p t) := by
  induction n with
  | zero =>
    intro t w T p hn
    cases t <;> simp [Tree.size] at hn
  | succ n ih =>
    intro t w T p hn hl hp hT
    go_enter Tryd.func60, Tryd.ntmps60
    go_wp2
    go_loopg [0] (n + 1) (fun k v wr => IsRel w T p (n + 1) t k v wr)
    case atStart => exact ⟨t, rfl, hl, hp, hn, Nat.le_refl _, rfl, Below.refl _ _⟩
    case round =>
      obtain ⟨t', rfl, hl', hp', hk, hkn, hh, hb⟩ := hrel
      have he := eql_head wr T p t' hT hl' hp'
      have HH := Lib.hid hh
      clear hh hl hp hn
      cases t' with
      | nil =>
        have hv : Tree.nil.val = .nilIface := rfl
        rw [hv] at he
        have ha : Tree.nil.atHead T p = false := rfl
        rw [ha] at he
        clear ha
        have f1 := noIsN
        have f2 := noUN
        have f3 := noVN
        go_wp2
        go_ret
        exact ⟨congrArg (fun b => Ending.returned (.bool b)) HH.out, hb⟩
      | leaf a =>
        have hv : (Tree.leaf a).val = .iface 132 (.pointer (some a)) := rfl
        rw [hv] at he
        have f1 := noIs94
        have f2 := noU94
        have f3 := noV94
        have e1 : (Tree.leaf a).hits T p = (Tree.leaf a).atHead T p := rfl
        rw [e1] at HH
        by_cases ha : (Tree.leaf a).atHead T p = true
        · rw [ha] at HH he
          clear ha
          go_wp2
          go_ret
          exact ⟨congrArg (fun b => Ending.returned (.bool b)) HH.out, hb⟩
        · have ha : (Tree.leaf a).atHead T p = false := by simpa using ha
          rw [ha] at HH he
          clear ha
          go_wp2
          go_ret
          exact ⟨congrArg (fun b => Ending.returned (.bool b)) HH.out, hb⟩
      | fault b op pl t1 =>
        have hv : (Tree.fault b op pl t1).val = .iface 61 (.pointer (some ⟨b, 0, none⟩)) := rfl
        rw [hv] at he
        have f1 := noIs44
        have f2 := hasU44
        have mU := methodU44
        have hn1 := eql_isNil t1
        have hn2 := guard_isNil t1
        have hnn : t1.isNil = false := by
          have := hl'.2.2
          cases t1 <;> first | rfl | exact absurd rfl this
        have e1 : (Tree.fault b op pl t1).hits T p = ((Tree.fault b op pl t1).atHead T p || t1.hits T p) := rfl
        rw [e1] at HH
        by_cases ha : (Tree.fault b op pl t1).atHead T p = true
        · rw [ha] at HH he
          clear ha
          go_wp2
          go_ret
          exact ⟨congrArg (fun b => Ending.returned (.bool b)) HH.out, hb⟩
        · have ha : (Tree.fault b op pl t1).atHead T p = false := by simpa using ha
          rw [ha] at HH he
          clear ha
          go_wp2_with (go_at_call 101; refine (unwrap44 b op pl t1.val _ hl'.1).mono ?_; rintro e w' ⟨rfl, rfl⟩)
          go_roundg t1.size
          case rel => exact IsRel.next hl'.2.1 hp' (Nat.le_refl _) (by simp only [Tree.size] at hk; omega) hkn (by rw [← HH.out]; simp) hb
          case measure => simp only [Tree.size] at hk; omega

/-- errors.Is: a nil error; any other. -/
theorem errorsIs (t : Tree) (w : World) (T : Nat) (p : Addr) (hl : t.lies w) (hp : Target w p) (hT : T = 132 ∨ T = 61) :
    Calls Tryd.prog 39 #[t.val, .iface T (.pointer (some p))] w (IsPost w T p t) := by
  have h8 := @run_callFunc_extern Tryd.prog 59 _ ReflectliteType.typeOf Tryd.func59 (by kernel_rfl) (by kernel_rfl) (by kernel_rfl) (by kernel_rfl)
  have mR := methodComparable
  have hn1 := eql_isNil t
  have hn2 := guard_isNil t
  by_cases hnn : t.isNil = true
  · obtain rfl := Tree.val_isNil _ hnn
    have he := eql_nil w T (.pointer (some p))
    have hv : Tree.nil.val = .nilIface := rfl
    rw [hv]
    go_enter Tryd.func39, Tryd.ntmps39
    go_wp2
    go_ret
    exact ⟨rfl, Below.refl _ _⟩
  · have hnn : t.isNil = false := by simpa using hnn
    rcases hT with rfl | rfl
    · have tT := typeOf94
      have cT := comparable94
      go_enter Tryd.func39, Tryd.ntmps39
      go_wp2_with (go_at_call 60; refine (is_any t.size t _ _ p (Nat.le_refl _) hl hp (Or.inl rfl)).mono ?_; rintro e w' ⟨rfl, hb⟩)
      go_ret
      exact ⟨rfl, hb⟩
    · have tT := typeOf44
      have cT := comparable44
      go_enter Tryd.func39, Tryd.ntmps39
      go_wp2_with (go_at_call 60; refine (is_any t.size t _ _ p (Nat.le_refl _) hl hp (Or.inr rfl)).mono ?_; rintro e w' ⟨rfl, hb⟩)
      go_ret
      exact ⟨rfl, hb⟩
end Go.Proofs.YtgdjnohhofbcnaaDoor
end
section
namespace Go.Proofs.YtgdjnohhofbcnaaDoor
open Go.RowKit Go.Extern.Stop Go.Stop Go.Extern

/-- The target variable is there and may be written. -/
def Slot (w : World) (g : Nat) : Prop := g < w.heap.size ∧ (∃ old, w.cell? ⟨g, 0, none⟩ = some old) ∧ w.frozen? ⟨g, 0, none⟩ = false
theorem Slot.below {w w' : World} {g : Nat} (hb : Below w.heap.size w w') (h : Slot w g) : Slot w' g := by
  obtain ⟨h1, ⟨old, h2⟩, h3⟩ := h
  exact ⟨Nat.lt_of_lt_of_le h1 hb.size, ⟨old, (hb.cell (p := ⟨g, 0, none⟩) h1).trans h2⟩, (hb.frozen (p := ⟨g, 0, none⟩) h1).trans h3⟩

/-- reflectlite's Value of the target: its three cells in block v; the target's address in block u. -/
def Held (w : World) (v u g : Nat) : Prop := v < w.heap.size ∧ u < w.heap.size ∧ w.cell? ⟨v, 0, none⟩ = some (.pointer (some ⟨13, 63, none⟩)) ∧ w.cell? ⟨v, 1, none⟩ = some (.pointer (some ⟨u, 0, none⟩)) ∧ w.cell? ⟨v, 2, none⟩ = some (.int .u64 150) ∧ w.cell? ⟨u, 0, none⟩ = some (.pointer (some ⟨g, 0, none⟩))
theorem Held.below {w w' : World} {v u g : Nat} (hb : Below w.heap.size w w') (h : Held w v u g) : Held w' v u g := by
  obtain ⟨h1, h2, h3, h4, h5, h6⟩ := h
  exact ⟨Nat.lt_of_lt_of_le h1 hb.size, Nat.lt_of_lt_of_le h2 hb.size, (hb.cell (p := ⟨v, 0, none⟩) h1).trans h3, (hb.cell (p := ⟨v, 1, none⟩) h1).trans h4, (hb.cell (p := ⟨v, 2, none⟩) h1).trans h5, (hb.cell (p := ⟨u, 0, none⟩) h2).trans h6⟩

def AsPost (w : World) (g : Nat) (t : Tree) (e : Ending) (w' : World) : Prop :=
  (t.first = none ∧ e = .returned (.bool false) ∧ Below w.heap.size w w') ∨
  (∃ b, t.first = some b ∧ e = .returned (.bool true) ∧ Below g w w' ∧ w'.cell? ⟨g, 0, none⟩ = some (.pointer (some ⟨b, 0, none⟩)) ∧ w'.frozen? ⟨g, 0, none⟩ = false)

def AsRel (w : World) (g v u n : Nat) (t : Tree) (k : Nat) (x : Value) (wr : World) : Prop :=
  ∃ t' : Tree, x = t'.val ∧ t'.isNil = false ∧ t'.lies wr ∧ Slot wr g ∧ Held wr v u g ∧ t'.size ≤ k ∧ k ≤ n ∧ t'.first = t.first ∧ Below w.heap.size w wr

theorem eql_isNil' (t : Tree) (w : World) : (binOp .eql 29 t.val .nilIface).run Tryd.prog w = .ok (.bool t.isNil) w := eql_isNil t w

set_option maxRecDepth 100000 in
set_option maxHeartbeats 2000000 in
theorem as_any (n : Nat) : ∀ (t : Tree) (w : World) (g u : Nat), t.size ≤ n → t.isNil = false → t.lies w → Slot w g → u < w.heap.size → w.cell? ⟨u, 0, none⟩ = some (.pointer (some ⟨g, 0, none⟩)) →
    Calls Tryd.prog 64 #[t.val, .iface 63 (.pointer (some ⟨g, 0, none⟩)), .agg #[.pointer (some ⟨13, 63, none⟩), .pointer (some ⟨u, 0, none⟩), .int .u64 150], .iface 111 (.agg #[.pointer (some ⟨13, 61, none⟩)])] w (AsPost w g t) := by
  induction n with
  | zero =>
    intro t w g u hn
    cases t <;> simp [Tree.size] at hn
  | succ n ih =>
    intro t w g u hn hnil hl hs hu hcu
    have hB0 : Below w.heap.size w (w.alloc (.cells #[.pointer (some ⟨13, 63, none⟩), .pointer (some ⟨u, 0, none⟩), .int .u64 150] 91)) := (Below.refl _ _).alloc (Nat.le_refl _) _
    have hH0 : Held (w.alloc (.cells #[.pointer (some ⟨13, 63, none⟩), .pointer (some ⟨u, 0, none⟩), .int .u64 150] 91)) w.heap.size u g :=
      ⟨by simp, by simp; omega, by simp, by simp, by simp, (hB0.cell (p := ⟨u, 0, none⟩) hu).trans hcu⟩
    have hl0 := Tree.lies_below hB0 (t := t) hl
    have hs0 := hs.below hB0
    have hg : g < w.heap.size := hs.1
    clear hl hs hcu
    go_enter Tryd.func64, Tryd.ntmps64
    go_wp2_with fail
    go_loopg [0] (n + 1) (fun k x wr => AsRel w g w.heap.size u (n + 1) t k x wr)
    case atStart => exact ⟨t, rfl, hnil, hl0, hs0, hH0, hn, Nat.le_refl _, rfl, hB0⟩
    case round =>
      clear hl0 hs0 hH0 hnil hn hB0 hu
      obtain ⟨t', rfl, hnil', hl', hs', hH', hk, hkn, hh, hb⟩ := hrel
      have HH := Lib.hid hh
      clear hh
      have mA := asMethodAssignableTo
      cases t' with
      | nil => cases hnil'
      | leaf a =>
        have hv : (Tree.leaf a).val = .iface 132 (.pointer (some a)) := rfl
        have f0 := asTypeOf94
        have f1 := asAssignable94
        have f2 := noAs94
        have f3 := noU94
        have f4 := noV94
        clear hnil' hl' hs' hH'
        go_wp2
        go_ret
        exact Or.inl ⟨HH.out.symm, rfl, hb⟩
      | fault b op pl t1 =>
        have hv : (Tree.fault b op pl t1).val = .iface 61 (.pointer (some ⟨b, 0, none⟩)) := rfl
        obtain ⟨hs1, ⟨old, hs2⟩, hs3⟩ := hs'
        obtain ⟨v1, u1, c0, c1, c2, cu⟩ := hH'
        have f0 := asTypeOf44
        have f1 := asAssignable44
        have f2 := asElemV ⟨u, 0, none⟩ ⟨g, 0, none⟩ wr cu
        have f3 := asValueOf44
        have f4 := asSet ⟨g, 0, none⟩ ⟨wr.heap.size, 0, none⟩ ⟨b, 0, none⟩ old (wr.alloc (.cells #[.pointer (some ⟨b, 0, none⟩)] 61)) (by simp) (by rw [World.cell?_alloc_lt _ _ ⟨g, 0, none⟩ hs1]; exact hs2) (by rw [World.frozen?_alloc_old _ _ ⟨g, 0, none⟩ (Nat.ne_of_lt hs1)]; exact hs3)
        clear hnil' hl' hk hkn
        go_wp2
        go_ret
        exact Or.inr ⟨b, HH.out.symm, rfl, ((hb.mono (Nat.le_of_lt hg)).setCell (Nat.le_refl _) _).alloc (by simp; omega) _, (World.cell?_alloc_lt _ _ _ (by simpa using hs1)).trans (World.cell?_setCell_same _ _ _ hs2), (World.frozen?_alloc_old _ _ _ (by simp; omega)).trans (by simpa using hs3)⟩
/-- errors' own variable errorType holds the handle of the type 'error'. -/
def TypeVar (w : World) : Prop := w.cell? ⟨12, 0, none⟩ = some (.iface 111 (.agg #[.pointer (some ⟨13, 29, none⟩)]))
theorem cell_lt {w : World} {a : Addr} {v : Value} (h : w.cell? a = some v) : a.block < w.heap.size := by
  rcases Nat.lt_or_ge a.block w.heap.size with k | k
  · exact k
  · simp [World.cell?, Array.getElem?_eq_none k] at h
theorem TypeVar.below {w w' : World} (hb : Below w.heap.size w w') (h : TypeVar w) : TypeVar w' := (hb.cell (p := ⟨12, 0, none⟩) (cell_lt h)).trans h

theorem AsPost.mono {w W : World} {g : Nat} {t : Tree} {e : Ending} {w' : World} (hB : Below w.heap.size w W) (hg : g < w.heap.size) (h : AsPost W g t e w') : AsPost w g t e w' := by
  rcases h with ⟨h1, h2, h3⟩ | ⟨b, h1, h2, h3, h4⟩
  · exact Or.inl ⟨h1, h2, hB.trans (h3.mono hB.size)⟩
  · exact Or.inr ⟨b, h1, h2, (hB.mono (Nat.le_of_lt hg)).trans h3, h4⟩

set_option maxHeartbeats 1000000 in
theorem errorsAs (t : Tree) (w : World) (g : Nat) (hl : t.lies w) (hs : Slot w g) (hT : TypeVar w) :
    Calls Tryd.prog 41 #[t.val, .iface 63 (.pointer (some ⟨g, 0, none⟩))] w (AsPost w g t) := by
  have hn1 := eql_isNil t
  have hn2 := guard_isNil t
  by_cases hnn : t.isNil = true
  · obtain rfl := Tree.val_isNil _ hnn
    go_enter Tryd.func41, Tryd.ntmps41
    go_wp2
    go_ret
    exact Or.inl ⟨rfl, rfl, Below.refl _ _⟩
  · have hnn : t.isNil = false := by simpa using hnn
    have H := Lib.hid hnn
    have hB1 : Below w.heap.size w (w.alloc (.cells #[.pointer (some ⟨g, 0, none⟩)] 63)) := (Below.refl _ _).alloc (Nat.le_refl _) _
    have hB2 : Below w.heap.size w ((w.alloc (.cells #[.pointer (some ⟨g, 0, none⟩)] 63)).alloc (.cells #[.pointer (some ⟨13, 63, none⟩), .pointer (some ⟨w.heap.size, 0, none⟩), .int .u64 150] 91)) := hB1.alloc (by simp) _
    have hc := as_any t.size t ((w.alloc (.cells #[.pointer (some ⟨g, 0, none⟩)] 63)).alloc (.cells #[.pointer (some ⟨13, 63, none⟩), .pointer (some ⟨w.heap.size, 0, none⟩), .int .u64 150] 91)) g w.heap.size (Nat.le_refl _) hnn (Tree.lies_below hB2 (t := t) hl) (hs.below hB2) (by simp; omega) (by rw [World.cell?_alloc_lt _ _ ⟨w.heap.size, 0, none⟩ (by simp)]; simp)
    have f1 := asValueOf46
    have f2 := asType46
    have f3 := asMethodKind
    have f4 := asMethodElem
    have f5 := asMethodImplements
    have f6 := asKind46
    have f7 := asKind44
    have f8 := asElem46
    have f9 := asImplements
    have f10 := asIsNil ⟨w.heap.size, 0, none⟩ ⟨g, 0, none⟩ ((w.alloc (.cells #[.pointer (some ⟨g, 0, none⟩)] 63)).alloc (.cells #[.pointer (some ⟨13, 63, none⟩), .pointer (some ⟨w.heap.size, 0, none⟩), .int .u64 150] 91)) (by rw [World.cell?_alloc_lt _ _ ⟨w.heap.size, 0, none⟩ (by simp)]; simp)
    have hv : ((w.alloc (.cells #[.pointer (some ⟨g, 0, none⟩)] 63)).alloc (.cells #[.pointer (some ⟨13, 63, none⟩), .pointer (some ⟨w.heap.size, 0, none⟩), .int .u64 150] 91)).cell? ⟨12, 0, none⟩ = some (.iface 111 (.agg #[.pointer (some ⟨13, 29, none⟩)])) := hT.below hB2
    have hg := hs.1
    have HH := Lib.hid (And.intro hl (And.intro hs hT))
    clear hl hs hT
    go_enter Tryd.func41, Tryd.ntmps41
    go_wp2_with fail
    refine hc.mono ?_
    intro e w' h
    have hp := h.mono hB2 hg
    clear h hc
    rcases hp with ⟨h1, rfl, h3⟩ | ⟨b, h1, rfl, h3, h4⟩
    · go_wp2_with fail
      go_ret
      exact Or.inl ⟨h1, rfl, h3⟩
    · go_wp2_with fail
      go_ret
      exact Or.inr ⟨b, h1, rfl, h3, h4⟩
end Go.Proofs.YtgdjnohhofbcnaaDoor
end
section
namespace Go.Proofs.YtgdjnohhofbcnaaDoor
open Go.RowKit Go.Extern.Stop Go.Stop Go.Extern

theorem heap_alloc_new (w : World) (o : Obj) : (w.alloc o).heap[w.heap.size]? = some o := by
  show (w.heap.push o)[w.heap.size]? = some o
  simp

/-- Which of api's errors a number names: 1 to 11 itself, any other one 0 (Unknown). -/
def known (n : Int) : Nat := if 1 ≤ n ∧ n ≤ 11 then n.toNat else 0
theorem known_le (n : Int) : known n ≤ 11 := by unfold known; split <;> omega

/-- The package-level variable (its block) of each of api's errors. -/
def rootVar : Nat → Nat
  | 1 => 0 | 2 => 1 | 3 => 2 | 4 => 3 | 5 => 4 | 6 => 5
  | 7 => 6 | 8 => 7 | 9 => 8 | 10 => 9 | 11 => 10 | _ => 11

/-- api's twelve errors are there: each variable holds a pointer to an errorString of its own. -/
structure Roots (w : World) (A : Nat → Addr) : Prop where
  var : ∀ k, k ≤ 11 → w.cell? ⟨rootVar k, 0, none⟩ = some (.iface 132 (.pointer (some (A k))))
  there : ∀ k, k ≤ 11 → Target w (A k)
  apart : ∀ j k, j ≤ 11 → k ≤ 11 → A j = A k → j = k
theorem Roots.below {w w' : World} {A : Nat → Addr} (hb : Below w.heap.size w w') (h : Roots w A) : Roots w' A :=
  ⟨fun k hk => (hb.cell (p := ⟨rootVar k, 0, none⟩) (cell_lt (h.var k hk))).trans (h.var k hk), fun k hk => (h.there k hk).below hb, h.apart⟩

theorem numbered_any (n : Int) (w : World) (A : Nat → Addr) (hr : Roots w A) :
    Calls Tryd.prog 65 #[.int .i64 n] w fun e w' => e = .returned (Tree.leaf (A (known n))).val ∧ w = w' := by
  have r0 : w.cell? ⟨11, 0, none⟩ = some (.iface 132 (.pointer (some (A 0)))) := hr.var 0 (by decide)
  have r1 : w.cell? ⟨0, 0, none⟩ = some (.iface 132 (.pointer (some (A 1)))) := hr.var 1 (by decide)
  have r2 : w.cell? ⟨1, 0, none⟩ = some (.iface 132 (.pointer (some (A 2)))) := hr.var 2 (by decide)
  have r3 : w.cell? ⟨2, 0, none⟩ = some (.iface 132 (.pointer (some (A 3)))) := hr.var 3 (by decide)
  have r4 : w.cell? ⟨3, 0, none⟩ = some (.iface 132 (.pointer (some (A 4)))) := hr.var 4 (by decide)
  have r5 : w.cell? ⟨4, 0, none⟩ = some (.iface 132 (.pointer (some (A 5)))) := hr.var 5 (by decide)
  have r6 : w.cell? ⟨5, 0, none⟩ = some (.iface 132 (.pointer (some (A 6)))) := hr.var 6 (by decide)
  have r7 : w.cell? ⟨6, 0, none⟩ = some (.iface 132 (.pointer (some (A 7)))) := hr.var 7 (by decide)
  have r8 : w.cell? ⟨7, 0, none⟩ = some (.iface 132 (.pointer (some (A 8)))) := hr.var 8 (by decide)
  have r9 : w.cell? ⟨8, 0, none⟩ = some (.iface 132 (.pointer (some (A 9)))) := hr.var 9 (by decide)
  have r10 : w.cell? ⟨9, 0, none⟩ = some (.iface 132 (.pointer (some (A 10)))) := hr.var 10 (by decide)
  have r11 : w.cell? ⟨10, 0, none⟩ = some (.iface 132 (.pointer (some (A 11)))) := hr.var 11 (by decide)
  clear hr
  rcases (by omega : n = 1 ∨ n = 2 ∨ n = 3 ∨ n = 4 ∨ n = 5 ∨ n = 6 ∨ n = 7 ∨ n = 8 ∨ n = 9 ∨ n = 10 ∨ n = 11 ∨ n < 1 ∨ 11 < n) with rfl | rfl | rfl | rfl | rfl | rfl | rfl | rfl | rfl | rfl | rfl | h | h
  all_goals
    go_enter Tryd.func65, Tryd.ntmps65
    go_wp2
    go_ret
  iterate 11 exact ⟨rfl, rfl⟩
  · exact ⟨by rw [show known n = 0 by unfold known; rw [if_neg (by omega)]]; rfl, rfl⟩
  · exact ⟨by rw [show known n = 0 by unfold known; rw [if_neg (by omega)]]; rfl, rfl⟩

theorem new_zero (op : ByteArray) (pl : Int) (w : World) :
    Calls Tryd.prog 42 #[.string op, .int .i64 pl, .int .i64 0] w fun e w' => e = .returned .nilIface ∧ w = w' := by
  go_enter Tryd.func42, Tryd.ntmps42
  go_wp2
  go_ret
  exact ⟨rfl, rfl⟩
theorem new_any (op : ByteArray) (pl n : Int) (w : World) (A : Nat → Addr) (hr : Roots w A) (hn : n ≠ 0) :
    Calls Tryd.prog 42 #[.string op, .int .i64 pl, .int .i64 n] w fun e w' => e = .returned (Tree.fault w.heap.size op pl (.leaf (A (known n)))).val ∧ Below w.heap.size w w' ∧ w'.heap.size = w.heap.size + 1 ∧ (Tree.fault w.heap.size op pl (.leaf (A (known n)))).lies w' := by
  have hv : (Tree.leaf (A (known n))).val = .iface 132 (.pointer (some (A (known n)))) := rfl
  go_enter Tryd.func42, Tryd.ntmps42
  go_wp2_with (go_at_call 65; refine (numbered_any n _ A hr).mono ?_; rintro e w' ⟨rfl, rfl⟩)
  go_ret
  have hB : Below w.heap.size w (w.alloc (.cells #[.string op, .int .i64 pl, .iface 132 (.pointer (some (A (known n))))] 65)) := (Below.refl _ _).alloc (Nat.le_refl _) _
  exact ⟨rfl, hB, by simp, heap_alloc_new _ _, Tree.lies_below hB (t := .leaf (A (known n))) (hr.there _ (known_le n)), by simp⟩
theorem under_nil (op : ByteArray) (pl : Int) (w : World) :
    Calls Tryd.prog 52 #[.string op, .int .i64 pl, .nilIface] w fun e w' => e = .returned .nilIface ∧ w = w' := by
  go_enter Tryd.func52, Tryd.ntmps52
  go_wp2
  go_ret
  exact ⟨rfl, rfl⟩
theorem under_any (op : ByteArray) (pl : Int) (t : Tree) (w : World) (hl : t.lies w) (hn : t.isNil = false) :
    Calls Tryd.prog 52 #[.string op, .int .i64 pl, t.val] w fun e w' => e = .returned (Tree.fault w.heap.size op pl t).val ∧ Below w.heap.size w w' ∧ w'.heap.size = w.heap.size + 1 ∧ (Tree.fault w.heap.size op pl t).lies w' := by
  have hne : t ≠ .nil := by rintro rfl; cases hn
  obtain ⟨T, x, hv⟩ := Tree.val_held hne
  have hB : Below w.heap.size w (w.alloc (.cells #[.string op, .int .i64 pl, t.val] 65)) := (Below.refl _ _).alloc (Nat.le_refl _) _
  have hq : (Tree.fault w.heap.size op pl t).lies (w.alloc (.cells #[.string op, .int .i64 pl, t.val] 65)) := ⟨heap_alloc_new _ _, Tree.lies_below hB (t := t) hl, hne⟩
  have HQ := Lib.hid (And.intro hB hq)
  clear hB hq hl
  rw [hv] at HQ ⊢
  have HV := Lib.hid hv
  clear hv
  go_enter Tryd.func52, Tryd.ntmps52
  go_wp2
  go_ret
  exact ⟨rfl, HQ.out.1, by simp, HQ.out.2⟩

/-! ### holds: errors.Is behind a deferred recover -/
theorem holds_idle (p : Addr) (w : World) :
    CallsD Tryd.prog 82 #[.pointer (some p)] .returning w fun e u' w' => e = .returned (.tuple #[]) ∧ u' = .returning ∧ w' = w := by
  refine callsD_of_wpS Tryd.func82 rfl fun c₀ cs hu => ?_
  apply wpS_seq
  apply wpS_region
  simp [wpOpsS, go_sem, recoverD, hu, Tryd.ntmps82, Exit.thenS]
  refine wpS_cond (t := false) (by simp [Act.eval, Array.replicate]) ?_
  simp only [Bool.false_eq_true, if_false]
  refine wpS_of_wp (wp_skip ?_)
  cases c₀
  simp_all [bodyPostS, results, Tryd.results82]
theorem first_idle (p : Addr) (w : World) :
    CallsD Tryd.prog 81 #[.pointer (some p)] .returning w fun e u' w' => e = .returned (.tuple #[]) ∧ u' = .returning ∧ w' = w := by
  refine callsD_of_wpS Tryd.func81 rfl fun c₀ cs hu => ?_
  apply wpS_seq
  apply wpS_region
  simp [wpOpsS, go_sem, recoverD, hu, Tryd.ntmps81, Exit.thenS]
  refine wpS_cond (t := false) (by simp [Act.eval, Array.replicate]) ?_
  simp only [Bool.false_eq_true, if_false]
  refine wpS_of_wp (wp_skip ?_)
  cases c₀
  simp_all [bodyPostS, results, Tryd.results81]

set_option maxHeartbeats 1000000 in
theorem holds_any (t : Tree) (w : World) (T : Nat) (p : Addr) (hl : t.lies w) (hp : Target w p) (hT : T = 132 ∨ T = 61) :
    Calls Tryd.prog 74 #[t.val, .iface T (.pointer (some p))] w (IsPost w T p t) := by
  have hmf : ∀ (fn : Fn) (first cap : Array Value) (w : World), (Instr.makeFunc fn first cap).run Tryd.prog w = .ok (.func fn first cap) w := fun _ _ _ _ => rfl
  have hB : Below w.heap.size w (w.alloc (.cells #[.bool false] 4)) := (Below.refl _ _).alloc (Nat.le_refl _) _
  have hc := errorsIs t (w.alloc (.cells #[.bool false] 4)) T p (Tree.lies_below hB (t := t) hl) (hp.below hB) hT
  clear hl hp hT
  go_enter_defers Tryd.func74, Tryd.ntmps74
  go_wp2_with fail
  refine hc.mono ?_
  clear hc
  rintro e w1 ⟨rfl, hb1⟩
  have hz : w.heap.size < (w.alloc (.cells #[.bool false] 4)).heap.size := by simp
  have hd : w1.cell? ⟨w.heap.size, 0, none⟩ = some (.bool false) := (hb1.cell (p := ⟨w.heap.size, 0, none⟩) hz).trans (by simp)
  have hf : w1.frozen? ⟨w.heap.size, 0, none⟩ = false := (hb1.frozen (p := ⟨w.heap.size, 0, none⟩) hz).trans (by simp)
  have hBB : Below w.heap.size w w1 := hB.trans (hb1.mono (by simp))
  clear hB hb1 hz
  have HB := Lib.hid hBB
  clear hBB
  go_wp2_with fail
  refine leaves_cons (f := 82) (args := #[.pointer (some ⟨w.heap.size, 0, none⟩)]) (by simp) (by simp [go_sem]) ?_
  refine (holds_idle ⟨w.heap.size, 0, none⟩ _).mono ?_
  rintro e u' w'' ⟨rfl, rfl, rfl⟩
  have hq : (w1.setCell ⟨w.heap.size, 0, none⟩ (.bool (t.hits T p))).cell? ⟨w.heap.size, 0, none⟩ = some (.bool (t.hits T p)) := World.cell?_setCell_same _ _ _ hd
  simp [Leaves, settle, results, Tryd.results74, go_sem, hq]
  exact ⟨rfl, HB.out.setCell (Nat.le_refl _) _⟩

def firstPtr (t : Tree) : Value := match t.first with
  | none => .pointer none
  | some b => .pointer (some ⟨b, 0, none⟩)

def FirstPost (w : World) (t : Tree) (e : Ending) (w' : World) : Prop := e = .returned (firstPtr t) ∧ Below w.heap.size w w'

set_option maxHeartbeats 1000000 in
theorem first_any (t : Tree) (w : World) (hl : t.lies w) (hT : TypeVar w) :
    Calls Tryd.prog 73 #[t.val] w (FirstPost w t) := by
  have hmf : ∀ (fn : Fn) (first cap : Array Value) (w : World), (Instr.makeFunc fn first cap).run Tryd.prog w = .ok (.func fn first cap) w := fun _ _ _ _ => rfl
  have hB : Below w.heap.size w (w.alloc (.cells #[.pointer none] 61)) := (Below.refl _ _).alloc (Nat.le_refl _) _
  have hc := errorsAs t (w.alloc (.cells #[.pointer none] 61)) w.heap.size (Tree.lies_below hB (t := t) hl) ⟨by simp, ⟨.pointer none, by simp⟩, by simp⟩ (hT.below hB)
  clear hl hT
  go_enter_defers Tryd.func73, Tryd.ntmps73
  go_wp2_with fail
  refine hc.mono ?_
  clear hc
  rintro e w1 (⟨h1, rfl, hb1⟩ | ⟨b, h1, rfl, hb1, hd, hf⟩)
  · have hz : w.heap.size < (w.alloc (.cells #[.pointer none] 61)).heap.size := by simp
    have hd : w1.cell? ⟨w.heap.size, 0, none⟩ = some (.pointer none) := (hb1.cell (p := ⟨w.heap.size, 0, none⟩) hz).trans (by simp)
    have hf : w1.frozen? ⟨w.heap.size, 0, none⟩ = false := (hb1.frozen (p := ⟨w.heap.size, 0, none⟩) hz).trans (by simp)
    have hp : firstPtr t = .pointer none := by unfold firstPtr; rw [h1]
    have HP := Lib.hid hp
    have HB := Lib.hid (hB.trans (hb1.mono (by simp)))
    clear hB hb1 hz hp h1
    go_wp2_with fail
    refine leaves_cons (f := 81) (args := #[.pointer (some ⟨w.heap.size, 0, none⟩)]) (by simp) (by simp [go_sem]) ?_
    refine (first_idle ⟨w.heap.size, 0, none⟩ _).mono ?_
    rintro e u' w'' ⟨rfl, rfl, rfl⟩
    have hq : (w1.setCell ⟨w.heap.size, 0, none⟩ (.pointer none)).cell? ⟨w.heap.size, 0, none⟩ = some (.pointer none) := World.cell?_setCell_same _ _ _ hd
    simp [Leaves, settle, results, Tryd.results73, go_sem, hq]
    exact ⟨by rw [HP.out], HB.out.setCell (Nat.le_refl _) _⟩
  · have hp : firstPtr t = .pointer (some ⟨b, 0, none⟩) := by unfold firstPtr; rw [h1]
    have HP := Lib.hid hp
    have HB := Lib.hid (hB.trans hb1)
    clear hB hb1 hp h1
    go_wp2_with fail
    refine leaves_cons (f := 81) (args := #[.pointer (some ⟨w.heap.size, 0, none⟩)]) (by simp) (by simp [go_sem]) ?_
    refine (first_idle ⟨w.heap.size, 0, none⟩ _).mono ?_
    rintro e u' w'' ⟨rfl, rfl, rfl⟩
    have hq : (w1.setCell ⟨w.heap.size, 0, none⟩ (.pointer (some ⟨b, 0, none⟩))).cell? ⟨w.heap.size, 0, none⟩ = some (.pointer (some ⟨b, 0, none⟩)) := World.cell?_setCell_same _ _ _ hd
    simp [Leaves, settle, results, Tryd.results73, go_sem, hq]
    exact ⟨by rw [HP.out], HB.out.setCell (Nat.le_refl _) _⟩
end Go.Proofs.YtgdjnohhofbcnaaDoor
end
section
namespace Go.Proofs.YtgdjnohhofbcnaaDoor
open Go.RowKit

theorem heap_ltN {w : World} {b : Nat} {o : Obj} (h : w.heap[b]? = some o) : b < w.heap.size := by
  rcases Nat.lt_or_ge b w.heap.size with k | k
  · exact k
  · simp [Array.getElem?_eq_none k] at h
theorem below_drewN {B : Nat} {a w : World} (h : Below B a w) (n : Nat) : Below B a (w.drewN n) :=
  ⟨h.os, h.tape, h.output, h.size, h.block⟩

/-- for a quiet region behind a quiet region, and for contracts that leave the world alone -/
theorem quiet_add_left {P : Program} {f : FuncId} {args : Array Value} {w : World} {a n : Nat} {v : Value}
    (h : Calls P f args (w.drewN (a + n)) fun e w' => e = .returned v ∧ w.drewN (a + n) = w') :
    Calls P f args (w.drewN (a + n)) fun e w'' => e = .returned v ∧ ∃ m, w'' = w.drewN (a + m) :=
  h.mono fun _ _ ⟨he, hm⟩ => ⟨he, n, hm.symm⟩
theorem quiet_left {P : Program} {f : FuncId} {args : Array Value} {w : World} {n : Nat} {v : Value}
    (h : Calls P f args (w.drewN n) fun e w' => e = .returned v ∧ w.drewN n = w') : Calls P f args (w.drewN n) fun e w'' => e = .returned v ∧ ∃ m, w'' = w.drewN m :=
  h.mono fun _ _ ⟨he, hm⟩ => ⟨he, n, hm.symm⟩
theorem own_shape {w : World} {base : Nat} {e : TypeId} {v : Value} {n : Nat} {xs : List Value} (h : w.ownsRow base e 1 v n xs) :
    (v = .slice none 0 0 ∧ n = 0 ∧ xs = []) ∨ ∃ g cap, v = .slice (some ⟨g, 0, none⟩) n cap ∧ base ≤ g ∧ g < w.heap.size ∧ n ≤ cap ∧ cap ≤ maxLen ∧ (∀ j, j < n → w.cell? ⟨g, j, none⟩ = xs[j]?) ∧ xs.length = n := by
  have h0 := h
  obtain ⟨hx, h | ⟨g, cap, cur, hv, hg, hh, hc, hm, r⟩⟩ := h
  · obtain ⟨h1, rfl⟩ := h
    exact Or.inl ⟨h1, rfl, List.eq_nil_of_length_eq_zero (by simpa using hx)⟩
  · subst hv
    exact Or.inr ⟨g, cap, rfl, hg, heap_ltN hh, hc, hm, fun j hj => h0.cellAt j (by omega), by omega⟩
theorem ownsRow_base {w : World} {base base' : Nat} {e : TypeId} {v : Value} {n : Nat} {xs : List Value} (hB : base' ≤ base) (h : w.ownsRow base e 1 v n xs) : w.ownsRow base' e 1 v n xs := by
  obtain ⟨hx, h | ⟨g, cap, cur, hv, hg, r⟩⟩ := h
  · exact ⟨hx, Or.inl h⟩
  · exact ⟨hx, Or.inr ⟨g, cap, cur, hv, Nat.le_trans hB hg, r⟩⟩
theorem ownsRow_below {w1 w2 : World} {base : Nat} {e : TypeId} {size : Nat} {v : Value} {n : Nat} {xs : List Value} (hb : Below w1.heap.size w1 w2) (h : w1.ownsRow base e size v n xs) : w2.ownsRow base e size v n xs :=
  h.kept (row := none) ⟨hb.os, hb.tape, hb.output, hb.size, fun k hk _ => hb.block k hk⟩ (by
    cases hv : v.ownBlock with
    | none => exact Or.inl rfl
    | some g => exact Or.inr (by simp))
/-- a post that tells the answer, and that old memory stays -/
def Tells (v : Value) (w : World) (e : Ending) (w' : World) : Prop := e = .returned v ∧ Below w.heap.size w w'
theorem Tells.of_same {P : Program} {f : FuncId} {args : Array Value} {w : World} {v : Value} (h : Calls P f args w fun e w' => e = .returned v ∧ w = w') : Calls P f args w (Tells v w) :=
  h.mono fun _ _ ⟨he, hw⟩ => ⟨he, by rw [← hw]; exact Below.refl _ _⟩
theorem add_off (b off j : Nat) : (⟨b, off, none⟩ : Addr).add j = ⟨b, off + j, none⟩ := by
  unfold Addr.add
  split
  · subst_vars; rfl
  · rfl

theorem only_drew {a w : World} {row : Option Nat} (h : a.grownBy w row) : a.grownBy w.drew row := ⟨h.os, h.tape, h.output, h.size, h.block⟩

theorem heap_newN (w : World) (o : Obj) : (w.alloc o).heap[w.heap.size]? = some o := by
  show (w.heap.push o)[w.heap.size]? = some o
  simp
theorem cell_alloc_row (w : World) (cs : Array Value) (t : TypeId) (j : Nat) : (w.alloc (.cells cs t)).cell? ⟨w.heap.size, j, none⟩ = cs[j]? :=
  cell_of_row _ _ _ cs t (0, 0) (heap_newN w _)
end Go.Proofs.YtgdjnohhofbcnaaDoor
end
section
namespace Go.Proofs.YtgdjnohhofbcnaaDoor
open Go.RowKit Go.Extern.Stop Go.Stop Go.Extern

/-- nothing but an error of this package, with its place and its number -/
def Err1 (w : World) (A : Nat → Addr) (op : ByteArray) (pl : Int) (k : Nat) (e : Ending) (w' : World) : Prop :=
  ∃ b, e = .returned (.iface 61 (.pointer (some ⟨b, 0, none⟩))) ∧ (Tree.fault b op pl (.leaf (A k))).lies w' ∧ Below w.heap.size w w'
/-- the same behind a first result -/
def Err2 (w : World) (A : Nat → Addr) (op : ByteArray) (pl : Int) (k : Nat) (v : Value) (e : Ending) (w' : World) : Prop :=
  ∃ b, e = .returned (.tuple #[v, .iface 61 (.pointer (some ⟨b, 0, none⟩))]) ∧ (Tree.fault b op pl (.leaf (A k))).lies w' ∧ Below w.heap.size w w'
theorem new_at (op : ByteArray) (pl : Int) (n : Nat) (w : World) (A : Nat → Addr) (hr : Roots w A) (hn : 1 ≤ n ∧ n ≤ 11) :
    Calls Tryd.prog 42 #[.string op, .int .i64 pl, .int .i64 (n : Int)] w (Err1 w A op pl n) := by
  have hk : known (n : Int) = n := by unfold known; rw [if_pos (by omega)]; rfl
  refine (new_any op pl n w A hr (by omega)).mono fun e w' ⟨he, hb, _, hl⟩ => ?_
  rw [hk] at he hl
  exact ⟨_, he, hl, hb⟩
theorem fault_val (b : Nat) (op : ByteArray) (pl : Int) (t : Tree) : (Tree.fault b op pl t).val = .iface 61 (.pointer (some ⟨b, 0, none⟩)) := rfl
theorem Err1.under {w w0 : World} {A : Nat → Addr} {op : ByteArray} {pl : Int} {k : Nat} {e : Ending} {w' : World} (hb : Below w0.heap.size w0 w) (h : Err1 w A op pl k e w') : Err1 w0 A op pl k e w' := by
  obtain ⟨b, h1, h2, h3⟩ := h
  exact ⟨b, h1, h2, hb.trans (h3.mono hb.size)⟩
end Go.Proofs.YtgdjnohhofbcnaaDoor
end
section
namespace Go.Proofs.YtgdjnohhofbcnaaDoor
open Go.RowKit Go.Extern.Stop Go.Stop Go.Extern

/-- What Code tells of a tree: no number for no error, the least number that is found, or 99. -/
def IsCode (A : Nat → Addr) (t : Tree) (c : Int) : Prop :=
  (t.isNil = true ∧ c = 0) ∨
  (t.isNil = false ∧ ∃ k : Nat, 1 ≤ k ∧ k ≤ 11 ∧ c = k ∧ t.hits 132 (A k) = true ∧ ∀ j, 1 ≤ j → j < k → t.hits 132 (A j) = false) ∨
  (t.isNil = false ∧ c = 99 ∧ ∀ j, 1 ≤ j → j ≤ 11 → t.hits 132 (A j) = false)
def CodePost (w : World) (A : Nat → Addr) (t : Tree) (e : Ending) (w' : World) : Prop := ∃ c, e = .returned (.int .i64 c) ∧ IsCode A t c ∧ Below w.heap.size w w'
def CodeRel (w : World) (A : Nat → Addr) (t : Tree) (v : Value) (wr : World) : Prop :=
  ∃ k : Nat, 1 ≤ k ∧ k ≤ 12 ∧ v = .int .i64 k ∧ (∀ j, 1 ≤ j → j < k → t.hits 132 (A j) = false) ∧ Below w.heap.size w wr

theorem known_nat {k : Nat} (h1 : 1 ≤ k) (h2 : k ≤ 11) : known (k : Int) = k := by unfold known; rw [if_pos (by omega)]; omega

set_option maxHeartbeats 2000000 in
theorem code_any (t : Tree) (w : World) (A : Nat → Addr) (hl : t.lies w) (hr : Roots w A) :
    Calls Tryd.prog 55 #[t.val] w (CodePost w A t) := by
  have hn1 := eql_isNil t
  have hn2 := guard_isNil t
  by_cases hnn : t.isNil = true
  · have HN := Lib.hid hnn
    obtain rfl := Tree.val_isNil _ hnn
    clear hl hr
    go_enter Tryd.func55, Tryd.ntmps55
    go_wp2_with fail
    go_ret
    exact ⟨_, rfl, Or.inl ⟨rfl, rfl⟩, Below.refl _ _⟩
  · have hnn : t.isNil = false := by simpa using hnn
    have HN := Lib.hid hnn
    have HL := Lib.hid hl
    have HR := Lib.hid hr
    clear hl hr
    go_enter Tryd.func55, Tryd.ntmps55
    go_wp2_with fail
    clear hnn hn1 hn2
    go_loopw [3] (fun v wr => CodeRel w A t v wr) (fun i _ => 12 - (intOf i).toNat)
    case atStart => exact ⟨1, Nat.le_refl _, by decide, rfl, fun j h1 h2 => by omega, Below.refl _ _⟩
    case round =>
      obtain ⟨k, hk1, hk2, rfl, hj, hb⟩ := hrel
      have HJ := Lib.hid hj
      clear hj
      by_cases hlt : k ≤ 11
      · have hc := holds_any t wr 132 (A k) (Tree.lies_below hb (t := t) HL.out) ((HR.out.below hb).there k (by omega)) (Or.inl rfl)
        have hk := known_nat hk1 hlt
        have HK := Lib.hid hk
        clear hk
        go_wp2_with fail
        refine (numbered_any (k : Int) wr A (HR.out.below hb)).mono ?_
        rintro e w1 ⟨rfl, rfl⟩
        rw [HK.out]
        have hv : (Tree.leaf (A k)).val = .iface 132 (.pointer (some (A k))) := rfl
        rw [hv]
        clear hv
        go_wp2_with fail
        refine hc.mono ?_
        clear hc
        rintro e w2 ⟨he, hb2⟩
        by_cases hh : t.hits 132 (A k) = true
        · rw [hh] at he
          have HH := Lib.hid hh
          clear hh
          subst he
          go_wp2_with fail
          go_ret
          exact ⟨_, rfl, Or.inr (Or.inl ⟨HN.out, k, hk1, hlt, rfl, HH.out, HJ.out⟩), hb.trans (hb2.mono hb.size)⟩
        · have hh : t.hits 132 (A k) = false := by simpa using hh
          rw [hh] at he
          have HH := Lib.hid hh
          clear hh
          subst he
          go_wp2_with fail
          go_roundw
          case rel => exact ⟨k + 1, by omega, by omega, by go_num, fun j h1 h2 => by
            rcases Nat.lt_or_ge j k with h | h
            · exact HJ.out j h1 h
            · obtain rfl : j = k := by omega
              exact HH.out, hb.trans (hb2.mono hb.size)⟩
          case measure => simp [intOf]; omega
      · obtain rfl : k = 12 := by omega
        go_wp2_with fail
        go_ret
        exact ⟨_, rfl, Or.inr (Or.inr ⟨HN.out, rfl, fun j h1 h2 => HJ.out j h1 (by omega)⟩), hb⟩
/-- The tree ends in api's error number m (0: Unknown), and in no other. -/
def Ends (A : Nat → Addr) (m : Nat) (t : Tree) : Prop := t.isNil = false ∧ ∀ j, 1 ≤ j → j ≤ 11 → t.hits 132 (A j) = decide (j = m)
def codeNum (m : Nat) : Int := if m = 0 then 99 else m

theorem Ends.code {A : Nat → Addr} {m : Nat} {t : Tree} {c : Int} (hm : m ≤ 11) (h : Ends A m t) (hc : IsCode A t c) : c = codeNum m := by
  obtain ⟨hn, h⟩ := h
  unfold codeNum
  rcases hc with ⟨h1, _⟩ | ⟨_, k, hk1, hk2, rfl, hh, hj⟩ | ⟨_, rfl, hj⟩
  · rw [hn] at h1; cases h1
  · rw [h k hk1 hk2] at hh
    obtain rfl := of_decide_eq_true hh
    rw [if_neg (by omega)]
  · rcases Nat.eq_zero_or_pos m with h0 | h0
    · rw [if_pos h0]
    · have := hj m h0 hm
      rw [h m h0 hm] at this
      exact absurd rfl (of_decide_eq_false this)
theorem Ends.leaf {w : World} {A : Nat → Addr} (hr : Roots w A) {m : Nat} (hm : m ≤ 11) : Ends A m (.leaf (A m)) :=
  ⟨rfl, fun j h1 h2 => by
    simp only [Tree.hits]
    by_cases h : j = m
    · subst h; simp
    · have : A m ≠ A j := fun e => h (hr.apart _ _ hm h2 e).symm
      simp [h, this]⟩
theorem Ends.fault {A : Nat → Addr} {m b : Nat} {op : ByteArray} {pl : Int} {t : Tree} (h : Ends A m t) : Ends A m (.fault b op pl t) :=
  ⟨rfl, fun j h1 h2 => by
    simp only [Tree.hits]
    rw [h.2 j h1 h2]
    simp⟩

/-- Code of one Fault -/
theorem code_fault (b : Nat) (op : ByteArray) (pl : Int) (m : Nat) (w : World) (A : Nat → Addr) (hr : Roots w A) (hm : 1 ≤ m ∧ m ≤ 11) (hl : (Tree.fault b op pl (.leaf (A m))).lies w) :
    Calls Tryd.prog 55 #[.iface 61 (.pointer (some ⟨b, 0, none⟩))] w (Tells (.int .i64 (m : Int)) w) :=
  (code_any (.fault b op pl (.leaf (A m))) w A hl hr).mono fun e w' ⟨c, he, hc, hb⟩ => by
    have h1 := Ends.code hm.2 (Ends.leaf hr hm.2).fault hc
    unfold codeNum at h1
    rw [if_neg (by omega)] at h1
    subst h1
    exact ⟨he, hb⟩
theorem place_fault (b : Nat) (op : ByteArray) (pl : Int) (v : Value) (w : World) (hb : w.heap[b]? = some (.cells #[.string op, .int .i64 pl, v] 65 (0, 0))) :
    Calls Tryd.prog 72 #[.pointer (some ⟨b, 0, none⟩)] w (Tells (.tuple #[.string op, .int .i64 pl, .bool true]) w) := by
  have h0 : w.cell? ⟨b, 0, none⟩ = some (.string op) := by simp [World.cell?, hb]
  have h1 : w.cell? ⟨b, 1, none⟩ = some (.int .i64 pl) := by simp [World.cell?, hb]
  clear hb
  go_enter Tryd.func72, Tryd.ntmps72
  go_wp2
  go_quiet (fail)
  go_wp2
  go_ret3
  exact ⟨rfl, below_drewN (Below.refl _ _) _⟩
/-- Outer of one Fault -/
theorem outer_fault (b : Nat) (op : ByteArray) (pl : Int) (a : Addr) (w : World) (hT : TypeVar w) (hl : (Tree.fault b op pl (.leaf a)).lies w) :
    Calls Tryd.prog 54 #[.iface 61 (.pointer (some ⟨b, 0, none⟩))] w (Tells (.tuple #[.string op, .int .i64 pl, .bool true]) w) := by
  have hc := first_any (.fault b op pl (.leaf a)) w hl hT
  have hv : firstPtr (.fault b op pl (.leaf a)) = .pointer (some ⟨b, 0, none⟩) := rfl
  unfold FirstPost at hc
  rw [hv] at hc
  have HL := Lib.hid hl
  have HC := Lib.hid hc
  clear hT hl hc hv
  go_enter Tryd.func54, Tryd.ntmps54
  go_wp2_with fail
  refine HC.out.mono ?_
  rintro e w1 ⟨rfl, hb⟩
  have hp := place_fault b op pl (Tree.leaf a).val w1 ((hb.block _ (heap_lt HL.out.1)).trans HL.out.1)
  go_wp2_with fail
  refine hp.mono ?_
  clear hp
  rintro e w2 ⟨rfl, hb2⟩
  go_wp2_with fail
  go_ret3
  exact ⟨rfl, hb.trans (hb2.mono hb.size)⟩
end Go.Proofs.YtgdjnohhofbcnaaDoor
end
section
namespace Go.Proofs.YtgdjnohhofbcnaaDoor
open Go.RowKit Go.Extern.Stop Go.Stop Go.Extern

theorem Root_any (n : Int) (w : World) (A : Nat → Addr) (hr : Roots w A) :
    Calls Tryd.prog 40 #[.int .i64 n] w fun e w' => e = .returned (.iface 132 (.pointer (some (A (known n))))) ∧ w = w' := by
  have r0 : w.cell? ⟨11, 0, none⟩ = some (.iface 132 (.pointer (some (A 0)))) := hr.var 0 (by decide)
  have r1 : w.cell? ⟨0, 0, none⟩ = some (.iface 132 (.pointer (some (A 1)))) := hr.var 1 (by decide)
  have r2 : w.cell? ⟨1, 0, none⟩ = some (.iface 132 (.pointer (some (A 2)))) := hr.var 2 (by decide)
  have r3 : w.cell? ⟨2, 0, none⟩ = some (.iface 132 (.pointer (some (A 3)))) := hr.var 3 (by decide)
  have r4 : w.cell? ⟨3, 0, none⟩ = some (.iface 132 (.pointer (some (A 4)))) := hr.var 4 (by decide)
  have r5 : w.cell? ⟨4, 0, none⟩ = some (.iface 132 (.pointer (some (A 5)))) := hr.var 5 (by decide)
  have r6 : w.cell? ⟨5, 0, none⟩ = some (.iface 132 (.pointer (some (A 6)))) := hr.var 6 (by decide)
  have r7 : w.cell? ⟨6, 0, none⟩ = some (.iface 132 (.pointer (some (A 7)))) := hr.var 7 (by decide)
  have r8 : w.cell? ⟨7, 0, none⟩ = some (.iface 132 (.pointer (some (A 8)))) := hr.var 8 (by decide)
  have r9 : w.cell? ⟨8, 0, none⟩ = some (.iface 132 (.pointer (some (A 9)))) := hr.var 9 (by decide)
  have r10 : w.cell? ⟨9, 0, none⟩ = some (.iface 132 (.pointer (some (A 10)))) := hr.var 10 (by decide)
  have r11 : w.cell? ⟨10, 0, none⟩ = some (.iface 132 (.pointer (some (A 11)))) := hr.var 11 (by decide)
  clear hr
  rcases (by omega : n = 1 ∨ n = 2 ∨ n = 3 ∨ n = 4 ∨ n = 5 ∨ n = 6 ∨ n = 7 ∨ n = 8 ∨ n = 9 ∨ n = 10 ∨ n = 11 ∨ n < 1 ∨ 11 < n) with rfl | rfl | rfl | rfl | rfl | rfl | rfl | rfl | rfl | rfl | rfl | h | h
  all_goals
    go_enter Tryd.func40, Tryd.ntmps40
    go_wp2
    go_ret
  iterate 11 exact ⟨rfl, rfl⟩
  · exact ⟨by rw [show known n = 0 by unfold known; rw [if_neg (by omega)]]; rfl, rfl⟩
  · exact ⟨by rw [show known n = 0 by unfold known; rw [if_neg (by omega)]]; rfl, rfl⟩

/-- errors.As where a Fault is found. -/
theorem errorsAs_hit (t : Tree) (b : Nat) (w : World) (g : Nat) (ht : t.first = some b) (hl : t.lies w) (hs : Slot w g) (hT : TypeVar w) :
    Calls Tryd.prog 41 #[t.val, .iface 63 (.pointer (some ⟨g, 0, none⟩))] w fun e w' => e = .returned (.bool true) ∧ Below g w w' ∧ w'.cell? ⟨g, 0, none⟩ = some (.pointer (some ⟨b, 0, none⟩)) := by
  refine (errorsAs t w g hl hs hT).mono ?_
  rintro e w' (⟨h1, _⟩ | ⟨b', h1, h2, h3, h4, _⟩)
  · rw [ht] at h1; cases h1
  · obtain rfl := Option.some.inj (ht.symm.trans h1)
    exact ⟨h2, h3, h4⟩

/-- Faults one within another, and then an errorString. -/
def chainT : List (Nat × ByteArray × Int) → Addr → Tree
  | [], a => .leaf a
  | (b, op, pl) :: r, a => .fault b op pl (chainT r a)
theorem chain_hits (a : Addr) : ∀ bs : List (Nat × ByteArray × Int), (chainT bs a).hits 132 a = true
  | [] => by simp [chainT, Tree.hits]
  | (b, op, pl) :: r => by
    have ih := chain_hits a r
    simp only [chainT, Tree.hits, ih, Bool.or_true]
theorem chain_held (a : Addr) (bs : List (Nat × ByteArray × Int)) : (chainT bs a).isNil = false := by cases bs <;> rfl

/-- What an Err says of packages and places: two slices that read the list. -/
structure WantV (w : World) (po pa : Option Addr) (co ca : Nat) (L : List (ByteArray × Int)) : Prop where
  ops : L ≠ [] → ∃ b off, po = some ⟨b, off, none⟩ ∧ b < w.heap.size ∧ ∀ (j : Nat) (x : ByteArray × Int), L[j]? = some x → w.cell? ⟨b, off + j, none⟩ = some (.string x.1)
  ats : L ≠ [] → ∃ b off, pa = some ⟨b, off, none⟩ ∧ b < w.heap.size ∧ ∀ (j : Nat) (x : ByteArray × Int), L[j]? = some x → w.cell? ⟨b, off + j, none⟩ = some (.int .i64 x.2)
  leo : L.length ≤ co
  lea : L.length ≤ ca
  capo : co ≤ maxLen
  capa : ca ≤ maxLen
theorem WantV.below {w w' : World} {po pa : Option Addr} {co ca : Nat} {L : List (ByteArray × Int)} (hb : Below w.heap.size w w') (h : WantV w po pa co ca L) : WantV w' po pa co ca L :=
  ⟨fun hn => by
    obtain ⟨b, off, hp, hlt, hc⟩ := h.ops hn
    exact ⟨b, off, hp, Nat.lt_of_lt_of_le hlt hb.size, fun j x hx => (hb.cell (p := ⟨b, off + j, none⟩) hlt).trans (hc j x hx)⟩, fun hn => by
    obtain ⟨b, off, hp, hlt, hc⟩ := h.ats hn
    exact ⟨b, off, hp, Nat.lt_of_lt_of_le hlt hb.size, fun j x hx => (hb.cell (p := ⟨b, off + j, none⟩) hlt).trans (hc j x hx)⟩, h.leo, h.lea, h.capo, h.capa⟩

theorem cell_alloc_at (w : World) (cs : Array Value) (t : TypeId) (n j : Nat) (hn : w.heap.size = n) : (w.alloc (.cells cs t)).cell? ⟨n, j, none⟩ = cs[j]? := by
  subst hn
  exact cell_of_row _ _ _ cs t (0, 0) (heap_alloc_new w _)

def RawNewPost (w : World) (op : ByteArray) (pl n : Int) (e : Ending) (w' : World) : Prop :=
  ∃ po pa, e = .returned (.agg #[.int .i64 n, .slice po 1 1, .slice pa 1 1]) ∧ WantV w' po pa 1 1 [(op, pl)] ∧ Below w.heap.size w w'
theorem raw_new (op : ByteArray) (pl n : Int) (w : World) :
    Calls Tryd.prog 44 #[.string op, .int .i64 pl, .int .i64 n] w (RawNewPost w op pl n) := by
  go_enter Tryd.func44, Tryd.ntmps44
  go_wp2_with fail
  refine bodyPost_ret (v := .agg #[.int .i64 n, .slice (some ⟨w.heap.size + 1, 0, none⟩) 1 1, .slice (some ⟨w.heap.size + 1 + 1, 0, none⟩) 1 1]) (by simp [results, Tryd.results44, go_sem]) rfl ⟨_, _, rfl, ⟨fun _ => ⟨_, _, rfl, by simp, fun j x hx => ?_⟩, fun _ => ⟨_, _, rfl, by simp, fun j x hx => ?_⟩, Nat.le_refl _, Nat.le_refl _, by decide, by decide⟩, ?_⟩
  · match j, hx with
    | 0, hx =>
      simp at hx
      subst hx
      show World.cell? _ ⟨w.heap.size + 1, 0, none⟩ = _
      rw [World.cell?_alloc_lt _ _ ⟨w.heap.size + 1, 0, none⟩ (by simp), cell_alloc_at _ _ _ _ _ (by simp)]
      rfl
  · match j, hx with
    | 0, hx =>
      simp at hx
      subst hx
      show World.cell? _ ⟨w.heap.size + 1 + 1, 0, none⟩ = _
      rw [cell_alloc_at _ _ _ _ _ (by simp)]
      rfl
  · exact (((Below.refl _ _).alloc (Nat.le_refl _) _).alloc (by simp) _).alloc (by simp; omega) _

def TruePost (w : World) (e : Ending) (w' : World) : Prop := e = .returned (.bool true) ∧ Below w.heap.size w w'

theorem Is_none (po pa : Option Addr) (no na co ca : Nat) (w : World) :
    Calls Tryd.prog 19 #[.nilIface, .agg #[.int .i64 0, .slice po no co, .slice pa na ca]] w (TruePost w) := by
  go_enter Tryd.func19, Tryd.ntmps19
  go_wp2_with fail
  go_ret
  exact ⟨rfl, (Below.refl _ _).alloc (Nat.le_refl _) _⟩

theorem chain_lies_drop {w : World} (a : Addr) : ∀ (j : Nat) {bs : List (Nat × ByteArray × Int)}, (chainT bs a).lies w → j ≤ bs.length → (chainT (bs.drop j) a).lies w
  | 0, _, h, _ => h
  | j + 1, (b, op, pl) :: r, h, hj => by
    have h' : (Tree.fault b op pl (chainT r a)).lies w := h
    exact chain_lies_drop a j (bs := r) h'.2.1 (by simpa using hj)
  | j + 1, [], _, hj => by simp at hj

def ChainRel (w wb : World) (bs : List (Nat × ByteArray × Int)) (a : Addr) (gk : Nat) (v0 v5 : Value) (wr : World) : Prop :=
  ∃ j : Nat, j ≤ bs.length ∧ v0 = (chainT (bs.drop j) a).val ∧ v5 = .int .i64 (j : Int) ∧ Below wb.heap.size wb wr ∧ Below w.heap.size w wr ∧ bs.length - j ≤ gk

set_option maxRecDepth 100000 in
set_option maxHeartbeats 8000000 in
theorem Is_chain (bs : List (Nat × ByteArray × Int)) (k : Nat) (hk : 1 ≤ k ∧ k ≤ 11) (po pa : Option Addr) (n ko ka : Nat) (w : World) (A : Nat → Addr) (hr : Roots w A) (hT : TypeVar w) (hl : (chainT bs (A k)).lies w) (hw : WantV w po pa ko ka (bs.map Prod.snd)) (hn : n = bs.length) :
    Calls Tryd.prog 19 #[(chainT bs (A k)).val, .agg #[.int .i64 (k : Int), .slice po n ko, .slice pa n ka]] w (TruePost w) := by
  subst hn
  have hkn : known (k : Int) = k := by unfold known; rw [if_pos (by omega)]; rfl
  have hn1 := eql_isNil (chainT bs (A k))
  have hn2 := guard_isNil (chainT bs (A k))
  rw [chain_held] at hn1
  have hleo : bs.length ≤ ko := by have := hw.leo; rwa [List.length_map] at this
  have hlea : bs.length ≤ ka := by have := hw.lea; rwa [List.length_map] at this
  have hcapo := hw.capo
  have hcapa := hw.capa
  unfold maxLen at hcapo hcapa
  have hB1 : Below w.heap.size w (w.alloc (.cells #[.int .i64 (k : Int), .slice po bs.length ko, .slice pa bs.length ka] 34)) := (Below.refl _ _).alloc (Nat.le_refl _) _
  have hk0 : ((k : Int) == 0) = false := by rw [beq_eq_false_iff_ne]; omega
  have HH := Lib.hid (And.intro hr (And.intro hT (And.intro hl (And.intro hw hkn))))
  have HB1 := Lib.hid hB1
  clear hr hT hl hw hkn hB1
  go_enter Tryd.func19, Tryd.ntmps19
  go_wp2_with fail
  refine (Root_any (k : Int) _ A (HH.out.1.below HB1.out)).mono ?_
  rintro e w' ⟨rfl, rfl⟩
  rw [HH.out.2.2.2.2]
  go_wp2_with fail
  refine (errorsIs (chainT bs (A k)) _ 132 (A k) (Tree.lies_below HB1.out (t := chainT bs (A k)) HH.out.2.2.1) ((HH.out.1.below HB1.out).there k hk.2) (Or.inl rfl)).mono ?_
  rintro e w2 ⟨rfl, hb2⟩
  rw [chain_hits]
  obtain ⟨wb, hwb⟩ : ∃ wb, w.alloc (.cells #[.int .i64 (k : Int), .slice po bs.length ko, .slice pa bs.length ka] 34) = wb := ⟨_, rfl⟩
  have hbs : wb.heap.size = w.heap.size + 1 := by rw [← hwb]; simp
  have hc0 : wb.cell? ⟨w.heap.size, 0, none⟩ = some (.int .i64 (k : Int)) := by rw [← hwb]; simp
  have hc1 : wb.cell? ⟨w.heap.size, 1, none⟩ = some (.slice po bs.length ko) := by rw [← hwb]; simp
  have hc2 : wb.cell? ⟨w.heap.size, 2, none⟩ = some (.slice pa bs.length ka) := by rw [← hwb]; simp
  have HC := Lib.hid (And.intro hc0 (And.intro hc1 (And.intro hc2 hbs)))
  rw [hwb] at HB1 hb2
  have HW2 := Lib.hid (And.intro hb2 (HB1.out.trans (hb2.mono (by rw [hbs]; omega))))
  clear hc0 hc1 hc2 hbs hwb hb2 hn1 hn2
  go_wp2_with fail
  go_loopg [0, 5] bs.length (fun gk v0 v5 wr => ChainRel w wb bs (A k) gk v0 v5 wr)
  case atStart => exact ⟨0, Nat.zero_le _, rfl, rfl, HW2.out.1, HW2.out.2, by omega⟩
  case round =>
    obtain ⟨j, hj, rfl, rfl, hbb, hbw, hgk⟩ := hrel
    have hgB : w.heap.size < wr.heap.size := by have := hbb.size; have := HC.out.2.2.2; omega
    have hgb1 : w.heap.size < wb.heap.size := by have := HC.out.2.2.2; omega
    have hr1 : wr.cell? ⟨w.heap.size, 1, none⟩ = some (.slice po bs.length ko) := (hbb.cell (p := ⟨w.heap.size, 1, none⟩) hgb1).trans HC.out.2.1
    have HBB := Lib.hid (And.intro hbb hbw)
    by_cases hlt : j < bs.length
    · obtain ⟨x, hx⟩ : ∃ x, bs[j]? = some x := ⟨_, List.getElem?_eq_getElem hlt⟩
      obtain ⟨b, op, pl⟩ := x
      have hdr : bs.drop j = (b, op, pl) :: bs.drop (j + 1) := by
        obtain ⟨h1, h2⟩ := List.getElem?_eq_some_iff.1 hx
        rw [List.drop_eq_getElem_cons h1, h2]
      have hlj := chain_lies_drop (A k) j (Tree.lies_below hbw (t := chainT bs (A k)) HH.out.2.2.1) (Nat.le_of_lt hlt)
      rw [hdr] at hlj ⊢
      have hlj : (Tree.fault b op pl (chainT (bs.drop (j + 1)) (A k))).lies wr := hlj
      have hv : (chainT ((b, op, pl) :: bs.drop (j + 1)) (A k)).val = .iface 61 (.pointer (some ⟨b, 0, none⟩)) := rfl
      rw [hv]
      obtain ⟨rest, hrest⟩ : ∃ rest, chainT (bs.drop (j + 1)) (A k) = rest := ⟨_, rfl⟩
      rw [hrest] at hlj
      have hbl : b < wr.heap.size := heap_lt hlj.1
      have c0 : wr.cell? ⟨b, 0, none⟩ = some (.string op) := by simp [World.cell?, hlj.1]
      have c1 : wr.cell? ⟨b, 1, none⟩ = some (.int .i64 pl) := by simp [World.cell?, hlj.1]
      have c2 : wr.cell? ⟨b, 2, none⟩ = some rest.val := by simp [World.cell?, hlj.1]
      have hmx : (bs.map Prod.snd)[j]? = some (op, pl) := by rw [List.getElem?_map, hx]; rfl
      have hne : bs.map Prod.snd ≠ [] := by intro e; rw [e] at hmx; simp at hmx
      have hWr := HH.out.2.2.2.1.below hbw
      obtain ⟨bo, oo, rfl, hbo, hco⟩ := hWr.ops hne
      obtain ⟨ba, oa, rfl, hba, hca⟩ := hWr.ats hne
      have co := hco j _ hmx
      have ca := hca j _ hmx
      have hr2 : wr.cell? ⟨w.heap.size, 2, none⟩ = some (.slice (some ⟨ba, oa, none⟩) bs.length ka) := (hbb.cell (p := ⟨w.heap.size, 2, none⟩) hgb1).trans HC.out.2.2.1
      have HF := Lib.hid (And.intro c0 (And.intro c1 (And.intro c2 (And.intro hlj hrest))))
      have HG := Lib.hid (And.intro hr1 (And.intro hr2 (And.intro co ca)))
      have HTr := Lib.hid (HH.out.2.1.below hbw)
      clear hx hdr hv hrest c0 c1 c2 hmx hne hWr hco hca hr2 co ca hlj hbb hbw
      go_upto_region 9 with fail
      go_cut [60] (fun v wx => v = .bool false ∧ Below wr.heap.size wr wx ∧ wx.cell? ⟨wr.heap.size, 0, none⟩ = some (.pointer (some ⟨b, 0, none⟩)))
      case first =>
        have hd : Below wr.heap.size wr (wr.alloc (.cells #[.pointer none] 61)).drew := ((Below.refl _ _).alloc (Nat.le_refl _) _).drew
        have hdl := Tree.lies_below hd (t := .fault b op pl rest) HF.out.2.2.2.1
        have hsl : Slot (wr.alloc (.cells #[.pointer none] 61)).drew wr.heap.size := ⟨by simp, ⟨.pointer none, by simp⟩, by simp⟩
        have HD := Lib.hid (And.intro hdl hsl)
        clear hdl hsl hr1
        go_region_with (first
          | (go_at_call 41; refine (errorsAs_hit (.fault b op pl rest) b _ wr.heap.size rfl ?_ ?_ ?_).mono ?_; exact HD.out.1; exact HD.out.2; exact HTr.out.below hd; rintro e w' ⟨rfl, hbx, k3⟩; have hb' := hd.trans hbx; have k0 := (hb'.cell (p := ⟨b, 0, none⟩) hbl).trans HF.out.1; have k1 := (hb'.cell (p := ⟨b, 1, none⟩) hbl).trans HF.out.2.1; have m1 := (hb'.cell (p := ⟨w.heap.size, 1, none⟩) hgB).trans HG.out.1; have m2 := (hb'.cell (p := ⟨w.heap.size, 2, none⟩) hgB).trans HG.out.2.1; have m3 := (hb'.cell (p := ⟨bo, oo + j, none⟩) hbo).trans HG.out.2.2.1; have m4 := (hb'.cell (p := ⟨ba, oa + j, none⟩) hba).trans HG.out.2.2.2))
        all_goals (go_wp2_with fail; go_meet; exact ⟨rfl, by assumption, by assumption⟩)
      case rest =>
        obtain ⟨rfl, hbx, k3⟩ := hcut
        have k2 := (hbx.cell (p := ⟨b, 2, none⟩) hbl).trans HF.out.2.2.1
        have HX := Lib.hid hbx
        clear hbx hr1
        go_wp2_with fail
        go_roundg (bs.length - (j + 1))
        case rel => exact ⟨j + 1, by omega, by rw [HF.out.2.2.2.2], by go_num, HBB.out.1.trans (HX.out.mono HBB.out.1.size), HBB.out.2.trans (HX.out.mono HBB.out.2.size), Nat.le_refl _⟩
        case measure => omega
    · obtain rfl : j = bs.length := by omega
      have hd : (chainT (bs.drop bs.length) (A k)).val = .iface 132 (.pointer (some (A k))) := by rw [List.drop_length]; rfl
      rw [hd]
      have hr0 : wr.cell? ⟨w.heap.size, 0, none⟩ = some (.int .i64 (k : Int)) := (hbb.cell (p := ⟨w.heap.size, 0, none⟩) hgb1).trans HC.out.1
      have hA := eql_hit wr 132 (A k) (Or.inl rfl)
      clear hd hbb hbw
      go_wp2_with fail
      refine (Root_any (k : Int) _ A (HH.out.1.below HBB.out.2)).mono ?_
      rintro e w' ⟨rfl, rfl⟩
      rw [HH.out.2.2.2.2]
      go_wp2_with fail
      go_ret
      exact ⟨rfl, HBB.out.2⟩
end Go.Proofs.YtgdjnohhofbcnaaDoor
end
section
namespace Go.Proofs.YtgdjnohhofbcnaaDoor
open Go.RowKit Go.Extern.Stop Go.Stop Go.Extern

/-- block b begins a chain: these packages and places, one within another, and then the error of the number -/
def Chn (w : World) (A : Nat → Addr) (b : Nat) (L : List (ByteArray × Int)) (m : Nat) : Prop :=
  ∃ (op : ByteArray) (pl : Int) (bs : List (Nat × ByteArray × Int)), (op, pl) :: bs.map Prod.snd = L ∧ (chainT ((b, op, pl) :: bs) (A m)).lies w
theorem Chn.next {w w' : World} {A : Nat → Addr} {b : Nat} {L : List (ByteArray × Int)} {m : Nat} (hb : Below w.heap.size w w') (h : Chn w A b L m) : Chn w' A b L m := by
  obtain ⟨op, pl, bs, h1, h2⟩ := h
  exact ⟨op, pl, bs, h1, Tree.lies_below hb h2⟩
theorem Chn.one {w : World} {A : Nat → Addr} {b : Nat} {op : ByteArray} {pl : Int} {m : Nat} (h : (Tree.fault b op pl (.leaf (A m))).lies w) : Chn w A b [(op, pl)] m := ⟨op, pl, [], rfl, h⟩
/-- an error, alone -/
def FErr1 (w : World) (A : Nat → Addr) (L : List (ByteArray × Int)) (m : Nat) (e : Ending) (w' : World) : Prop :=
  ∃ b, e = .returned (.iface 61 (.pointer (some ⟨b, 0, none⟩))) ∧ Chn w' A b L m ∧ Below w.heap.size w w'
/-- an error behind a first result -/
def FErr2 (w : World) (A : Nat → Addr) (L : List (ByteArray × Int)) (m : Nat) (u : Value) (e : Ending) (w' : World) : Prop :=
  ∃ b, e = .returned (.tuple #[u, .iface 61 (.pointer (some ⟨b, 0, none⟩))]) ∧ Chn w' A b L m ∧ Below w.heap.size w w'
theorem Err1.chn {w : World} {A : Nat → Addr} {op : ByteArray} {pl : Int} {m : Nat} {e : Ending} {w' : World} (h : Err1 w A op pl m e w') : FErr1 w A [(op, pl)] m e w' := by
  obtain ⟨b, he, hl, hb⟩ := h
  exact ⟨b, he, Chn.one hl, hb⟩
theorem Err2.chn {w : World} {A : Nat → Addr} {op : ByteArray} {pl : Int} {m : Nat} {u : Value} {e : Ending} {w' : World} (h : Err2 w A op pl m u e w') : FErr2 w A [(op, pl)] m u e w' := by
  obtain ⟨b, he, hl, hb⟩ := h
  exact ⟨b, he, Chn.one hl, hb⟩
theorem under_chn (op : ByteArray) (pl : Int) (b : Nat) (L : List (ByteArray × Int)) (m : Nat) (w : World) (A : Nat → Addr) (h : Chn w A b L m) :
    Calls Tryd.prog 52 #[.string op, .int .i64 pl, .iface 61 (.pointer (some ⟨b, 0, none⟩))] w (FErr1 w A ((op, pl) :: L) m) := by
  obtain ⟨op', pl', bs, rfl, hl⟩ := h
  exact (under_any op pl (chainT ((b, op', pl') :: bs) (A m)) w hl rfl).mono fun e w' ⟨he, hb, _, hl'⟩ => ⟨w.heap.size, he, ⟨op, pl, (b, op', pl') :: bs, rfl, hl'⟩, hb⟩
theorem under_none (op : ByteArray) (pl : Int) (w : World) :
    Calls Tryd.prog 52 #[.string op, .int .i64 pl, .nilIface] w (Tells .nilIface w) := Tells.of_same (under_nil op pl w)
/-- the document's: its number, and its two slices of one length -/
def WChn (w : World) (x : Option (List (ByteArray × Int) × Nat)) (a : Int) (po pa : Option Addr) (n : Nat) : Prop := match x with
  | none => a = 0 ∧ po = none ∧ pa = none ∧ n = 0
  | some (L, m) => a = m ∧ n = L.length ∧ WantV w po pa n n L
theorem WChn.next {w w' : World} {x : Option (List (ByteArray × Int) × Nat)} {a : Int} {po pa : Option Addr} {n : Nat} (hb : Below w.heap.size w w') (h : WChn w x a po pa n) : WChn w' x a po pa n := by
  cases x with
  | none => exact h
  | some y => exact ⟨h.1, h.2.1, h.2.2.below hb⟩
/-- the program's: nil, or a chain -/
def PChn (w : World) (A : Nat → Addr) (x : Option (List (ByteArray × Int) × Nat)) (v : Value) : Prop := match x with
  | none => v = .nilIface
  | some (L, m) => ∃ b, v = .iface 61 (.pointer (some ⟨b, 0, none⟩)) ∧ Chn w A b L m
theorem PChn.next {w w' : World} {A : Nat → Addr} {x : Option (List (ByteArray × Int) × Nat)} {v : Value} (hb : Below w.heap.size w w') (h : PChn w A x v) : PChn w' A x v := by
  cases x with
  | none => exact h
  | some y =>
    obtain ⟨b, h1, h2⟩ := h
    exact ⟨b, h1, h2.next hb⟩
theorem is_chn {w : World} {A : Nat → Addr} {x : Option (List (ByteArray × Int) × Nat)} {v : Value} {a : Int} {po pa : Option Addr} {n : Nat} (hr : Roots w A) (hT : TypeVar w) (hx : ∀ y, x = some y → 1 ≤ y.2 ∧ y.2 ≤ 11) (h : PChn w A x v) (h' : WChn w x a po pa n) :
    Calls Tryd.prog 19 #[v, .agg #[.int .i64 a, .slice po n n, .slice pa n n]] w (Tells (.bool true) w) := by
  cases x with
  | none =>
    obtain ⟨rfl, rfl, rfl, rfl⟩ := h'
    obtain rfl : v = .nilIface := h
    exact Is_none none none 0 0 0 0 w
  | some y =>
    obtain ⟨rfl, hn, hw⟩ := h'
    obtain ⟨b, rfl, op, pl, bs, hL, hl⟩ := h
    have hL2 : List.map Prod.snd ((b, op, pl) :: bs) = y.1 := hL
    exact Is_chain ((b, op, pl) :: bs) y.2 (hx y rfl) po pa n n n w A hr hT hl (by rw [hL2]; exact hw) (by rw [hn, ← hL2, List.length_map])
end Go.Proofs.YtgdjnohhofbcnaaDoor
end
section
/- Plain mathematics of words: turns, their order, periods. -/
namespace Go.Proofs.YtgdjnohhofbcnaaDoor.WordM

/-- the symbol at a place, counted around -/
def F (w : List Int) (i : Nat) : Int := w.getD (i % w.length) 0
/-- turned by t -/
def rot (w : List Int) (t : Nat) : List Int := (List.range w.length).map fun i => F w (i + t)
theorem rot_length (w : List Int) (t : Nat) : (rot w t).length = w.length := by simp [rot]
theorem F_add (w : List Int) (i : Nat) : F w (i + w.length) = F w i := by unfold F; rw [Nat.add_mod_right]
theorem F_mod (w : List Int) (i : Nat) : F w (i % w.length) = F w i := by unfold F; rw [Nat.mod_mod]
theorem F_get {w : List Int} {i : Nat} (h : i < w.length) : w[i]? = some (F w i) := by
  unfold F
  rw [Nat.mod_eq_of_lt h, List.getD_eq_getElem?_getD, List.getElem?_eq_getElem h]; rfl
theorem rot_get {w : List Int} {t i : Nat} (h : i < w.length) : (rot w t)[i]? = some (F w (i + t)) := by
  unfold rot
  rw [List.getElem?_map, List.getElem?_range h]; rfl
theorem F_rot (w : List Int) (t i : Nat) : F (rot w t) i = F w (i + t) := by
  rcases Nat.eq_zero_or_pos w.length with h | h
  · have h1 := List.eq_nil_of_length_eq_zero h
    subst h1; rfl
  · have h1 : i % w.length < w.length := Nat.mod_lt _ h
    have h2 := rot_get (t := t) h1
    unfold F
    rw [rot_length, List.getD_eq_getElem?_getD, h2]
    show F w (i % w.length + t) = w.getD ((i + t) % w.length) 0
    unfold F
    rw [Nat.mod_add_mod]
theorem ext_F {a b : List Int} (h : a.length = b.length) (hf : ∀ i, i < a.length → F a i = F b i) : a = b := by
  apply List.ext_getElem? ; intro i
  by_cases hi : i < a.length
  · rw [F_get hi, F_get (by omega), hf i hi]
  · rw [List.getElem?_eq_none (by omega), List.getElem?_eq_none (by omega)]
theorem rot_rot (w : List Int) (s t : Nat) : rot (rot w s) t = rot w (s + t) := by
  apply ext_F (by simp [rot_length])
  intro i _
  rw [F_rot, F_rot, F_rot]; congr 1; omega
theorem rot_zero (w : List Int) : rot w 0 = w := by
  apply ext_F (by simp [rot_length])
  intro i _
  rw [F_rot, Nat.add_zero]
theorem rot_mod (w : List Int) (t : Nat) : rot w (t % w.length) = rot w t := by
  apply ext_F (by simp [rot_length])
  intro i _
  rw [F_rot, F_rot]
  unfold F
  rw [Nat.add_mod_mod]
theorem rot_len (w : List Int) : rot w w.length = w := by
  rw [← rot_mod, Nat.mod_self, rot_zero]
theorem rot_drop {w : List Int} {t : Nat} (h : t ≤ w.length) : w.drop t ++ w.take t = rot w t := by
  apply ext_F
  · simp [rot_length]; omega
  intro i hi
  have hl : (w.drop t ++ w.take t).length = w.length := by simp; omega
  rw [hl] at hi
  rw [F_rot]
  have h1 := F_get (w := w.drop t ++ w.take t) (i := i) (by omega)
  apply Option.some.inj
  rw [← h1]
  by_cases hd : i < w.length - t
  · rw [List.getElem?_append_left (by simp; omega), List.getElem?_drop, F_get (by omega)]
    congr 2; omega
  · rw [List.getElem?_append_right (by simp; omega), List.getElem?_take, if_pos (by simp; omega), List.length_drop, F_get (by omega)]
    congr 1
    have := F_add w (i - (w.length - t))
    rw [← this]
    congr 1; omega

/-! ### the order of words of one length -/
def lexC : List Int → List Int → Int
  | x :: a, y :: b => if x < y then -1 else if y < x then 1 else lexC a b
  | _, _ => 0
theorem lexC_self (a : List Int) : lexC a a = 0 := by
  induction a with
  | nil => rfl
  | cons x a ih => unfold lexC; rw [if_neg (by omega), if_neg (by omega), ih]
theorem lexC_swap : ∀ (a b : List Int), lexC b a = -lexC a b
  | [], [] => rfl
  | [], _ :: _ => rfl
  | _ :: _, [] => rfl
  | x :: a, y :: b => by
    unfold lexC
    rcases (by omega : x < y ∨ y < x ∨ x = y) with h | h | h
    · rw [if_neg (by omega), if_pos h, if_pos h]; rfl
    · rw [if_pos h, if_neg (by omega), if_pos h]
    · rw [if_neg (by omega), if_neg (by omega), if_neg (by omega), if_neg (by omega), lexC_swap a b]
theorem lexC_cases : ∀ (a b : List Int), lexC a b = -1 ∨ lexC a b = 0 ∨ lexC a b = 1
  | [], _ => Or.inr (Or.inl (by unfold lexC; rfl))
  | _ :: _, [] => Or.inr (Or.inl rfl)
  | x :: a, y :: b => by
    unfold lexC
    split
    · exact Or.inl rfl
    · split
      · exact Or.inr (Or.inr rfl)
      · exact lexC_cases a b
theorem lexC_eq : ∀ {a b : List Int}, a.length = b.length → lexC a b = 0 → a = b
  | [], [], _, _ => rfl
  | [], _ :: _, h, _ => by simp at h
  | _ :: _, [], h, _ => by simp at h
  | x :: a, y :: b, h, h0 => by
    unfold lexC at h0
    split at h0
    · cases h0
    · split at h0
      · cases h0
      · rw [lexC_eq (by simpa using h) h0, show x = y by omega]
theorem lexC_trans : ∀ {a b c : List Int}, a.length = b.length → b.length = c.length → lexC a b ≤ 0 → lexC b c ≤ 0 → lexC a c ≤ 0
  | [], b, c, _, _, _, _ => by unfold lexC; exact Int.le_refl 0
  | x :: a, [], c, h, _, _, _ => by simp at h
  | x :: a, y :: b, [], _, h, _, _ => by simp at h
  | x :: a, y :: b, z :: c, h1, h2, ha, hb => by
    unfold lexC at ha hb ⊢
    rcases (by omega : x < y ∨ y < x ∨ x = y) with h | h | h
    · rcases (by omega : y < z ∨ z < y ∨ y = z) with k | k | k
      · rw [if_pos (by omega)]; omega
      · rw [if_neg (by omega), if_pos k] at hb; omega
      · rw [if_pos (by omega)]; omega
    · rw [if_neg (by omega), if_pos h] at ha; omega
    · rcases (by omega : y < z ∨ z < y ∨ y = z) with k | k | k
      · rw [if_pos (by omega)]; omega
      · rw [if_neg (by omega), if_pos k] at hb; omega
      · rw [if_neg (by omega), if_neg (by omega)] at ha hb
        rw [if_neg (by omega), if_neg (by omega)]
        exact lexC_trans (by simpa using h1) (by simpa using h2) ha hb
/-- less, by the first place where they differ -/
theorem lexC_lt : ∀ {a b : List Int} (k : Nat), a.length = b.length → (∀ i, i < k → a[i]? = b[i]?) → (∃ x y, a[k]? = some x ∧ b[k]? = some y ∧ x < y) → lexC a b = -1
  | [], _, k, _, _, ⟨x, y, h, _⟩ => by simp at h
  | _ :: _, [], k, h, _, _ => by simp at h
  | x :: a, y :: b, 0, h, _, ⟨x', y', h1, h2, hlt⟩ => by
    simp at h1 h2; subst h1 h2
    unfold lexC; rw [if_pos hlt]
  | x :: a, y :: b, k + 1, h, he, ⟨x', y', h1, h2, hlt⟩ => by
    have h0 := he 0 (by omega)
    simp at h0; subst h0
    unfold lexC; rw [if_neg (by omega), if_neg (by omega)]
    exact lexC_lt k (by simpa using h) (fun i hi => by simpa using he (i + 1) (by omega)) ⟨x', y', by simpa using h1, by simpa using h2, hlt⟩
theorem lexC_gt {a b : List Int} (k : Nat) (h : a.length = b.length) (he : ∀ i, i < k → a[i]? = b[i]?) (hx : ∃ x y, a[k]? = some x ∧ b[k]? = some y ∧ y < x) : lexC a b = 1 := by
  obtain ⟨x, y, h1, h2, hlt⟩ := hx
  have := lexC_lt (a := b) (b := a) k h.symm (fun i hi => (he i hi).symm) ⟨y, x, h2, h1, hlt⟩
  rw [lexC_swap a b] at this
  omega
/-- the order of words -/
def cmpW (a b : List Int) : Int := if a.length < b.length then -1 else if b.length < a.length then 1 else lexC a b
theorem cmpW_len {a b : List Int} (h : a.length = b.length) : cmpW a b = lexC a b := by unfold cmpW; rw [if_neg (by omega), if_neg (by omega)]
theorem cmpW_swap (a b : List Int) : cmpW b a = -cmpW a b := by
  unfold cmpW
  rcases Nat.lt_trichotomy a.length b.length with h | h | h
  · rw [if_neg (by omega), if_pos h, if_pos h]; rfl
  · rw [if_neg (by omega), if_neg (by omega), if_neg (by omega), if_neg (by omega), lexC_swap]
  · rw [if_pos h, if_neg (by omega), if_pos h]

/-! ### periods -/
/-- turned by p it is itself -/
def Per (w : List Int) (p : Nat) : Prop := ∀ i, F w (i + p) = F w i
theorem per_len (w : List Int) : Per w w.length := F_add w
theorem per_zero (w : List Int) : Per w 0 := fun _ => rfl
theorem per_rot {w : List Int} {p : Nat} (h : Per w p) : rot w p = w := ext_F (by simp [rot_length]) fun i _ => by rw [F_rot, h]
theorem per_of_rot {w : List Int} {p : Nat} (h : rot w p = w) : Per w p := fun i => by rw [← F_rot, h]
theorem per_add {w : List Int} {p q : Nat} (h : Per w p) (k : Per w q) : Per w (p + q) := fun i => by rw [← Nat.add_assoc, k, h]
theorem per_sub {w : List Int} {p q : Nat} (h : Per w p) (k : Per w q) (hle : p ≤ q) : Per w (q - p) := fun i => by
  rw [← h (i + (q - p)), Nat.add_assoc, show q - p + p = q by omega, k]
theorem per_gcd {w : List Int} : ∀ (n p q : Nat), p + q ≤ n → Per w p → Per w q → Per w (Nat.gcd p q)
  | 0, p, q, h, hp, hq => by
    obtain rfl : p = 0 := by omega
    obtain rfl : q = 0 := by omega
    exact per_zero w
  | n + 1, p, q, h, hp, hq => by
    rcases Nat.eq_zero_or_pos p with rfl | p0
    · rw [Nat.gcd_zero_left]; exact hq
    rcases Nat.eq_zero_or_pos q with rfl | q0
    · rw [Nat.gcd_zero_right]; exact hp
    rcases Nat.le_total p q with hle | hle
    · have := per_gcd n p (q - p) (by omega) hp (per_sub hp hq hle)
      rwa [Nat.gcd_sub_self_right hle] at this
    · have := per_gcd n (p - q) q (by omega) (per_sub hq hp hle) hq
      rwa [Nat.gcd_sub_self_left hle] at this
/-- the least divisor of the length by which a turn changes nothing -/
def IsPer (w : List Int) (p : Nat) : Prop := 1 ≤ p ∧ p ∣ w.length ∧ Per w p ∧ ∀ q, 1 ≤ q → q < p → ¬ (q ∣ w.length ∧ Per w q)
theorem isPer_unique {w : List Int} {p q : Nat} (h : IsPer w p) (k : IsPer w q) : p = q := by
  obtain ⟨h1, h2, h3, h4⟩ := h
  obtain ⟨k1, k2, k3, k4⟩ := k
  rcases Nat.lt_trichotomy p q with c | c | c
  · exact absurd ⟨h2, h3⟩ (k4 p h1 c)
  · exact c
  · exact absurd ⟨k2, k3⟩ (h4 q k1 c)
theorem isPer_least {w : List Int} {p q : Nat} (h : IsPer w p) (hq0 : 1 ≤ q) (hq : Per w q) : p ≤ q := by
  have hg : Per w (Nat.gcd w.length q) := per_gcd _ _ _ (Nat.le_refl _) (per_len w) hq
  have hg0 : 1 ≤ Nat.gcd w.length q := Nat.gcd_pos_of_pos_right _ hq0
  have hle : Nat.gcd w.length q ≤ q := Nat.le_of_dvd hq0 (Nat.gcd_dvd_right _ _)
  rcases Nat.lt_or_ge (Nat.gcd w.length q) p with c | c
  · exact absurd ⟨Nat.gcd_dvd_left _ _, hg⟩ (h.2.2.2 _ hg0 c)
  · omega
/-- the period of a turned word -/
theorem isPer_rot {w : List Int} {p : Nat} (h : IsPer w p) (t : Nat) : IsPer (rot w t) p := by
  have e : ∀ q, Per (rot w t) q ↔ Per w q := fun q => by
    constructor
    · intro k
      have hk : ∀ i, F w (i + t + q) = F w (i + t) := fun i => by
        have := k i
        rw [F_rot, F_rot] at this
        rw [← this]; congr 1; omega
      intro i
      rcases Nat.eq_zero_or_pos w.length with h0 | h0
      · have h1 := List.eq_nil_of_length_eq_zero h0
        subst h1; rfl
      · -- i = (i + t * (len - 1)) + t up to t * len
        have h1 := hk (i + t * (w.length - 1))
        have e1 : i + t * (w.length - 1) + t = i + t * w.length := by
          obtain ⟨m, hm⟩ : ∃ m, w.length = m + 1 := ⟨w.length - 1, by omega⟩
          rw [hm, Nat.add_sub_cancel, Nat.mul_succ]; omega
        rw [e1] at h1
        unfold F at h1 ⊢
        rw [show i + t * w.length + q = i + q + t * w.length by omega, Nat.add_mul_mod_self_right, Nat.add_mul_mod_self_right] at h1
        exact h1
    · intro k i
      rw [F_rot, F_rot, show i + q + t = i + t + q by omega, k]
  obtain ⟨h1, h2, h3, h4⟩ := h
  refine ⟨h1, by rw [rot_length]; exact h2, (e p).2 h3, fun q hq hlt => ?_⟩
  rw [rot_length, e]
  exact h4 q hq hlt
/-- where the piece behind p is the piece ahead of the last p, for a divisor p -/
theorem per_piece {w : List Int} {p : Nat} (hd : p ∣ w.length) (h : ∀ i, i + p < w.length → w[i + p]? = w[i]?) : Per w p := by
  rcases Nat.eq_zero_or_pos w.length with h0 | h0
  · have h1 := List.eq_nil_of_length_eq_zero h0
    subst h1; intro i; rfl
  have hp0 : 0 < p := by
    rcases Nat.eq_zero_or_pos p with rfl | k
    · have := Nat.eq_zero_of_zero_dvd hd; omega
    · exact k
  have hm : ∀ n i, i < n → i < w.length → F w i = F w (i % p) := by
    intro n
    induction n with
    | zero => intro i h; omega
    | succ n ih =>
      intro i hi hil
      rcases Nat.lt_or_ge i p with k | k
      · rw [Nat.mod_eq_of_lt k]
      · have h1 := h (i - p) (by omega)
        rw [show i - p + p = i by omega, F_get hil, F_get (by omega)] at h1
        rw [Option.some.inj h1, ih (i - p) (by omega) (by omega)]
        congr 1
        rw [Nat.mod_eq_sub_mod k]
  intro i
  rw [← F_mod w (i + p), ← F_mod w i, hm _ _ (Nat.lt_succ_self _) (Nat.mod_lt _ h0), hm _ _ (Nat.lt_succ_self _) (Nat.mod_lt _ h0), Nat.mod_mod_of_dvd _ hd, Nat.mod_mod_of_dvd _ hd, Nat.add_mod_right]
theorem piece_per {w : List Int} {p : Nat} (h : Per w p) (i : Nat) (hi : i + p < w.length) : w[i + p]? = w[i]? := by
  rw [F_get hi, F_get (by omega), h]
end Go.Proofs.YtgdjnohhofbcnaaDoor.WordM
end
section
namespace Go.Proofs.YtgdjnohhofbcnaaDoor.WordM
/-! ### the least turn -/
/-- turned by l it is behind no other turn, and ahead of those by less -/
def IsLeast (w : List Int) (l : Nat) : Prop := l < w.length ∧ ∀ s, s < w.length → lexC (rot w l) (rot w s) ≤ 0 ∧ (s < l → lexC (rot w l) (rot w s) = -1)
theorem rot_same (w : List Int) (s t : Nat) : (rot w s).length = (rot w t).length := by rw [rot_length, rot_length]
theorem isLeast_unique {w : List Int} {l m : Nat} (h : IsLeast w l) (k : IsLeast w m) : l = m := by
  have swap := lexC_swap (rot w l) (rot w m)
  rcases Nat.lt_trichotomy l m with c | c | c
  · have h1 := (h.2 m k.1).1
    have h2 := (k.2 l h.1).2 c
    rw [swap] at h2
    -- lexC l m = 1 but <= 0
    omega
  · exact c
  · have h1 := (k.2 l h.1).1
    have h2 := (h.2 m k.1).2 c
    omega
/-- the reference's way: the best so far -/
def BestTo (w : List Int) (n b : Nat) : Prop := b < n ∧ ∀ s, s < n → lexC (rot w b) (rot w s) ≤ 0 ∧ (s < b → lexC (rot w b) (rot w s) = -1)
theorem best_one (w : List Int) : BestTo w 1 0 := ⟨by omega, fun s hs => ⟨by rw [show s = 0 by omega, lexC_self]; omega, fun h => by omega⟩⟩
theorem best_keep {w : List Int} {n b : Nat} (h : BestTo w n b) (hc : 0 ≤ lexC (rot w n) (rot w b)) : BestTo w (n + 1) b := by
  refine ⟨by have := h.1; omega, fun s hs => ?_⟩
  rcases (by omega : s < n ∨ s = n) with k | rfl
  · exact h.2 s k
  · rw [lexC_swap (rot w s) (rot w b)]
    exact ⟨by omega, fun k => by have := h.1; omega⟩
theorem best_turn {w : List Int} {n b : Nat} (h : BestTo w n b) (hc : lexC (rot w n) (rot w b) < 0) : BestTo w (n + 1) n := by
  have hm : ∀ s, s < n → lexC (rot w n) (rot w s) = -1 := fun s hs => by
    have h1 := (h.2 s hs).1
    have h2 : lexC (rot w n) (rot w s) ≤ 0 := lexC_trans (rot_same w n b) (rot_same w b s) (by omega) h1
    rcases lexC_cases (rot w n) (rot w s) with k | k | k
    · exact k
    · have e := lexC_eq (rot_same w n s) k
      rw [← e, lexC_swap (rot w n) (rot w b)] at h1
      omega
    · omega
  refine ⟨by omega, fun s hs => ?_⟩
  rcases (by omega : s < n ∨ s = n) with k | rfl
  · exact ⟨by rw [hm s k]; omega, fun _ => hm s k⟩
  · exact ⟨by rw [lexC_self]; omega, fun k => by omega⟩
theorem best_all {w : List Int} {b : Nat} (h : BestTo w w.length b) : IsLeast w b := h
theorem least_exists {w : List Int} (h : 0 < w.length) : ∃ l, IsLeast w l := by
  have : ∀ n, 1 ≤ n → ∃ b, BestTo w n b := by
    intro n
    induction n with
    | zero => intro h; omega
    | succ n ih =>
      intro _
      rcases Nat.eq_zero_or_pos n with rfl | k
      · exact ⟨0, best_one w⟩
      · obtain ⟨b, hb⟩ := ih k
        rcases Int.lt_or_le (lexC (rot w n) (rot w b)) 0 with c | c
        · exact ⟨n, best_turn hb c⟩
        · exact ⟨b, best_keep hb c⟩
  exact this _ h
/-- ruled out: another turn is ahead of it -/
def Out (w : List Int) (s : Nat) : Prop := ∃ t, t < w.length ∧ lexC (rot w t) (rot w s) = -1
theorem out_not {w : List Int} {l : Nat} (h : IsLeast w l) (k : Out w l) : False := by
  obtain ⟨t, ht, e⟩ := k
  have h1 := (h.2 t ht).1
  rw [lexC_swap (rot w t) (rot w l), e] at h1
  omega
/-- the two turns by s + d and t + d, where those by s and t are alike up to k and then part -/
theorem less_shift {w : List Int} {s t k d : Nat} (h0 : 0 < w.length) (hk : k < w.length) (hd : d ≤ k) (he : ∀ i, i < k → F w (s + i) = F w (t + i)) (hlt : F w (s + k) < F w (t + k)) : Out w (t + d) := by
  refine ⟨(s + d) % w.length, Nat.mod_lt _ h0, ?_⟩
  rw [rot_mod]
  refine lexC_lt (k - d) (rot_same w _ _) (fun i hi => ?_) ⟨F w (s + k), F w (t + k), ?_, ?_, hlt⟩
  · rw [rot_get (by omega), rot_get (by omega)]
    have := he (i + d) (by omega)
    rw [show i + (s + d) = s + (i + d) by omega, show i + (t + d) = t + (i + d) by omega, this]
  · rw [rot_get (by omega)]; congr 2; omega
  · rw [rot_get (by omega)]; congr 2; omega
/-- the search's state: all below rival but best are ruled out; same symbols were alike -/
structure Duel (w : List Int) (best rival same : Nat) : Prop where
  lt : best < rival
  out : ∀ s, s < rival → s < w.length → s ≠ best → Out w s
  like : ∀ i, i < same → F w (best + i) = F w (rival + i)
theorem duel_start (w : List Int) : Duel w 0 1 0 := ⟨by omega, fun s h _ k => by omega, fun i h => by omega⟩
theorem duel_same {w : List Int} {best rival same : Nat} (h : Duel w best rival same) (he : F w (best + same) = F w (rival + same)) : Duel w best rival (same + 1) :=
  ⟨h.lt, h.out, fun i hi => by
    rcases (by omega : i < same ∨ i = same) with k | rfl
    · exact h.like i k
    · exact he⟩
theorem duel_less {w : List Int} {best rival same : Nat} (h : Duel w best rival same) (hs : same < w.length) (hlt : F w (best + same) < F w (rival + same)) : Duel w best (rival + same + 1) 0 :=
  ⟨by have := h.lt; omega, fun s hs1 hs2 hs3 => by
    rcases Nat.lt_or_ge s rival with k | k
    · exact h.out s k hs2 hs3
    · have := less_shift (d := s - rival) (by omega) hs (by omega) h.like hlt
      rwa [show rival + (s - rival) = s by omega] at this, fun i hi => by omega⟩
theorem duel_more {w : List Int} {best rival same : Nat} (h : Duel w best rival same) (hs : same < w.length) (hlt : F w (rival + same) < F w (best + same)) : Duel w rival (max (best + same) rival + 1) 0 :=
  ⟨by have := Nat.le_max_right (best + same) rival; omega, fun s hs1 hs2 hs3 => by
    have hmx : s ≤ best + same ∨ s ≤ rival := by
      rcases Nat.le_total (best + same) rival with c | c
      · rw [Nat.max_eq_right c] at hs1; omega
      · rw [Nat.max_eq_left c] at hs1; omega
    have hbr := h.lt
    rcases (by omega : (best ≤ s ∧ s ≤ best + same) ∨ (s < rival ∧ s ≠ best) ∨ s = rival) with k | k | k
    · have := less_shift (d := s - best) (by omega) hs (by omega) (fun i hi => (h.like i hi).symm) hlt
      rwa [show best + (s - best) = s by omega] at this
    · exact h.out s k.1 hs2 k.2
    · omega, fun i hi => by omega⟩
theorem duel_done {w : List Int} {best rival same l : Nat} (h : Duel w best rival same) (hr : w.length ≤ rival) (hl : IsLeast w l) : best = l := by
  apply Decidable.byContradiction
  intro e
  exact out_not hl (h.out l (by have := hl.1; omega) hl.1 (by omega))
theorem duel_alike {w : List Int} {best rival same l : Nat} (h : Duel w best rival same) (hs : w.length ≤ same) (hl : IsLeast w l) : best = l := by
  apply Decidable.byContradiction
  intro e
  rcases Nat.lt_or_ge l rival with k | k
  · exact out_not hl (h.out l k hl.1 (by omega))
  · -- the turn by l less (rival - best) is the same
    have hlt := h.lt
    have e1 : rot w best = rot w rival := by
      apply ext_F (rot_same _ _ _)
      intro i hi
      rw [rot_length] at hi
      rw [F_rot, F_rot]
      have := h.like i (by omega)
      rwa [Nat.add_comm best, Nat.add_comm rival] at this
    have e2 : rot w (l - (rival - best)) = rot w l := by
      have := congrArg (fun x => rot x (l - rival)) e1
      simp only [rot_rot] at this
      rw [show best + (l - rival) = l - (rival - best) by omega, show rival + (l - rival) = l by omega] at this
      exact this
    have h1 := (hl.2 (l - (rival - best)) (by have := hl.1; omega)).2 (by omega)
    rw [e2, lexC_self] at h1
    omega
/-- the least turn of a turned word is the least turn -/
theorem least_rot {w : List Int} {l m t : Nat} (h : IsLeast w l) (k : IsLeast (rot w t) m) : rot (rot w t) m = rot w l := by
  have hw : 0 < w.length := by have := h.1; omega
  have h1 : lexC (rot (rot w t) m) (rot w l) ≤ 0 := by
    -- l = t + s around
    have hs : ∃ s, s < w.length ∧ rot (rot w t) s = rot w l := by
      refine ⟨(l + t * (w.length - 1)) % w.length, Nat.mod_lt _ hw, ?_⟩
      have e := rot_mod (rot w t) (l + t * (w.length - 1))
      rw [rot_length] at e
      rw [e, rot_rot, ← rot_mod w (t + _)]
      have e1 : t + (l + t * (w.length - 1)) = l + t * w.length := by
        obtain ⟨j, hj⟩ : ∃ j, w.length = j + 1 := ⟨w.length - 1, by omega⟩
        rw [hj, Nat.add_sub_cancel, Nat.mul_succ]; omega
      rw [e1, Nat.add_mul_mod_self_right, rot_mod]
    obtain ⟨s, hs1, hs2⟩ := hs
    rw [← hs2]
    exact (k.2 s (by rw [rot_length]; exact hs1)).1
  have h2 : lexC (rot w l) (rot (rot w t) m) ≤ 0 := by
    rw [rot_rot, ← rot_mod w (t + m)]
    exact (h.2 _ (Nat.mod_lt _ hw)).1
  rw [lexC_swap (rot (rot w t) m) (rot w l)] at h2
  exact lexC_eq (by simp [rot_length]) (by omega)
end Go.Proofs.YtgdjnohhofbcnaaDoor.WordM
end
section
namespace Go.Proofs.YtgdjnohhofbcnaaDoor.WordM
/-! ### words over k symbols, and their numbers -/
def okW (k : Nat) (l : List Int) : Prop := ∀ x ∈ l, 0 ≤ x ∧ x < (k : Int)
def valW (k : Nat) : List Int → Nat
  | [] => 0
  | x :: l => x.toNat * k ^ l.length + valW k l
theorem okW_nil (k : Nat) : okW k [] := fun x h => by cases h
theorem okW_app {k : Nat} {a b : List Int} (ha : okW k a) (hb : okW k b) : okW k (a ++ b) := fun x h => by
  rcases List.mem_append.1 h with h | h
  · exact ha x h
  · exact hb x h
theorem okW_take {k : Nat} {a : List Int} (ha : okW k a) (n : Nat) : okW k (a.take n) := fun x h => ha x (List.mem_of_mem_take h)
theorem okW_drop {k : Nat} {a : List Int} (ha : okW k a) (n : Nat) : okW k (a.drop n) := fun x h => ha x (List.mem_of_mem_drop h)
theorem okW_rep {k : Nat} {x : Int} (hx : 0 ≤ x ∧ x < (k : Int)) (n : Nat) : okW k (List.replicate n x) := fun y h => by
  rw [List.eq_of_mem_replicate h]; exact hx
theorem valW_app (k : Nat) : ∀ (a b : List Int), valW k (a ++ b) = valW k a * k ^ b.length + valW k b
  | [], b => by simp [valW]
  | x :: a, b => by
    show x.toNat * k ^ (a ++ b).length + valW k (a ++ b) = (x.toNat * k ^ a.length + valW k a) * k ^ b.length + valW k b
    rw [valW_app k a b, List.length_append, Nat.pow_add, Nat.add_mul, Nat.mul_assoc, Nat.add_assoc]
theorem valW_snoc (k : Nat) (a : List Int) (x : Int) : valW k (a ++ [x]) = valW k a * k + x.toNat := by
  rw [valW_app]; simp [valW]
theorem valW_lt {k : Nat} : ∀ {a : List Int}, okW k a → valW k a < k ^ a.length
  | [], _ => by simp [valW]
  | x :: a, h => by
    have hx := h x (List.mem_cons_self ..)
    have ih := valW_lt (a := a) (fun y hy => h y (List.mem_cons_of_mem _ hy))
    show x.toNat * k ^ a.length + valW k a < k ^ (a.length + 1)
    rw [Nat.pow_succ]
    have h1 : (x.toNat + 1) * k ^ a.length ≤ k * k ^ a.length := Nat.mul_le_mul_right _ (by omega)
    rw [Nat.add_mul, Nat.one_mul] at h1
    rw [Nat.mul_comm (k ^ a.length) k]
    omega
theorem valW_zero (k n : Nat) : valW k (List.replicate n 0) = 0 := by
  induction n with
  | zero => rfl
  | succ n ih => rw [List.replicate_succ]; show (0 : Int).toNat * _ + valW k _ = 0; rw [ih]; simp
theorem valW_full {k : Nat} (hk : 1 ≤ k) (n : Nat) : valW k (List.replicate n ((k : Int) - 1)) + 1 = k ^ n := by
  induction n with
  | zero => rfl
  | succ n ih =>
    rw [List.replicate_succ]
    show ((k : Int) - 1).toNat * k ^ (List.replicate n ((k : Int) - 1)).length + valW k _ + 1 = k ^ (n + 1)
    rw [Nat.add_assoc, ih, List.length_replicate, Nat.pow_succ, show ((k : Int) - 1).toNat = k - 1 by omega]
    have : (k - 1) * k ^ n + k ^ n = (k - 1 + 1) * k ^ n := by rw [Nat.add_mul, Nat.one_mul]
    rw [this, show k - 1 + 1 = k by omega, Nat.mul_comm]
/-- the order of words of one length is that of their numbers -/
theorem lex_val {k : Nat} : ∀ {a b : List Int}, a.length = b.length → okW k a → okW k b → (lexC a b = -1 ∧ valW k a < valW k b) ∨ (lexC a b = 0 ∧ valW k a = valW k b) ∨ (lexC a b = 1 ∧ valW k b < valW k a)
  | [], [], _, _, _ => Or.inr (Or.inl ⟨rfl, rfl⟩)
  | [], _ :: _, h, _, _ => by simp at h
  | _ :: _, [], h, _, _ => by simp at h
  | x :: a, y :: b, h, ha, hb => by
    have hx := ha x (List.mem_cons_self ..)
    have hy := hb y (List.mem_cons_self ..)
    have ha' : okW k a := fun z hz => ha z (List.mem_cons_of_mem _ hz)
    have hb' : okW k b := fun z hz => hb z (List.mem_cons_of_mem _ hz)
    have hl : a.length = b.length := by simpa using h
    have la := valW_lt ha'
    have lb := valW_lt hb'
    have ih := lex_val hl ha' hb'
    show (lexC (x :: a) (y :: b) = -1 ∧ x.toNat * k ^ a.length + valW k a < y.toNat * k ^ b.length + valW k b) ∨ (_ ∧ x.toNat * k ^ a.length + valW k a = y.toNat * k ^ b.length + valW k b) ∨ (_ ∧ y.toNat * k ^ b.length + valW k b < x.toNat * k ^ a.length + valW k a)
    unfold lexC
    rw [← hl] at lb ⊢
    generalize k ^ a.length = P at *
    rcases (by omega : x < y ∨ y < x ∨ x = y) with c | c | c
    · left
      rw [if_pos c]
      refine ⟨rfl, ?_⟩
      have h1 : (x.toNat + 1) * P ≤ y.toNat * P := Nat.mul_le_mul_right _ (by omega)
      rw [Nat.add_mul, Nat.one_mul] at h1
      omega
    · right; right
      rw [if_neg (by omega), if_pos c]
      refine ⟨rfl, ?_⟩
      have h1 : (y.toNat + 1) * P ≤ x.toNat * P := Nat.mul_le_mul_right _ (by omega)
      rw [Nat.add_mul, Nat.one_mul] at h1
      omega
    · subst c
      rw [if_neg (by omega), if_neg (by omega)]
      rcases ih with ⟨h1, h2⟩ | ⟨h1, h2⟩ | ⟨h1, h2⟩
      · exact Or.inl ⟨h1, by omega⟩
      · exact Or.inr (Or.inl ⟨h1, by omega⟩)
      · exact Or.inr (Or.inr ⟨h1, by omega⟩)
theorem valW_inj {k : Nat} {a b : List Int} (h : a.length = b.length) (ha : okW k a) (hb : okW k b) (e : valW k a = valW k b) : a = b := by
  rcases lex_val h ha hb with ⟨_, h2⟩ | ⟨h1, _⟩ | ⟨_, h2⟩
  · omega
  · exact lexC_eq h h1
  · omega
/-- the word behind it: the last symbol below k - 1 is raised, those behind it are 0; or, where there is none, the first word of the next length -/
def IsNext (k : Nat) (w x : List Int) : Prop :=
  (∃ (i : Nat) (y : Int), w[i]? = some y ∧ y < (k : Int) - 1 ∧ w = w.take i ++ y :: List.replicate (w.length - 1 - i) ((k : Int) - 1) ∧ x = w.take i ++ (y + 1) :: List.replicate (w.length - 1 - i) 0) ∨
  (w = List.replicate w.length ((k : Int) - 1) ∧ x = List.replicate (w.length + 1) 0)
theorem isNext_ok {k : Nat} (hk : 1 ≤ k) {w x : List Int} (h : IsNext k w x) (hw : okW k w) : okW k x := by
  rcases h with ⟨i, y, hy, hlt, _, hx⟩ | ⟨_, hx⟩
  · rw [hx]
    have := hw y (List.mem_of_getElem? hy)
    refine okW_app (okW_take hw _) (fun z hz => ?_)
    rcases List.mem_cons.1 hz with rfl | hz
    · omega
    · exact okW_rep (k := k) (x := 0) (by omega) _ z hz
  · rw [hx]; exact okW_rep (by omega) _
theorem isNext_val {k : Nat} (hk : 1 ≤ k) {w x : List Int} (h : IsNext k w x) (hw : okW k w) :
    (x.length = w.length ∧ valW k x = valW k w + 1) ∨ (x.length = w.length + 1 ∧ valW k x = 0 ∧ valW k w + 1 = k ^ w.length) := by
  rcases h with ⟨i, y, hy, hlt, hw2, hx⟩ | ⟨hw2, hx⟩
  · left
    have hi : i < w.length := by
      obtain ⟨h, _⟩ := List.getElem?_eq_some_iff.1 hy
      exact h
    have hy0 := hw y (List.mem_of_getElem? hy)
    have hl : (w.take i).length = i := by rw [List.length_take]; omega
    refine ⟨by rw [hx]; simp; omega, ?_⟩
    rw [hx]
    have e : valW k w = valW k (w.take i ++ y :: List.replicate (w.length - 1 - i) ((k : Int) - 1)) := by rw [← hw2]
    rw [e, valW_app, valW_app]
    show _ + ((y + 1).toNat * k ^ (List.replicate (w.length - 1 - i) 0).length + valW k (List.replicate (w.length - 1 - i) 0)) = _ + (y.toNat * k ^ (List.replicate (w.length - 1 - i) ((k : Int) - 1)).length + valW k (List.replicate (w.length - 1 - i) ((k : Int) - 1))) + 1
    have hf := valW_full hk (w.length - 1 - i)
    rw [valW_zero, List.length_cons, List.length_cons, List.length_replicate, List.length_replicate, show (y + 1).toNat = y.toNat + 1 by omega, Nat.add_mul, Nat.one_mul]
    omega
  · right
    refine ⟨by rw [hx, List.length_replicate], by rw [hx, valW_zero], ?_⟩
    have e : valW k w = valW k (List.replicate w.length ((k : Int) - 1)) := by rw [← hw2]
    rw [e, valW_full hk]
theorem isNext_unique {k : Nat} (hk : 1 ≤ k) {w x y : List Int} (hw : okW k w) (h : IsNext k w x) (g : IsNext k w y) : x = y := by
  have h1 := isNext_val hk h hw
  have g1 := isNext_val hk g hw
  have h2 := isNext_ok hk h hw
  have g2 := isNext_ok hk g hw
  have hl := valW_lt hw
  have hlx := valW_lt h2
  have hly := valW_lt g2
  rcases h1 with ⟨a1, a2⟩ | ⟨a1, a2, a3⟩
  · rcases g1 with ⟨b1, b2⟩ | ⟨b1, b2, b3⟩
    · exact valW_inj (by omega) h2 g2 (by omega)
    · rw [a1] at hlx; omega
  · rcases g1 with ⟨b1, b2⟩ | ⟨b1, b2, b3⟩
    · rw [b1] at hly; omega
    · exact valW_inj (by omega) h2 g2 (by omega)
theorem isNext_cmp {k : Nat} (hk : 1 ≤ k) {w x : List Int} (h : IsNext k w x) (hw : okW k w) : cmpW w x = -1 := by
  rcases isNext_val hk h hw with ⟨a1, a2⟩ | ⟨a1, a2, a3⟩
  · rw [cmpW_len a1.symm]
    rcases lex_val a1.symm hw (isNext_ok hk h hw) with c | c | c
    · exact c.1
    · omega
    · omega
  · unfold cmpW; rw [if_pos (by omega)]
/-- none between -/
theorem isNext_between {k : Nat} (hk : 1 ≤ k) {w x v : List Int} (h : IsNext k w x) (hw : okW k w) (hv : okW k v) (hc : cmpW w v = -1) : cmpW x v ≤ 0 := by
  have hx := isNext_ok hk h hw
  have hvl := valW_lt hv
  have fin : x.length = v.length → valW k x ≤ valW k v → cmpW x v ≤ 0 := fun hl hle => by
    rw [cmpW_len hl]
    rcases lex_val hl hx hv with c | c | c <;> omega
  have hshort : x.length < v.length → cmpW x v ≤ 0 := fun hl => by unfold cmpW; rw [if_pos hl]; omega
  rcases isNext_val hk h hw with ⟨a1, a2⟩ | ⟨a1, a2, a3⟩
  · rcases Nat.lt_trichotomy w.length v.length with c | c | c
    · exact hshort (by omega)
    · refine fin (by omega) ?_
      rw [cmpW_len c] at hc
      rcases lex_val c hw hv with d | d | d <;> omega
    · unfold cmpW at hc; rw [if_neg (by omega), if_pos c] at hc; omega
  · rcases Nat.lt_trichotomy w.length v.length with c | c | c
    · rcases (by omega : x.length < v.length ∨ x.length = v.length) with d | d
      · exact hshort d
      · exact fin d (by omega)
    · rw [cmpW_len c] at hc
      rw [← c] at hvl
      rcases lex_val c hw hv with d | d | d <;> omega
    · unfold cmpW at hc; rw [if_neg (by omega), if_pos c] at hc; omega
/-! ### which lists are words -/
def badAt (k : Int) (x : Int) : Bool := decide (x < 0) || decide (k ≤ x)
/-- where a list is refused: the place, and the error's number -/
def chkW (k : Int) (w : List Int) : Option (Nat × Nat) :=
  if k < 1 ∨ 4 < k then some (0, 3) else if 4096 < w.length then some (0, 4) else (w.findIdx? (badAt k)).map fun i => (i, 2)
theorem chkW_none {k : Int} {w : List Int} (h : chkW k w = none) : ∃ n : Nat, k = n ∧ 1 ≤ n ∧ n ≤ 4 ∧ w.length ≤ 4096 ∧ okW n w := by
  unfold chkW at h
  split at h
  · cases h
  · split at h
    · cases h
    · rw [Option.map_eq_none_iff, List.findIdx?_eq_none_iff] at h
      refine ⟨k.toNat, by omega, by omega, by omega, by omega, fun x hx => ?_⟩
      have := h x hx
      unfold badAt at this
      simp at this
      omega
theorem chkW_ok {k : Nat} {w : List Int} (h1 : 1 ≤ k) (h4 : k ≤ 4) (hl : w.length ≤ 4096) (ho : okW k w) : chkW k w = none := by
  unfold chkW
  rw [if_neg (by omega), if_neg (by omega), Option.map_eq_none_iff, List.findIdx?_eq_none_iff]
  intro x hx
  have := ho x hx
  unfold badAt
  simp
  omega
/-- the place and the number of At -/
def atBad (k n : Int) (i : Nat) : Option (Nat × Nat) :=
  if k < 1 ∨ 4 < k ∨ n < 0 then some (0, 3) else if 256 < n then some (0, 4) else if k.toNat ^ n.toNat ≤ i then some (0, 3) else none
theorem at_step {k p i i0 : Nat} {l : List Int} (hl : l.length = p) (h : valW k l + k ^ p * i = i0) : valW k ((((i % k : Nat) : Int)) :: l) + k ^ (p + 1) * (i / k) = i0 := by
  show (((i % k : Nat) : Int)).toNat * k ^ l.length + valW k l + _ = _
  rw [Int.toNat_natCast, hl, Nat.pow_succ, Nat.mul_assoc]
  have e : k * (i / k) + i % k = i := Nat.div_add_mod i k
  have : i % k * k ^ p + k ^ p * (k * (i / k)) = k ^ p * i := by
    rw [Nat.mul_comm (i % k), ← Nat.mul_add, Nat.add_comm, e]
  omega
theorem at_done {k n i i0 : Nat} {l : List Int} (h : valW k l + k ^ n * i = i0) (hlt : i0 < k ^ n) : valW k l = i0 := by
  rcases Nat.eq_zero_or_pos i with rfl | c
  · simpa using h
  · have : k ^ n * 1 ≤ k ^ n * i := Nat.mul_le_mul_left _ c
    omega
/-! ### repeats -/
def timesW (w : List Int) : Nat → List Int
  | 0 => []
  | n + 1 => timesW w n ++ w
theorem timesW_length (w : List Int) (n : Nat) : (timesW w n).length = n * w.length := by
  induction n with
  | zero => simp [timesW]
  | succ n ih => rw [timesW, List.length_append, ih, Nat.succ_mul]
theorem timesW_get (w : List Int) (n : Nat) : ∀ i, i < n * w.length → (timesW w n)[i]? = some (F w i) := by
  induction n with
  | zero => intro i h; simp at h
  | succ n ih =>
    intro i hi
    rw [Nat.succ_mul] at hi
    unfold timesW
    rcases Nat.lt_or_ge i (n * w.length) with c | c
    · rw [List.getElem?_append_left (by rw [timesW_length]; exact c), ih i c]
    · rw [List.getElem?_append_right (by rw [timesW_length]; exact c), timesW_length, F_get (by omega)]
      congr 1
      unfold F
      rw [Nat.mul_comm, Nat.sub_mul_mod (by rw [Nat.mul_comm]; exact c)]
theorem times_unique {w x : List Int} {n : Nat} (hl : x.length = n * w.length) (h : ∀ i, i < x.length → x[i]? = some (F w i)) : x = timesW w n := by
  apply List.ext_getElem?
  intro i
  by_cases hi : i < x.length
  · rw [h i hi, timesW_get w n i (by omega)]
  · rw [List.getElem?_eq_none (by omega), List.getElem?_eq_none (by rw [timesW_length]; omega)]
theorem F_times {w : List Int} {n : Nat} (hn : 1 ≤ n) (i : Nat) : F (timesW w n) i = F w i := by
  rcases Nat.eq_zero_or_pos w.length with h | h
  · have h1 := List.eq_nil_of_length_eq_zero h
    subst h1
    have : timesW [] n = [] := List.eq_nil_of_length_eq_zero (by rw [timesW_length]; simp)
    rw [this]
  · have hp : 0 < n * w.length := Nat.mul_pos hn h
    have h2 : i % (n * w.length) < n * w.length := Nat.mod_lt _ hp
    have h1 := timesW_get w n _ h2
    unfold F
    rw [List.getD_eq_getElem?_getD, timesW_length, h1]
    show F w _ = _
    unfold F
    rw [Nat.mod_mod_of_dvd _ (Nat.dvd_mul_left _ _)]
/-- a repeated word's period is the word's -/
theorem isPer_times {w : List Int} {p n : Nat} (hn : 1 ≤ n) (h : IsPer w p) : IsPer (timesW w n) p := by
  have e : ∀ q, Per (timesW w n) q ↔ Per w q := fun q => by
    unfold Per
    constructor
    · intro k i; rw [← F_times hn, ← F_times (w := w) hn i, k]
    · intro k i; rw [F_times hn, F_times hn, k]
  refine ⟨h.1, by rw [timesW_length]; exact Nat.dvd_trans h.2.1 (Nat.dvd_mul_left _ _), (e p).2 h.2.2.1, fun q hq hlt => ?_⟩
  rintro ⟨_, hk⟩
  have := isPer_least h hq ((e q).1 hk)
  omega
end Go.Proofs.YtgdjnohhofbcnaaDoor.WordM
end
section
namespace Go.Proofs.YtgdjnohhofbcnaaDoor.RuleM
open WordM

/-- the fault of a rule: the place; its number is 1 -/
def chkR (k r : Int) (t : List Int) : Option Nat :=
  if k < 1 ∨ 4 < k then some 0 else if r < 0 ∨ 3 < r then some 1 else if t.length ≠ k.toNat ^ (2 * r.toNat + 1) then some 2 else (t.findIdx? (badAt k)).map fun i => 3 + i
structure OkR (k r : Nat) (t : List Int) : Prop where
  k1 : 1 ≤ k
  k4 : k ≤ 4
  r3 : r ≤ 3
  len : t.length = k ^ (2 * r + 1)
  ok : okW k t
theorem pow_le {k r : Nat} (h4 : k ≤ 4) (h3 : r ≤ 3) : k ^ (2 * r + 1) ≤ 16384 :=
  Nat.le_trans (Nat.pow_le_pow_left h4 _) (Nat.le_trans (Nat.pow_le_pow_right (by omega) (by omega : 2 * r + 1 ≤ 7)) (by decide))
theorem pow_pos {k r : Nat} (h1 : 1 ≤ k) : 1 ≤ k ^ (2 * r + 1) := Nat.pow_pos h1
theorem bad_none {k : Nat} {l : List Int} : l.findIdx? (badAt k) = none ↔ okW k l := by
  rw [List.findIdx?_eq_none_iff]
  constructor
  · intro h x hx
    have := h x hx
    unfold badAt at this
    simp at this
    omega
  · intro h x hx
    have := h x hx
    unfold badAt
    simp
    omega
theorem chkR_none {k r : Int} {t : List Int} (h : chkR k r t = none) : ∃ K R : Nat, k = K ∧ r = R ∧ OkR K R t := by
  unfold chkR at h
  split at h
  · cases h
  · split at h
    · cases h
    · split at h
      · cases h
      · rename_i h1 h2 h3
        obtain ⟨K, rfl⟩ : ∃ K : Nat, k = K := ⟨k.toNat, by omega⟩
        obtain ⟨R, rfl⟩ : ∃ R : Nat, r = R := ⟨r.toNat, by omega⟩
        rw [Option.map_eq_none_iff, bad_none] at h
        exact ⟨K, R, rfl, rfl, by omega, by omega, by omega, by simpa using h3, h⟩
theorem chkR_ok {K R : Nat} {t : List Int} (h : OkR K R t) : chkR K R t = none := by
  have h1 := h.k1
  have h2 := h.k4
  have h3 := h.r3
  unfold chkR
  rw [if_neg (by omega), if_neg (by omega), if_neg (by simp [h.len]), Option.map_eq_none_iff, bad_none]
  exact h.ok

/-! ### numbers of windows -/
theorem valW_mod {k : Nat} {a b : List Int} (hb : okW k b) : valW k (a ++ b) % k ^ b.length = valW k b := by
  rw [valW_app, Nat.mul_comm, Nat.mul_add_mod]
  exact Nat.mod_eq_of_lt (valW_lt hb)
/-- the window of n symbols from i on -/
def win (w : List Int) (i n : Nat) : List Int := (w.drop i).take n
theorem win_length {w : List Int} {i n : Nat} (h : i + n ≤ w.length) : (win w i n).length = n := by
  unfold win
  rw [List.length_take, List.length_drop]; omega
theorem win_ok {k : Nat} {w : List Int} (h : okW k w) (i n : Nat) : okW k (win w i n) := okW_take (okW_drop h i) n
theorem take_win (w : List Int) (i n : Nat) : w.take (i + n) = w.take i ++ win w i n := by
  unfold win
  rw [List.take_add]
theorem win_lt {k : Nat} {w : List Int} {i n : Nat} (h : okW k w) (hl : i + n ≤ w.length) : valW k (win w i n) < k ^ n := by
  have := valW_lt (win_ok h i n)
  rwa [win_length hl] at this
theorem win_mod {k : Nat} {w : List Int} {i n : Nat} (h : okW k w) (hl : i + n ≤ w.length) : valW k (w.take (i + n)) % k ^ n = valW k (win w i n) := by
  have := valW_mod (a := w.take i) (win_ok h i n)
  rwa [win_length hl, ← take_win] at this
theorem win_all (w : List Int) : win w 0 w.length = w := by unfold win; rw [List.drop_zero, List.take_length]
theorem step_mod {k S j : Nat} {w : List Int} {x : Int} (h : w[j]? = some x) : (valW k (w.take j) % S * k + x.toNat) % S = valW k (w.take (j + 1)) % S := by
  rw [List.take_add_one, h]
  show _ = valW k (w.take j ++ [x]) % S
  rw [valW_snoc, Nat.add_mod, Nat.mul_mod, Nat.mod_mod, ← Nat.mul_mod, ← Nat.add_mod]
/-- the entry of a table -/
def ent (t : List Int) (i : Nat) : Int := t.getD i 0
theorem ent_get {t : List Int} {i : Nat} (h : i < t.length) : t[i]? = some (ent t i) := by
  unfold ent
  rw [List.getD_eq_getElem?_getD, List.getElem?_eq_getElem h]; rfl
theorem ent_ok {k : Nat} {t : List Int} {i : Nat} (ho : okW k t) (h : i < t.length) : 0 ≤ ent t i ∧ ent t i < (k : Int) := ho _ (List.mem_of_getElem? (ent_get h))
/-- the image of a word -/
def imgW (k r : Nat) (t w : List Int) : List Int := (List.range (w.length - 2 * r)).map fun i => ent t (valW k (win w i (2 * r + 1)))
theorem imgW_length (k r : Nat) (t w : List Int) : (imgW k r t w).length = w.length - 2 * r := by unfold imgW; simp
theorem imgW_get {k r : Nat} {t w : List Int} {i : Nat} (h : i < w.length - 2 * r) : (imgW k r t w)[i]? = some (ent t (valW k (win w i (2 * r + 1)))) := by
  unfold imgW
  rw [List.getElem?_map, List.getElem?_range h]; rfl
theorem imgW_nil {k r : Nat} {t w : List Int} (h : w.length ≤ 2 * r) : imgW k r t w = [] := List.eq_nil_of_length_eq_zero (by rw [imgW_length]; omega)
theorem imgW_ok {k r : Nat} {t w : List Int} (h : OkR k r t) (hw : okW k w) : okW k (imgW k r t w) := by
  intro x hx
  obtain ⟨i, hi⟩ := List.mem_iff_getElem?.1 hx
  have hl : i < (imgW k r t w).length := (List.getElem?_eq_some_iff.1 hi).1
  rw [imgW_length] at hl
  rw [imgW_get hl] at hi
  obtain rfl := Option.some.inj hi
  exact ent_ok h.ok (by rw [h.len]; exact win_lt hw (by omega))
/-- of pieces -/
theorem win_piece (w : List Int) (a b i n : Nat) (h : i + n ≤ b) : win ((w.drop a).take b) i n = win w (a + i) n := by
  unfold win
  rw [List.drop_take, List.drop_drop, List.take_take]
  congr 1
  omega
theorem img_piece {k r : Nat} {t w : List Int} {a b : Nat} (h : a + b ≤ w.length) : imgW k r t ((w.drop a).take b) = ((imgW k r t w).drop a).take (b - 2 * r) := by
  apply List.ext_getElem?
  intro i
  have hl : ((w.drop a).take b).length = b := by rw [List.length_take, List.length_drop]; omega
  by_cases hi : i < b - 2 * r
  · rw [imgW_get (by rw [hl]; exact hi), List.getElem?_take, if_pos hi, List.getElem?_drop, imgW_get (by omega), win_piece _ _ _ _ _ (by omega)]
  · rw [List.getElem?_eq_none (by rw [imgW_length, hl]; omega), List.getElem?_take, if_neg hi]
/-! ### numbers of rules -/
theorem OkR.rev {k r : Nat} {t : List Int} (h : OkR k r t) : okW k t.reverse := fun x hx => h.ok x (List.mem_reverse.1 hx)
theorem okW_rev {k : Nat} {t : List Int} (h : okW k t) : okW k t.reverse := fun x hx => h x (List.mem_reverse.1 hx)
/-- the number of a rule -/
def codeR (k : Nat) (t : List Int) : Nat := valW k t.reverse
theorem code_lt {k r : Nat} {t : List Int} (h : OkR k r t) : codeR k t < k ^ (k ^ (2 * r + 1)) := by
  have := valW_lt h.rev
  rwa [List.length_reverse, h.len] at this
theorem code_inj {k r : Nat} {t u : List Int} (h : OkR k r t) (g : OkR k r u) (e : codeR k t = codeR k u) : t = u :=
  List.reverse_inj.1 (valW_inj (by rw [List.length_reverse, List.length_reverse, h.len, g.len]) h.rev g.rev e)

end Go.Proofs.YtgdjnohhofbcnaaDoor.RuleM
end
section
namespace Go.Proofs.YtgdjnohhofbcnaaDoor.RuleM
open WordM
/-! ### rings -/
/-- how far a ring is turned so that the first window lies at its head -/
def wrapS (w : List Int) (R : Nat) : Nat := ((-(R : Int)) % (w.length : Int)).toNat
/-- the ring with its neighbours about it -/
def extW (w : List Int) (R : Nat) : List Int := (List.range (w.length + 2 * R)).map fun i => F w (i + wrapS w R)
/-- the image of a ring -/
def ringW (k r : Nat) (t w : List Int) : List Int := imgW k r t (extW w r)
theorem extW_length (w : List Int) (R : Nat) : (extW w R).length = w.length + 2 * R := by unfold extW; simp
theorem extW_get {w : List Int} {R i : Nat} (h : i < w.length + 2 * R) : (extW w R)[i]? = some (F w (i + wrapS w R)) := by
  unfold extW
  rw [List.getElem?_map, List.getElem?_range h]; rfl
theorem F_congr {w : List Int} {i j : Nat} (h : i % w.length = j % w.length) : F w i = F w j := by rw [← F_mod, h, F_mod]
theorem wrapS_mod {w : List Int} (h : 0 < w.length) (R : Nat) : (R + wrapS w R) % w.length = 0 := by
  unfold wrapS
  have h1 := Int.emod_nonneg (-(R : Int)) (show (w.length : Int) ≠ 0 by omega)
  have h2 : ((R : Int) + (-(R : Int)) % (w.length : Int)) % (w.length : Int) = 0 := by
    rw [Int.add_emod, Int.emod_emod, ← Int.add_emod]
    rw [Int.add_right_neg, Int.zero_emod]
  obtain ⟨s, hs⟩ : ∃ s : Nat, (-(R : Int)) % (w.length : Int) = s := ⟨_, (Int.toNat_of_nonneg h1).symm⟩
  rw [hs] at h2 ⊢
  rw [Int.toNat_natCast]
  exact_mod_cast h2
theorem wrapS_lt {w : List Int} (h : 0 < w.length) (R : Nat) : wrapS w R < w.length := by
  unfold wrapS
  have h1 := Int.emod_lt_of_pos (-(R : Int)) (show (0 : Int) < (w.length : Int) by omega)
  have h2 := Int.emod_nonneg (-(R : Int)) (show (w.length : Int) ≠ 0 by omega)
  omega
theorem F_ok {k : Nat} {w : List Int} (h0 : 0 < w.length) (h : okW k w) (i : Nat) : 0 ≤ F w i ∧ F w i < (k : Int) := by
  rw [← F_mod]
  exact h _ (List.mem_of_getElem? (F_get (Nat.mod_lt _ h0)))
theorem extW_ok {k : Nat} {w : List Int} (h0 : 0 < w.length) (h : okW k w) (R : Nat) : okW k (extW w R) := fun x hx => by
  obtain ⟨i, hi⟩ := List.mem_iff_getElem?.1 hx
  have hl := (List.getElem?_eq_some_iff.1 hi).1
  rw [extW_length] at hl
  rw [extW_get hl] at hi
  obtain rfl := Option.some.inj hi
  exact F_ok h0 h _
theorem ringW_length (k r : Nat) (t w : List Int) : (ringW k r t w).length = w.length := by
  unfold ringW
  rw [imgW_length, extW_length]; omega
theorem ringW_ok {k r : Nat} {t w : List Int} (h : OkR k r t) (h0 : 0 < w.length) (hw : okW k w) : okW k (ringW k r t w) := imgW_ok h (extW_ok h0 hw r)
/-- a cell of the image -/
def rcell (k r : Nat) (t w : List Int) (i : Nat) : Int := ent t (valW k ((List.range (2 * r + 1)).map fun j => F w (i + j + wrapS w r)))
theorem win_ext {w : List Int} {R i : Nat} (h : i < w.length) : win (extW w R) i (2 * R + 1) = (List.range (2 * R + 1)).map fun j => F w (i + j + wrapS w R) := by
  apply List.ext_getElem?
  intro j
  unfold win
  rw [List.getElem?_take]
  by_cases hj : j < 2 * R + 1
  · rw [if_pos hj, List.getElem?_drop, extW_get (by omega), List.getElem?_map, List.getElem?_range hj]; rfl
  · rw [if_neg hj, List.getElem?_eq_none (by simp; omega)]
theorem rcell_mod (k r : Nat) (t w : List Int) (i : Nat) : rcell k r t w (i % w.length) = rcell k r t w i := by
  unfold rcell
  congr 2
  apply List.map_congr_left
  intro j _
  apply F_congr
  rw [Nat.add_assoc, Nat.mod_add_mod, Nat.add_assoc]
theorem F_ring (k r : Nat) (t w : List Int) (i : Nat) (h0 : 0 < w.length) : F (ringW k r t w) i = rcell k r t w i := by
  rw [← F_mod, ringW_length]
  have hl : i % w.length < w.length := Nat.mod_lt _ h0
  apply Option.some.inj
  rw [← F_get (by rw [ringW_length]; exact hl)]
  unfold ringW
  rw [imgW_get (by rw [extW_length]; omega), win_ext hl, ← rcell_mod k r t w i]
  rfl
theorem wrapS_rot (w : List Int) (m R : Nat) : wrapS (rot w m) R = wrapS w R := by unfold wrapS; rw [rot_length]
/-- the image of a turned ring is the turned image -/
theorem ring_rot (k r : Nat) (t w : List Int) (m : Nat) : ringW k r t (rot w m) = rot (ringW k r t w) m := by
  rcases Nat.eq_zero_or_pos w.length with h | h
  · apply List.ext_getElem?
    intro i
    rw [List.getElem?_eq_none (by rw [ringW_length, rot_length]; omega), List.getElem?_eq_none (by rw [rot_length, ringW_length]; omega)]
  · apply ext_F (by rw [ringW_length, rot_length, rot_length, ringW_length])
    intro i _
    rw [F_ring _ _ _ _ _ (by rw [rot_length]; exact h), F_rot, F_ring _ _ _ _ _ h]
    unfold rcell
    rw [wrapS_rot]
    congr 2
    apply List.map_congr_left
    intro j _
    rw [F_rot]
    congr 1; omega
theorem nat_mod_of {a b n : Nat} (h : (a : Int) % (n : Int) = (b : Int) % (n : Int)) : a % n = b % n := by
  exact_mod_cast h
theorem wrapS_times {w : List Int} (h0 : 0 < w.length) {n : Nat} (hn : 1 ≤ n) (R : Nat) : wrapS (timesW w n) R % w.length = wrapS w R % w.length := by
  have hp : 0 < n * w.length := Nat.mul_pos hn h0
  have h1 := Int.emod_nonneg (-(R : Int)) (show (w.length : Int) ≠ 0 by omega)
  have h2 := Int.emod_nonneg (-(R : Int)) (show ((n * w.length : Nat) : Int) ≠ 0 by omega)
  apply nat_mod_of
  unfold wrapS
  rw [timesW_length, Int.toNat_of_nonneg h1, Int.toNat_of_nonneg h2]
  rw [Int.emod_emod, Int.emod_emod_of_dvd]
  exact ⟨(n : Int), by push_cast; rw [Int.mul_comm]⟩
/-- of a repeated ring the image repeated -/
theorem ring_times {k r : Nat} {t w : List Int} {n : Nat} (hn : 1 ≤ n) : ringW k r t (timesW w n) = timesW (ringW k r t w) n := by
  rcases Nat.eq_zero_or_pos w.length with h | h
  · apply List.ext_getElem?
    intro i
    rw [List.getElem?_eq_none (by rw [ringW_length, timesW_length, h]; omega), List.getElem?_eq_none (by rw [timesW_length, ringW_length, h]; omega)]
  · have hp : 0 < (timesW w n).length := by rw [timesW_length]; exact Nat.mul_pos hn h
    apply ext_F (by rw [ringW_length, timesW_length, timesW_length, ringW_length])
    intro i _
    rw [F_ring _ _ _ _ _ hp, F_times hn, F_ring _ _ _ _ _ h]
    unfold rcell
    congr 2
    apply List.map_congr_left
    intro j _
    rw [F_times hn]
    apply F_congr
    rw [Nat.add_mod, wrapS_times h hn, ← Nat.add_mod]
/-! ### many steps -/
def stepsW (k r : Nat) (t : List Int) : Nat → List Int → List Int
  | 0, w => w
  | n + 1, w => stepsW k r t n (ringW k r t w)
theorem stepsW_length (k r : Nat) (t : List Int) : ∀ (n : Nat) (w : List Int), (stepsW k r t n w).length = w.length
  | 0, w => rfl
  | n + 1, w => by rw [stepsW, stepsW_length, ringW_length]
theorem stepsW_succ (k r : Nat) (t : List Int) : ∀ (n : Nat) (w : List Int), stepsW k r t (n + 1) w = ringW k r t (stepsW k r t n w)
  | 0, w => rfl
  | n + 1, w => by rw [stepsW, stepsW_succ k r t n, stepsW]
theorem stepsW_add (k r : Nat) (t : List Int) (m : Nat) : ∀ (n : Nat) (w : List Int), stepsW k r t (n + m) w = stepsW k r t m (stepsW k r t n w)
  | 0, w => by rw [Nat.zero_add]; rfl
  | n + 1, w => by rw [Nat.add_right_comm, stepsW, stepsW_add k r t m n, stepsW]
theorem stepsW_ok {k r : Nat} {t : List Int} (h : OkR k r t) : ∀ (n : Nat) (w : List Int), 0 < w.length → okW k w → okW k (stepsW k r t n w)
  | 0, _, _, hw => hw
  | n + 1, w, h0, hw => stepsW_ok h n _ (by rw [ringW_length]; exact h0) (ringW_ok h h0 hw)
/-- the first cell behind 0, 1, .. steps -/
def traceW (k r : Nat) (t : List Int) (n : Nat) (w : List Int) : List Int := (List.range n).map fun i => F (stepsW k r t i w) 0
theorem traceW_length (k r : Nat) (t : List Int) (n : Nat) (w : List Int) : (traceW k r t n w).length = n := by unfold traceW; simp
theorem traceW_get {k r : Nat} {t : List Int} {n i : Nat} {w : List Int} (h : i < n) : (traceW k r t n w)[i]? = some (F (stepsW k r t i w) 0) := by
  unfold traceW
  rw [List.getElem?_map, List.getElem?_range h]; rfl
theorem traceW_add (k r : Nat) (t : List Int) (n m : Nat) (w : List Int) : traceW k r t (n + m) w = traceW k r t n w ++ traceW k r t m (stepsW k r t n w) := by
  apply List.ext_getElem?
  intro i
  by_cases hi : i < n + m
  · rw [traceW_get hi]
    by_cases hn : i < n
    · rw [List.getElem?_append_left (by rw [traceW_length]; exact hn), traceW_get hn]
    · rw [List.getElem?_append_right (by rw [traceW_length]; omega), traceW_length, traceW_get (by omega), ← stepsW_add]
      congr 3; omega
  · rw [List.getElem?_eq_none (by rw [traceW_length]; omega), List.getElem?_eq_none (by rw [List.length_append, traceW_length, traceW_length]; omega)]
theorem traceW_succ (k r : Nat) (t : List Int) (n : Nat) (w : List Int) : traceW k r t (n + 1) w = traceW k r t n w ++ [F (stepsW k r t n w) 0] := by
  unfold traceW
  rw [List.range_succ, List.map_append]; rfl
/-! ### the fault of a ring -/
/-- the place and the number of the ring's own fault -/
def chkRg (k : Nat) (w : List Int) : Option (Nat × Nat) := if w.length = 0 then some (0, 3) else if 4096 < w.length then some (0, 4) else (w.findIdx? (badAt k)).map fun i => (i, 2)
theorem chkRg_none {k : Nat} {w : List Int} (h : chkRg k w = none) : 0 < w.length ∧ w.length ≤ 4096 ∧ okW k w := by
  unfold chkRg at h
  split at h
  · cases h
  · split at h
    · cases h
    · exact ⟨by omega, by omega, bad_none.1 (Option.map_eq_none_iff.1 h)⟩
theorem chkRg_ok {k : Nat} {w : List Int} (h0 : 0 < w.length) (hl : w.length ≤ 4096) (h : okW k w) : chkRg k w = none := by
  unfold chkRg
  rw [if_neg (by omega), if_neg (by omega), bad_none.2 h]; rfl
/-! ### the document's image, symbol by symbol -/
def pieceW (w : List Int) (R i q : Nat) : List Int := (List.range q).map fun j => F w (i + j + wrapS w R)
theorem pieceW_succ (w : List Int) (R i q : Nat) : pieceW w R i (q + 1) = pieceW w R i q ++ [F w (i + q + wrapS w R)] := by
  unfold pieceW
  rw [List.range_succ, List.map_append]; rfl
theorem pieceW_length (w : List Int) (R i q : Nat) : (pieceW w R i q).length = q := by unfold pieceW; simp
theorem pieceW_ok {k : Nat} {w : List Int} (h0 : 0 < w.length) (h : okW k w) (R i q : Nat) : okW k (pieceW w R i q) := fun x hx => by
  unfold pieceW at hx
  obtain ⟨j, _, rfl⟩ := List.mem_map.1 hx
  exact F_ok h0 h _
theorem val_piece {k : Nat} {w : List Int} (R i q : Nat) : valW k (pieceW w R i q) * k + (F w (i + q + wrapS w R)).toNat = valW k (pieceW w R i (q + 1)) := by
  rw [pieceW_succ, valW_snoc]
theorem piece_lt {k : Nat} {w : List Int} (h0 : 0 < w.length) (h : okW k w) (R i q : Nat) : valW k (pieceW w R i q) < k ^ q := by
  have := valW_lt (pieceW_ok h0 h R i q)
  rwa [pieceW_length] at this
theorem ring_get {k r : Nat} {t w : List Int} {i : Nat} (h : i < w.length) : (ringW k r t w)[i]? = some (ent t (valW k (pieceW w r i (2 * r + 1)))) := by
  unfold ringW
  rw [imgW_get (by rw [extW_length]; omega), win_ext h]
  rfl
theorem ref_place {w : List Int} {n : Nat} (hn : n = w.length) (h0 : 0 < n) (R i j : Nat) : (((i : Int) + ((j : Int) - (R : Int))).tmod (n : Int) + (n : Int)).tmod (n : Int) = (((i + j + wrapS w R) % n : Nat) : Int) := by
  subst hn
  obtain ⟨x, hx⟩ : ∃ x, (i : Int) + ((j : Int) - (R : Int)) = x := ⟨_, rfl⟩
  obtain ⟨n, hn⟩ : ∃ n, w.length = n := ⟨_, rfl⟩
  have h1 := wrapS_mod (w := w) h0 R
  obtain ⟨s, hs⟩ : ∃ s, wrapS w R = s := ⟨_, rfl⟩
  rw [hs] at h1 ⊢
  rw [hn] at h1 h0 ⊢
  rw [hx]
  have hlo : -(n : Int) < x.tmod (n : Int) := Int.lt_tmod_of_pos x (by omega)
  rw [Int.tmod_eq_emod_of_nonneg (a := x.tmod (n : Int) + (n : Int)) (by omega), Int.add_emod_right]
  have e : x.tmod (n : Int) % (n : Int) = x % (n : Int) := by
    have := @Int.tmod_eq_emod x (n : Int)
    split at this
    · rw [this]
      simp
    · rw [this, Int.sub_emod, Int.emod_emod]
      have hz : ((n : Int).natAbs : Int) % (n : Int) = 0 := by simp
      rw [hz, Int.sub_zero, Int.emod_emod]
  rw [e]
  have h2 : ((i + j + s : Nat) : Int) % (n : Int) = x % (n : Int) := by
    have h3 : ((R : Int) + (s : Int)) % (n : Int) = 0 := by exact_mod_cast h1
    have h4 : ((i + j + s : Nat) : Int) = x + ((R : Int) + (s : Int)) := by push_cast; omega
    rw [h4, Int.add_emod, h3, Int.add_zero, Int.emod_emod]
  rw [← h2]
  push_cast; rfl
end Go.Proofs.YtgdjnohhofbcnaaDoor.RuleM
end
section
namespace Go.Proofs.YtgdjnohhofbcnaaDoor
open Go.RowKit

/-- a post that tells the answer, and that only draws were made -/
def Quiet (v : Value) (w : World) (e : Ending) (w' : World) : Prop := e = .returned v ∧ ∃ m, w' = w.drewN m
theorem Quiet.tells {P : Program} {f : FuncId} {args : Array Value} {w : World} {v : Value} (h : Calls P f args w (Quiet v w)) : Calls P f args w (Tells v w) :=
  h.mono fun _ _ ⟨he, m, hw⟩ => ⟨he, by rw [hw]; exact below_drewN (Below.refl _ _) m⟩
theorem quiet_more {w wx : World} (h : ∃ a, wx = w.drewN a) (m : Nat) : ∃ a, wx.drewN m = w.drewN a := by
  obtain ⟨a, rfl⟩ := h
  exact ⟨a + m, by rw [World.drewN_drewN]⟩
/-- for a quiet region: contracts whose post is Quiet -/
theorem Quiet.add {P : Program} {f : FuncId} {args : Array Value} {w : World} {n : Nat} {v : Value} (h : Calls P f args (w.drewN n) (Quiet v (w.drewN n))) :
    Calls P f args (w.drewN n) fun e w'' => e = .returned v ∧ ∃ m, w'' = w.drewN m :=
  h.mono fun _ _ ⟨he, m, hw⟩ => ⟨he, n + m, by rw [hw, World.drewN_drewN]⟩
theorem Quiet.add2 {P : Program} {f : FuncId} {args : Array Value} {w : World} {a n : Nat} {v : Value} (h : Calls P f args (w.drewN (a + n)) (Quiet v (w.drewN (a + n)))) :
    Calls P f args (w.drewN (a + n)) fun e w'' => e = .returned v ∧ ∃ m, w'' = w.drewN (a + m) :=
  h.mono fun _ _ ⟨he, m, hw⟩ => ⟨he, n + m, by rw [hw, World.drewN_drewN, Nat.add_assoc]⟩
end Go.Proofs.YtgdjnohhofbcnaaDoor
end
section
namespace Go.Proofs.YtgdjnohhofbcnaaDoor
open Go.RowKit

def cI (l : List Int) : List Value := l.map fun x => Value.int .i64 x
theorem cI_length (l : List Int) : (cI l).length = l.length := by simp [cI]
theorem cI_get {l : List Int} {j : Nat} {x : Int} (h : l[j]? = some x) : (cI l)[j]? = some (.int .i64 x) := by simp [cI, h]
theorem cI_app (a b : List Int) : cI (a ++ b) = cI a ++ cI b := by simp [cI]
theorem cI_take (l : List Int) (k : Nat) : cI (l.take k) = (cI l).take k := by simp [cI]
theorem getI {l : List Int} {k : Nat} (h : k < l.length) : ∃ x, l[k]? = some x := ⟨_, List.getElem?_eq_getElem h⟩
theorem ltI {l : List Int} {k : Nat} {x : Int} (h : l[k]? = some x) : k < l.length := (List.getElem?_eq_some_iff.1 h).1

/-- A slice of ints below block B: it reads l. -/
structure IntV (B : Nat) (w : World) (p : Option Addr) (c : Nat) (l : List Int) : Prop where
  le : l.length ≤ c
  cap : c ≤ maxLen
  nil : p = none → c = 0
  cell : l ≠ [] → ∃ b off, p = some ⟨b, off, none⟩ ∧ b < B ∧ ∀ (j : Nat) (x : Int), l[j]? = some x → w.cell? ⟨b, off + j, none⟩ = some (.int .i64 x)
theorem IntV.below {B : Nat} {w w' : World} {p : Option Addr} {c : Nat} {l : List Int} (hb : Below B w w') (h : IntV B w p c l) : IntV B w' p c l :=
  ⟨h.le, h.cap, h.nil, fun hn => by
    obtain ⟨b, off, hp, hlt, hc⟩ := h.cell hn
    exact ⟨b, off, hp, hlt, fun j x hx => (hb.cell (p := ⟨b, off + j, none⟩) hlt).trans (hc j x hx)⟩⟩
theorem IntV.mono {B B' : Nat} {w : World} {p : Option Addr} {c : Nat} {l : List Int} (hB : B ≤ B') (h : IntV B w p c l) : IntV B' w p c l :=
  ⟨h.le, h.cap, h.nil, fun hn => by
    obtain ⟨b, off, hp, hlt, hc⟩ := h.cell hn
    exact ⟨b, off, hp, by omega, hc⟩⟩
theorem IntV.next {w w' : World} {p : Option Addr} {c : Nat} {l : List Int} (hb : Below w.heap.size w w') (h : IntV w.heap.size w p c l) : IntV w'.heap.size w' p c l :=
  (h.below hb).mono hb.size
theorem IntV.take {B : Nat} {w : World} {p : Option Addr} {c : Nat} {l : List Int} (h : IntV B w p c l) (k : Nat) : IntV B w p c (l.take k) :=
  ⟨Nat.le_trans (by rw [List.length_take]; exact Nat.min_le_right _ _) h.le, h.cap, h.nil, fun hn => by
    have hne : l ≠ [] := by rintro rfl; simp at hn
    obtain ⟨b, off, hp, hlt, hc⟩ := h.cell hne
    refine ⟨b, off, hp, hlt, fun j x hx => hc j x ?_⟩
    rw [List.getElem?_take] at hx
    split at hx
    · exact hx
    · cases hx⟩
theorem IntV.nothing (w : World) : IntV w.heap.size w none 0 [] := ⟨Nat.le_refl _, Nat.zero_le _, fun _ => rfl, fun h => absurd rfl h⟩
theorem IntV.empty {B : Nat} {w : World} {p : Option Addr} {c : Nat} (hc : c ≤ maxLen) (hp : p = none → c = 0) : IntV B w p c [] := ⟨Nat.zero_le _, hc, hp, fun h => absurd rfl h⟩
/-- the piece from t on -/
theorem IntV.drop {B : Nat} {w : World} {b off c : Nat} {l : List Int} (h : IntV B w (some ⟨b, off, none⟩) c l) (t : Nat) (ht : t ≤ l.length) : IntV B w (some ⟨b, off + t, none⟩) (c - t) (l.drop t) :=
  ⟨by have := h.le; rw [List.length_drop]; omega, by have := h.cap; omega, (fun e => by cases e), fun hn => by
    have hne : l ≠ [] := by rintro rfl; simp at hn
    obtain ⟨b', off', hp, hlt, hc⟩ := h.cell hne
    obtain ⟨rfl, rfl⟩ : b = b' ∧ off = off' := by simpa using hp
    refine ⟨b, off + t, rfl, hlt, fun j x hx => ?_⟩
    rw [List.getElem?_drop] at hx
    rw [Nat.add_assoc]
    exact hc _ _ hx⟩

/-- A slice of ints that the call owns, in a block from base on: it reads l. -/
def IntO (base : Nat) (w : World) (p : Option Addr) (c : Nat) (l : List Int) : Prop := w.ownsRow base 3 1 (.slice p l.length c) l.length (cI l)
theorem IntO.next {base : Nat} {w w' : World} {p : Option Addr} {c : Nat} {l : List Int} (hb : Below w.heap.size w w') (h : IntO base w p c l) : IntO base w' p c l := ownsRow_below hb h
theorem IntO.base {base base' : Nat} {w : World} {p : Option Addr} {c : Nat} {l : List Int} (hB : base' ≤ base) (h : IntO base w p c l) : IntO base' w p c l := ownsRow_base hB h
theorem IntO.toV {base : Nat} {w : World} {p : Option Addr} {c : Nat} {l : List Int} (h : IntO base w p c l) : IntV w.heap.size w p c l := by
  rcases own_shape h with ⟨hv, h0, _⟩ | ⟨g, cap, hv, hg, hlt, hc, hm, hcl, _⟩
  · obtain ⟨rfl, _, rfl⟩ := by simpa using hv
    exact ⟨by omega, Nat.zero_le _, fun _ => rfl, fun hn => absurd (List.eq_nil_of_length_eq_zero h0) hn⟩
  · obtain ⟨rfl, rfl⟩ : p = some ⟨g, 0, none⟩ ∧ c = cap := by simpa using hv
    refine ⟨hc, hm, (fun e => by cases e), fun _ => ⟨g, 0, rfl, hlt, fun j x hx => ?_⟩⟩
    rw [Nat.zero_add]
    exact (hcl j (ltI hx)).trans (cI_get hx)
theorem IntO.nothing (base : Nat) (w : World) : IntO base w none 0 [] := World.ownsRow_nil _ _ _ _
theorem IntO.slice_own {base : Nat} {w : World} {v : Value} {l : List Int} (h : w.ownsRow base 3 1 v l.length (cI l)) : ∃ p c, v = .slice p l.length c ∧ IntO base w p c l := by
  rcases own_shape h with ⟨rfl, h0, _⟩ | ⟨g, cap, rfl, _⟩
  · obtain rfl := List.eq_nil_of_length_eq_zero h0
    exact ⟨none, 0, rfl, h⟩
  · exact ⟨_, _, rfl, h⟩
/-- a whole block is one own list -/
theorem IntO.of_block {base : Nat} {w : World} {g : Nat} {l : List Int} (hB : base ≤ g) (hm : l.length ≤ maxLen) (h : w.heap[g]? = some (.cells (cI l).toArray 3 (0, 0))) : IntO base w (some ⟨g, 0, none⟩) l.length l :=
  ⟨by rw [cI_length, Nat.mul_one], Or.inr ⟨g, l.length, _, rfl, hB, h, Nat.le_refl _, hm, by simp [cI], by rw [List.toList_toArray, List.take_of_length_le (by rw [cI_length]; omega)]⟩⟩

/-- new ints made by a call, behind the world w -/
def IntPost (w : World) (l : List Int) (e : Ending) (w' : World) : Prop :=
  ∃ p c, e = .returned (.slice p l.length c) ∧ IntO w.heap.size w' p c l ∧ Below w.heap.size w w'
/-- the same beside no error -/
def IntOk (w : World) (l : List Int) (e : Ending) (w' : World) : Prop :=
  ∃ p c, e = .returned (.tuple #[.slice p l.length c, .nilIface]) ∧ IntO w.heap.size w' p c l ∧ Below w.heap.size w w'

/-- a slice literal of ints, just laid -/
theorem IntV.laid {w : World} (l : List Int) (cs : Array Value) (t : TypeId) (hc : cs.toList = cI l) (hl : l.length ≤ 1000) :
    IntV (w.alloc (.cells cs t)).heap.size (w.alloc (.cells cs t)) (some ⟨w.heap.size, 0, none⟩) l.length l := by
  refine ⟨Nat.le_refl _, by unfold maxLen; omega, (fun h => by cases h), fun _ => ⟨w.heap.size, 0, rfl, by simp, fun j x hx => ?_⟩⟩
  rw [Nat.zero_add, cell_alloc_row, ← Array.getElem?_toList, hc]
  exact cI_get hx

def sameI (l k : List Int) : Bool := decide (l = k)
theorem sameI_self (l : List Int) : sameI l l = true := by simp [sameI]
theorem sameI_eq {l k : List Int} (h : l = k) : sameI l k = true := by simp [sameI, h]
theorem sameI_ne {l k : List Int} (h : l ≠ k) : sameI l k = false := by simp [sameI, h]
theorem take_alike {l k : List Int} {j : Nat} {x : Int} (hl : l[j]? = some x) (hk : k[j]? = some x) (h : l.take j = k.take j) : l.take (j + 1) = k.take (j + 1) := by
  rw [List.take_add_one, List.take_add_one, hl, hk, h]

set_option maxHeartbeats 1000000 in
theorem ints_q (p q : Option Addr) (n m c d : Nat) (l k : List Int) (w : World) (hn : n = l.length) (hm : m = k.length) (h : IntV w.heap.size w p c l) (h' : IntV w.heap.size w q d k) :
    Calls Tryd.prog 18 #[.slice p n c, .slice q m d] w (Quiet (.bool (sameI l k)) w) := by
  subst hn hm
  have hcap := h.cap
  have hle := h.le
  have hdle := h'.le
  have hdcap := h'.cap
  unfold maxLen at hcap hdcap
  have H := Lib.hid (And.intro h h')
  clear h h'
  by_cases hlen : l.length = k.length
  · obtain ⟨n, hn⟩ : ∃ n, n = l.length := ⟨_, rfl⟩
    rw [← hlen, ← hn]
    rw [← hn] at hle
    rw [← hlen, ← hn] at hdle
    have HN := Lib.hid (And.intro hn hlen)
    clear hn hlen
    go_enter Tryd.func18, Tryd.ntmps18
    go_wp2_with fail
    go_loopw [5] (fun v wx => ∃ j : Nat, j ≤ n ∧ v = .int .i64 j ∧ Hid (∃ a, wx = w.drewN a) ∧ Hid (l.take j = k.take j)) (fun i _ => n - (intOf i).toNat)
    case atStart => exact ⟨0, Nat.zero_le _, rfl, ⟨0, rfl⟩, by show _ = _; simp⟩
    case round =>
      obtain ⟨j, hj, rfl, hbx, ht⟩ := hrel
      by_cases hlt : j < n
      · have hnl := HN.out.1
        have hkl := HN.out.2
        have hne : l ≠ [] := by rintro rfl; simp at hnl; omega
        have hne' : k ≠ [] := by rintro rfl; simp at hkl; simp [hkl] at hnl; omega
        have hbw : Below w.heap.size w wr := hbx.out.elim fun a e => e ▸ below_drewN (Below.refl _ _) a
        obtain ⟨b, off, rfl, hb, hc⟩ := (H.out.1.below hbw).cell hne
        obtain ⟨b', off', rfl, hb', hc'⟩ := (H.out.2.below hbw).cell hne'
        obtain ⟨x, hx⟩ := getI (l := l) (k := j) (by omega)
        obtain ⟨y, hy⟩ := getI (l := k) (k := j) (by omega)
        have h1 := hc j x hx
        have h2 := hc' j y hy
        have HX := Lib.hid (And.intro hx hy)
        clear hbw hc hc' hx hy hne hne' hnl hkl
        by_cases hxy : x = y
        · subst hxy
          go_wp2_with fail
          go_quiet (fail)
          go_wp2_with fail
          go_roundw
          case rel => exact ⟨j + 1, by omega, by go_num, quiet_more hbx.out _, take_alike HX.out.1 HX.out.2 ht.out⟩
          case measure => simp [intOf]; omega
        · have hne1 : ((x : Int) == (y : Int)) = false := by simpa using hxy
          have hs : sameI l k = false := sameI_ne (by rintro rfl; have := HX.out; rw [this.1] at this; exact hxy (Option.some.inj this.2))
          have HS := Lib.hid hs
          clear hs
          go_wp2_with fail
          go_quiet (fail)
          go_wp2_with fail
          go_ret
          exact ⟨by rw [HS.out]; rfl, quiet_more hbx.out _⟩
      · obtain rfl : j = n := by omega
        have hs : sameI l k = true := sameI_eq (by
          have e := ht.out
          have e1 := HN.out
          rwa [e1.1, List.take_length, e1.2, List.take_length] at e)
        have HS := Lib.hid hs
        clear hs
        go_wp2_with fail
        go_ret
        exact ⟨by rw [HS.out]; rfl, hbx.out⟩
  · have hs : sameI l k = false := sameI_ne (by rintro rfl; exact hlen rfl)
    have hne1 : ((l.length : Int) == (k.length : Int)) = false := by rw [beq_eq_false_iff_ne]; omega
    have HS := Lib.hid hs
    clear hs
    go_enter Tryd.func18, Tryd.ntmps18
    go_wp2_with fail
    go_ret
    exact ⟨by rw [HS.out]; rfl, 0, rfl⟩
theorem ints_any (p q : Option Addr) (n m c d : Nat) (l k : List Int) (w : World) (hn : n = l.length) (hm : m = k.length) (h : IntV w.heap.size w p c l) (h' : IntV w.heap.size w q d k) :
    Calls Tryd.prog 18 #[.slice p n c, .slice q m d] w (Tells (.bool (sameI l k)) w) := Quiet.tells (ints_q p q n m c d l k w hn hm h h')
end Go.Proofs.YtgdjnohhofbcnaaDoor
end
