/- Closed facts on this program's errors for the library's errors.Is and errors.As, and the error trees: each fact holds for every value and world it names.
errors.Is by its contract: of any error tree and any target that is a pointer of one of the two kinds, it finds just what the tree holds, and leaves old memory alone.
Closed facts and small laws on the entries that errors.As meets, at a target that is a pointer to a *api.Fault.
errors.is and errors.Is by their contracts: of any error tree that lies in memory and any target that is a pointer of one of the two kinds.
errors.as and errors.As by their contracts, at a target that is a pointer to a *api.Fault: the first Fault of the tree is stored, or none is found and old memory stays.
Package fault by its contracts, first part: New, Under, numbered, and the two functions that ask errors.Is and errors.As behind a deferred recover.
What the statements ask of errors: edenraw.Root, edenraw.New and edenraw.Is, by contracts.
What every walk of ours stands on: worlds below, rows that the call owns, slices that read a list of values.
What the program's own errors look like: one Fault of a package, with its place, over one of api's errors.
An error told by one package after another: a chain of Faults over api's error.

Plain mathematics of sums of lists of digits, step by step; no part of the program.
Plain mathematics of products, of a number times a limb, of division by a limb, and of the order; no part of the program.
Package nat by its contracts, first part: trim, sign, Cmp, and the tests of the statements.
Package nat by its contracts, second part: Cmp, Add32, raise, Sum, Add.
Package nat by its contracts, third part: raise, Sum, Add. -/
import Derived.Test.YtfgoflaeclfggaaGreatDoorProg
import Derived.WalkKit
import Derived.LaidEql
import Derived.Stop.Asserts
import Derived.RowKitTokens
import Derived.Deep.LoopGhost
import Derived.Lib.Hide
import Derived.Recover
import Derived.Defers
import Derived.Deep.RegionWith
import Derived.Deep.DeepCutAuto
import Derived.Laws.Rows
import Derived.Outline
import Derived.WalkSmall
import Derived.Deep.QuietTactic
import Derived.BigQuiet
import Derived.Lib.QuietBelow
import Derived.Laws.AppendOwn
section
namespace Go.Proofs.YtfgoflaeclfggaaGreatDoor
open Go.RowKit Go.Extern.Stop Go.Stop Go.Extern

/-- An error as this program makes it: no error, a pointer to an errorString, a Fault (with its address), and the law's foreign errors. -/
inductive Tree where
  | nil : Tree
  | leaf (a : Addr) : Tree
  | fault (b : Nat) (op : ByteArray) (pl : Int) (t : Tree) : Tree

namespace Tree
def val : Tree → Value
  | nil => .nilIface
  | leaf a => .iface 203 (.pointer (some a))
  | fault b _ _ _ => .iface 98 (.pointer (some ⟨b, 0, none⟩))

/-- The tree lies in the world: each errorString's and each Fault's block is there. -/
def lies (w : World) : Tree → Prop
  | nil => True
  | leaf a => ∃ c t, w.heap[a.block]? = some (.cells c t (0, 0))
  | fault b op pl t => w.heap[b]? = some (.cells #[.string op, .int .i64 pl, t.val] 102 (0, 0)) ∧ t.lies w ∧ t ≠ nil

def isNil : Tree → Bool
  | nil => true
  | _ => false

/-- Does errors.Is find the pointer p of the dynamic type T? -/
def hits (T : Nat) (p : Addr) : Tree → Bool
  | nil => false
  | leaf a => decide (T = 203 ∧ a = p)
  | fault b _ _ t => decide (T = 98 ∧ (⟨b, 0, none⟩ : Addr) = p) || t.hits T p

/-- The first Fault that errors.As finds: its block. -/
def first : Tree → Option Nat
  | nil => none
  | leaf _ => none
  | fault b _ _ _ => some b

def size : Tree → Nat
  | nil => 1
  | leaf _ => 1
  | fault _ _ _ t => t.size + 1
end Tree

/-- What is below stays: the tree lies in the later world, too. -/
theorem heap_lt {w : World} {b : Nat} {o : Obj} (h : w.heap[b]? = some o) : b < w.heap.size := by
  rcases Nat.lt_or_ge b w.heap.size with k | k
  · exact k
  · simp [Array.getElem?_eq_none k] at h
theorem Tree.lies_below {w w' : World} (hb : Below w.heap.size w w') : ∀ {t : Tree}, t.lies w → t.lies w'
  | .nil, _ => True.intro
  | .leaf _, ⟨c, t, h⟩ => ⟨c, t, (hb.block _ (heap_lt h)).trans h⟩
  | .fault _ _ _ t, ⟨h, ht, hn⟩ => ⟨(hb.block _ (heap_lt h)).trans h, Tree.lies_below hb (t := t) ht, hn⟩
theorem Tree.val_isNil (t : Tree) : t.isNil = true → t = .nil := by cases t <;> simp [Tree.isNil]

theorem Tree.val_shape (t : Tree) : t.val = .nilIface ∨ ∃ T x, t.val = .iface T x := by
  cases t
  · exact Or.inl rfl
  all_goals exact Or.inr ⟨_, _, rfl⟩
theorem Tree.val_held {t : Tree} (h : t ≠ .nil) : ∃ T x, t.val = .iface T x := by
  rcases t.val_shape with k | k
  · cases t <;> first | exact absurd rfl h | cases k
  · exact k

/-! ### closed facts -/
theorem isComp94 : (Tryz.prog.info? 203).map (·.comparable) = some true := by kernel_rfl
theorem isComp44 : (Tryz.prog.info? 98).map (·.comparable) = some true := by kernel_rfl
theorem isSize96 : (Tryz.prog.info? 224).map (·.size) = some 1 := by kernel_rfl
theorem isSize48 : (Tryz.prog.info? 102).map (·.size) = some 3 := by kernel_rfl
theorem typeOf94 (v : Value) (w : World) : (ReflectliteType.typeOf #[.iface 203 v]).run Tryz.prog w = .ok (.iface 169 (.agg #[.pointer (some ⟨17, 203, none⟩)])) w := by kernel_rfl
theorem typeOf44 (v : Value) (w : World) : (ReflectliteType.typeOf #[.iface 98 v]).run Tryz.prog w = .ok (.iface 169 (.agg #[.pointer (some ⟨17, 98, none⟩)])) w := by kernel_rfl
theorem comparable94 (w : World) : (callFunc 190 #[.agg #[.pointer (some ⟨17, 203, none⟩)]]).run Tryz.prog w = .ok (Next.value (.bool true)) w := by kernel_rfl
theorem comparable44 (w : World) : (callFunc 190 #[.agg #[.pointer (some ⟨17, 98, none⟩)]]).run Tryz.prog w = .ok (Next.value (.bool true)) w := by kernel_rfl
theorem methodComparable (v : Value) (w : World) : (Go.method 336 169 v "Comparable").run Tryz.prog w = .ok (190, v) w := by kernel_rfl
theorem noIs94 (v : Value) (x : TypeId) (w : World) : (Instr.typeAssert (.iface 203 v) x 171 true).run Tryz.prog w = .ok (.tuple #[.nilIface, .bool false]) w := run_typeAssert_lacksB Tryz.underlying171 (by kernel_rfl) (by kernel_rfl) v x w
theorem noIs44 (v : Value) (x : TypeId) (w : World) : (Instr.typeAssert (.iface 98 v) x 171 true).run Tryz.prog w = .ok (.tuple #[.nilIface, .bool false]) w := run_typeAssert_lacksB Tryz.underlying171 (by kernel_rfl) (by kernel_rfl) v x w
theorem noU94 (v : Value) (x : TypeId) (w : World) : (Instr.typeAssert (.iface 203 v) x 174 true).run Tryz.prog w = .ok (.tuple #[.nilIface, .bool false]) w := run_typeAssert_lacksB Tryz.underlying174 (by kernel_rfl) (by kernel_rfl) v x w
theorem hasU44 (v : Value) (x : TypeId) (w : World) : (Instr.typeAssert (.iface 98 v) x 174 true).run Tryz.prog w = .ok (.tuple #[.iface 98 v, .bool true]) w := run_typeAssert_hasB Tryz.underlying174 (by kernel_rfl) v x w
theorem noV94 (v : Value) (x : TypeId) (w : World) : (Instr.typeAssert (.iface 203 v) x 176 true).run Tryz.prog w = .ok (.tuple #[.nilIface, .bool false]) w := run_typeAssert_lacksB Tryz.underlying176 (by kernel_rfl) (by kernel_rfl) v x w
theorem methodU44 (v : Value) (w : World) : (Go.method 336 98 v "Unwrap").run Tryz.prog w = .ok (184, v) w := by kernel_rfl
theorem noIsN (x : TypeId) (w : World) : (Instr.typeAssert .nilIface x 171 true).run Tryz.prog w = .ok (.tuple #[.nilIface, .bool false]) w := by kernel_rfl
theorem noUN (x : TypeId) (w : World) : (Instr.typeAssert .nilIface x 174 true).run Tryz.prog w = .ok (.tuple #[.nilIface, .bool false]) w := by kernel_rfl
theorem noVN (x : TypeId) (w : World) : (Instr.typeAssert .nilIface x 176 true).run Tryz.prog w = .ok (.tuple #[.nilIface, .bool false]) w := by kernel_rfl
end Go.Proofs.YtfgoflaeclfggaaGreatDoor
end
section
namespace Go.Proofs.YtfgoflaeclfggaaGreatDoor
open Go.RowKit Go.Extern.Stop Go.Stop Go.Extern

/-- What holds of a target: its block is there. -/
def Target (w : World) (p : Addr) : Prop := ∃ c t, w.heap[p.block]? = some (.cells c t (0, 0))
theorem Target.below {w w' : World} {p : Addr} (hb : Below w.heap.size w w') : Target w p → Target w' p := fun ⟨c, t, h⟩ => ⟨c, t, (hb.block _ (heap_lt h)).trans h⟩

theorem unwrap44 (b : Nat) (op : ByteArray) (pl : Int) (v : Value) (w : World) (h : w.heap[b]? = some (.cells #[.string op, .int .i64 pl, v] 102 (0, 0))) :
    Calls Tryz.prog 184 #[.pointer (some ⟨b, 0, none⟩)] w fun e w' => e = .returned v ∧ w = w' := by
  have hc : w.cell? ⟨b, 2, none⟩ = some v := by simp [World.cell?, h]
  go_enter Tryz.func184, Tryz.ntmps184
  go_wp2
  go_ret
  exact ⟨rfl, rfl⟩
/-- What the round of errors.is needs of the comparison with the target. -/
theorem eql_hit (w : World) (T : Nat) (a : Addr) (hT : T = 203 ∨ T = 98) :
    (binOp .eql 45 (.iface T (.pointer (some a))) (.iface T (.pointer (some a)))).run Tryz.prog w = .ok (.bool true) w := by
  rcases hT with rfl | rfl
  · obtain ⟨i, hi, hcmp⟩ := Option.map_eq_some_iff.1 isComp94
    obtain ⟨j, hj, hjs⟩ := Option.map_eq_some_iff.1 isSize96
    exact run_eql_iface_ptr_same (P := Tryz.prog) w a Tryz.underlying45 Tryz.underlying203 hi hcmp hj
  · obtain ⟨i, hi, hcmp⟩ := Option.map_eq_some_iff.1 isComp44
    obtain ⟨j, hj, hjs⟩ := Option.map_eq_some_iff.1 isSize48
    exact run_eql_iface_ptr_same (P := Tryz.prog) w a Tryz.underlying45 Tryz.underlying98 hi hcmp hj
theorem eql_miss (w : World) (T : Nat) (a p : Addr) (hT : T = 203 ∨ T = 98) (hne : a ≠ p) (ha : Target w a) (hp : Target w p) :
    (binOp .eql 45 (.iface T (.pointer (some a))) (.iface T (.pointer (some p)))).run Tryz.prog w = .ok (.bool false) w := by
  obtain ⟨c, t, ha⟩ := ha
  obtain ⟨c', t', hp⟩ := hp
  rcases hT with rfl | rfl
  · obtain ⟨i, hi, hcmp⟩ := Option.map_eq_some_iff.1 isComp94
    obtain ⟨j, hj, hjs⟩ := Option.map_eq_some_iff.1 isSize96
    exact run_eql_iface_ptr_other (P := Tryz.prog) w Tryz.underlying45 Tryz.underlying203 hi hcmp hj (by rw [hjs]; decide) hne ha hp
  · obtain ⟨i, hi, hcmp⟩ := Option.map_eq_some_iff.1 isComp44
    obtain ⟨j, hj, hjs⟩ := Option.map_eq_some_iff.1 isSize48
    exact run_eql_iface_ptr_other (P := Tryz.prog) w Tryz.underlying45 Tryz.underlying98 hi hcmp hj (by rw [hjs]; decide) hne ha hp
theorem eql_types (w : World) (T U : Nat) (x y : Value) (hne : T ≠ U) :
    (binOp .eql 45 (.iface T x) (.iface U y)).run Tryz.prog w = .ok (.bool false) w :=
  run_eql_iface_types (P := Tryz.prog) T U x y Tryz.underlying45 hne w
theorem eql_nil (w : World) (T : Nat) (x : Value) :
    (binOp .eql 45 .nilIface (.iface T x)).run Tryz.prog w = .ok (.bool false) w :=
  run_eql_iface_nil_left (P := Tryz.prog) w T x Tryz.underlying45

/-- Whether the error at the tree's head is the target itself. -/
def Tree.atHead (T : Nat) (p : Addr) : Tree → Bool
  | .leaf a => decide (T = 203 ∧ a = p)
  | .fault b _ _ _ => decide (T = 98 ∧ (⟨b, 0, none⟩ : Addr) = p)
  | _ => false
theorem eql_head (w : World) (T : Nat) (p : Addr) (t : Tree) (hT : T = 203 ∨ T = 98) (hl : t.lies w) (hp : Target w p) :
    (binOp .eql 45 t.val (.iface T (.pointer (some p)))).run Tryz.prog w = .ok (.bool (t.atHead T p)) w := by
  cases t with
  | nil => exact eql_nil w T _
  | leaf a =>
    by_cases h : T = 203
    · subst h
      by_cases k : a = p
      · subst k
        rw [show (Tree.leaf a).atHead 203 a = true from decide_eq_true ⟨rfl, rfl⟩]
        exact eql_hit w _ a hT
      · rw [show (Tree.leaf a).atHead 203 p = false from decide_eq_false fun e => k e.2]
        exact eql_miss w _ a p hT k hl hp
    · rw [show (Tree.leaf a).atHead T p = false from decide_eq_false fun e => h e.1]
      exact eql_types w _ T _ _ (Ne.symm h)
  | fault b op pl t =>
    by_cases h : T = 98
    · subst h
      by_cases k : (⟨b, 0, none⟩ : Addr) = p
      · subst k
        rw [show (Tree.fault b op pl t).atHead 98 ⟨b, 0, none⟩ = true from decide_eq_true ⟨rfl, rfl⟩]
        exact eql_hit w _ ⟨b, 0, none⟩ hT
      · rw [show (Tree.fault b op pl t).atHead 98 p = false from decide_eq_false fun e => k e.2]
        exact eql_miss w _ ⟨b, 0, none⟩ p hT k ⟨_, _, hl.1⟩ hp
    · rw [show (Tree.fault b op pl t).atHead T p = false from decide_eq_false fun e => h e.1]
      exact eql_types w _ T _ _ (Ne.symm h)
end Go.Proofs.YtfgoflaeclfggaaGreatDoor
end
section
namespace Go.Proofs.YtfgoflaeclfggaaGreatDoor
open Go.RowKit Go.Extern.Stop Go.Stop Go.Extern

theorem asValueOf46 (t : Addr) (w : World) : (callFunc 116 #[.iface 100 (.pointer (some t))]).run Tryz.prog w
    = .ok (Next.value (.agg #[.pointer (some ⟨17, 100, none⟩), .pointer (some ⟨w.heap.size, 0, none⟩), .int .u64 150])) (w.alloc (.cells #[.pointer (some t)] 100)) := by kernel_rfl
theorem asValueOf44 (t : Addr) (w : World) : (callFunc 116 #[.iface 98 (.pointer (some t))]).run Tryz.prog w
    = .ok (Next.value (.agg #[.pointer (some ⟨17, 98, none⟩), .pointer (some ⟨w.heap.size, 0, none⟩), .int .u64 150])) (w.alloc (.cells #[.pointer (some t)] 98)) := by kernel_rfl
theorem asType46 (a : Addr) (w : World) : (callFunc 117 #[.agg #[.pointer (some ⟨17, 100, none⟩), .pointer (some a), .int .u64 150]]).run Tryz.prog w
    = .ok (Next.value (.iface 169 (.agg #[.pointer (some ⟨17, 100, none⟩)]))) w := by kernel_rfl
theorem asMethodKind (h : Value) (w : World) : (Go.method 336 169 (.agg #[h]) "Kind").run Tryz.prog w = .ok (180, h) w := by kernel_rfl
theorem asMethodElem (h : Value) (w : World) : (Go.method 336 169 (.agg #[h]) "Elem").run Tryz.prog w = .ok (191, .agg #[h]) w := by kernel_rfl
theorem asMethodImplements (h : Value) (w : World) : (Go.method 336 169 (.agg #[h]) "Implements").run Tryz.prog w = .ok (192, .agg #[h]) w := by kernel_rfl
theorem asMethodAssignableTo (h : Value) (w : World) : (Go.method 336 169 (.agg #[h]) "AssignableTo").run Tryz.prog w = .ok (189, .agg #[h]) w := by kernel_rfl
theorem asKind46 (w : World) : (callFunc 180 #[.pointer (some ⟨17, 100, none⟩)]).run Tryz.prog w = .ok (Next.value (.int .u8 22)) w := by kernel_rfl
theorem asKind44 (w : World) : (callFunc 180 #[.pointer (some ⟨17, 98, none⟩)]).run Tryz.prog w = .ok (Next.value (.int .u8 22)) w := by kernel_rfl
theorem asElem46 (w : World) : (callFunc 191 #[.agg #[.pointer (some ⟨17, 100, none⟩)]]).run Tryz.prog w = .ok (Next.value (.iface 169 (.agg #[.pointer (some ⟨17, 98, none⟩)]))) w := by kernel_rfl
theorem asImplements (w : World) : (callFunc 192 #[.agg #[.pointer (some ⟨17, 98, none⟩)], .iface 169 (.agg #[.pointer (some ⟨17, 45, none⟩)])]).run Tryz.prog w = .ok (Next.value (.bool true)) w := by kernel_rfl
theorem asTypeOf44 (v : Value) (w : World) : (callFunc 114 #[.iface 98 v]).run Tryz.prog w = .ok (Next.value (.iface 169 (.agg #[.pointer (some ⟨17, 98, none⟩)]))) w := by kernel_rfl
theorem asTypeOf94 (v : Value) (w : World) : (callFunc 114 #[.iface 203 v]).run Tryz.prog w = .ok (Next.value (.iface 169 (.agg #[.pointer (some ⟨17, 203, none⟩)]))) w := by kernel_rfl
theorem asAssignable44 (w : World) : (callFunc 189 #[.agg #[.pointer (some ⟨17, 98, none⟩)], .iface 169 (.agg #[.pointer (some ⟨17, 98, none⟩)])]).run Tryz.prog w = .ok (Next.value (.bool true)) w := by kernel_rfl
theorem asAssignable94 (w : World) : (callFunc 189 #[.agg #[.pointer (some ⟨17, 203, none⟩)], .iface 169 (.agg #[.pointer (some ⟨17, 98, none⟩)])]).run Tryz.prog w = .ok (Next.value (.bool false)) w := by kernel_rfl
theorem noAs94 (v : Value) (x : TypeId) (w : World) : (Instr.typeAssert (.iface 203 v) x 181 true).run Tryz.prog w = .ok (.tuple #[.nilIface, .bool false]) w := run_typeAssert_lacksB Tryz.underlying181 (by kernel_rfl) (by kernel_rfl) v x w

/-! ### the entries that read or write memory -/
theorem parts46 (a : Addr) (w : World) : (ReflectliteValue.parts (.agg #[.pointer (some ⟨17, 100, none⟩), .pointer (some a), .int .u64 150])).run Tryz.prog w = .ok (some (100, a, 150)) w := by kernel_rfl
theorem asIsNil (a p : Addr) (W : World) (ha : W.cell? a = some (.pointer (some p))) :
    (callFunc 118 #[.agg #[.pointer (some ⟨17, 100, none⟩), .pointer (some a), .int .u64 150]]).run Tryz.prog W = .ok (Next.value (.bool false)) W := by
  rw [@run_callFunc_extern Tryz.prog 118 _ (ReflectliteValue.method (ReflectliteValue.valueError "reflectlite.Value.IsNil" 0) ReflectliteValue.isNil) Tryz.func118 (by kernel_rfl) (by kernel_rfl) (by kernel_rfl) (by kernel_rfl)]
  refine congrArg (fun r => Result.andThen r fun v w' => .ok (Next.value v) w') (?_ : _ = Result.ok (.bool false) W)
  change Sem.run Tryz.prog (ReflectliteValue.parts _ >>= _) W = _
  simp only [Sem.run_bind, Array.getLit, List.getElem_toArray, List.getElem_cons_zero, parts46, Result.andThen]
  simp [ReflectliteValue.isNil, loadVar, isAgg, underlying, Tryz.underlying100, ha, Result.andThen]
theorem elemOf46 (w : World) : (Rtype.elem? 100).run Tryz.prog w = .ok (some 98) w := by kernel_rfl
theorem mk44 (p : Addr) (w : World) : (ReflectliteValue.mk 98 p ReflectliteValue.flagAddr).run Tryz.prog w = .ok (.agg #[.pointer (some ⟨17, 98, none⟩), .pointer (some p), .int .u64 406]) w := by kernel_rfl
theorem asElemV (a p : Addr) (W : World) (ha : W.cell? a = some (.pointer (some p))) :
    (callFunc 144 #[.agg #[.pointer (some ⟨17, 100, none⟩), .pointer (some a), .int .u64 150]]).run Tryz.prog W
      = .ok (Next.value (.agg #[.pointer (some ⟨17, 98, none⟩), .pointer (some p), .int .u64 406])) W := by
  rw [@run_callFunc_extern Tryz.prog 144 _ (ReflectliteValue.method (ReflectliteValue.valueError "reflectlite.Value.Elem" 0) ReflectliteValue.elem) Tryz.func144 (by kernel_rfl) (by kernel_rfl) (by kernel_rfl) (by kernel_rfl)]
  refine congrArg (fun r => Result.andThen r fun v w' => .ok (Next.value v) w') (?_ : _ = Result.ok (.agg #[.pointer (some ⟨17, 98, none⟩), .pointer (some p), .int .u64 406]) W)
  change Sem.run Tryz.prog (ReflectliteValue.parts _ >>= _) W = _
  simp only [Sem.run_bind, Array.getLit, List.getElem_toArray, List.getElem_cons_zero, parts46, Result.andThen]
  simp [ReflectliteValue.elem, loadVar, isAgg, underlying, Tryz.underlying100, ha, Result.andThen, elemOf46, mk44]
theorem parts44a (a : Addr) (w : World) : (ReflectliteValue.parts (.agg #[.pointer (some ⟨17, 98, none⟩), .pointer (some a), .int .u64 406])).run Tryz.prog w = .ok (some (98, a, 406)) w := by kernel_rfl
theorem parts44 (a : Addr) (w : World) : (ReflectliteValue.parts (.agg #[.pointer (some ⟨17, 98, none⟩), .pointer (some a), .int .u64 150])).run Tryz.prog w = .ok (some (98, a, 150)) w := by kernel_rfl
theorem direct44 (w : World) : (Rtype.directlyAssignable 98 98).run Tryz.prog w = .ok true w := by kernel_rfl
theorem asSet (ta b e : Addr) (old : Value) (W : World) (hb : W.cell? b = some (.pointer (some e))) (ht : W.cell? ta = some old) (hf : W.frozen? ta = false) :
    (callFunc 145 #[.agg #[.pointer (some ⟨17, 98, none⟩), .pointer (some ta), .int .u64 406], .agg #[.pointer (some ⟨17, 98, none⟩), .pointer (some b), .int .u64 150]]).run Tryz.prog W
      = .ok (Next.value (.tuple #[])) (W.setCell ta (.pointer (some e))) := by
  rw [@run_callFunc_extern Tryz.prog 145 _ ReflectliteValue.set Tryz.func145 (by kernel_rfl) (by kernel_rfl) (by kernel_rfl) (by kernel_rfl)]
  refine congrArg (fun r => Result.andThen r fun v w' => .ok (Next.value v) w') (?_ : _ = Result.ok (.tuple #[]) (W.setCell ta (.pointer (some e))))
  change Sem.run Tryz.prog (ReflectliteValue.parts _ >>= _) W = _
  simp only [Sem.run_bind, Array.getLit, List.getElem_toArray, List.getElem_cons_zero, List.getElem_cons_succ, parts44a, parts44, Result.andThen]
  simp [ReflectliteValue.flagAddr, loadVar, isAgg, underlying, Tryz.underlying98, hb, Result.andThen, direct44, storeVar, Value.cells, storeCells, Addr.add]
  rw [run_store Tryz.prog W ta _ _ (by rfl)]
  simp [ht, hf]
end Go.Proofs.YtfgoflaeclfggaaGreatDoor
end
section
namespace Go.Proofs.YtfgoflaeclfggaaGreatDoor
open Go.RowKit Go.Extern.Stop Go.Stop Go.Extern

theorem eql_isNil (t : Tree) (w : World) : (binOp .eql 45 t.val .nilIface).run Tryz.prog w = .ok (.bool t.isNil) w := by
  cases t <;> kernel_rfl

theorem guard_isNil (t : Tree) (n : Nat) (w : World) : (eqGuard .eql 45 (.tmp n) (.const .nilIface) t.val .nilIface).run Tryz.prog w = .ok () w := by
  cases t <;> kernel_rfl

/-- What the loop of errors.is hands from round to round. -/
def IsRel (w : World) (T : Nat) (p : Addr) (n : Nat) (t : Tree) (k : Nat) (v : Value) (wr : World) : Prop :=
  ∃ t' : Tree, v = t'.val ∧ t'.lies wr ∧ Target wr p ∧ t'.size ≤ k ∧ k ≤ n ∧ t'.hits T p = t.hits T p ∧ Below w.heap.size w wr

def IsPost (w : World) (T : Nat) (p : Addr) (t : Tree) (e : Ending) (w' : World) : Prop := e = .returned (.bool (t.hits T p)) ∧ Below w.heap.size w w'

theorem IsRel.next {w : World} {T : Nat} {p : Addr} {n : Nat} {t : Tree} {k k' : Nat} {wr : World} {t' : Tree} (h1 : t'.lies wr) (h2 : Target wr p) (h3 : t'.size ≤ k') (h4 : k' < k) (h5 : k ≤ n) (h6 : t'.hits T p = t.hits T p) (h7 : Below w.heap.size w wr) :
    IsRel w T p n t k' t'.val wr := ⟨t', rfl, h1, h2, h3, by omega, h6, h7⟩

set_option maxRecDepth 100000 in
set_option maxHeartbeats 1000000 in
theorem is_any (n : Nat) : ∀ (t : Tree) (w : World) (T : Nat) (p : Addr), t.size ≤ n → t.lies w → Target w p → (T = 203 ∨ T = 98) →
    Calls Tryz.prog 115 #[t.val, .iface T (.pointer (some p)), .bool true] w (IsPost w T p t) := by
  induction n with
  | zero =>
    intro t w T p hn
    cases t <;> simp [Tree.size] at hn
  | succ n ih =>
    intro t w T p hn hl hp hT
    go_enter Tryz.func115, Tryz.ntmps115
    go_wp2
    go_loopg [0] (n + 1) (fun k v wr => IsRel w T p (n + 1) t k v wr)
    case atStart => exact ⟨t, rfl, hl, hp, hn, Nat.le_refl _, rfl, Below.refl _ _⟩
    case round =>
      obtain ⟨t', rfl, hl', hp', hk, hkn, hh, hb⟩ := hrel
      have he := eql_head wr T p t' hT hl' hp'
      have HH := Lib.hid hh
      clear hh hl hp hn
      cases t' with
      | nil =>
        have hv : Tree.nil.val = .nilIface := rfl
        rw [hv] at he
        have ha : Tree.nil.atHead T p = false := rfl
        rw [ha] at he
        clear ha
        have f1 := noIsN
        have f2 := noUN
        have f3 := noVN
        go_wp2
        go_ret
        exact ⟨congrArg (fun b => Ending.returned (.bool b)) HH.out, hb⟩
      | leaf a =>
        have hv : (Tree.leaf a).val = .iface 203 (.pointer (some a)) := rfl
        rw [hv] at he
        have f1 := noIs94
        have f2 := noU94
        have f3 := noV94
        have e1 : (Tree.leaf a).hits T p = (Tree.leaf a).atHead T p := rfl
        rw [e1] at HH
        by_cases ha : (Tree.leaf a).atHead T p = true
        · rw [ha] at HH he
          clear ha
          go_wp2
          go_ret
          exact ⟨congrArg (fun b => Ending.returned (.bool b)) HH.out, hb⟩
        · have ha : (Tree.leaf a).atHead T p = false := by simpa using ha
          rw [ha] at HH he
          clear ha
          go_wp2
          go_ret
          exact ⟨congrArg (fun b => Ending.returned (.bool b)) HH.out, hb⟩
      | fault b op pl t1 =>
        have hv : (Tree.fault b op pl t1).val = .iface 98 (.pointer (some ⟨b, 0, none⟩)) := rfl
        rw [hv] at he
        have f1 := noIs44
        have f2 := hasU44
        have mU := methodU44
        have hn1 := eql_isNil t1
        have hn2 := guard_isNil t1
        have hnn : t1.isNil = false := by
          have := hl'.2.2
          cases t1 <;> first | rfl | exact absurd rfl this
        have e1 : (Tree.fault b op pl t1).hits T p = ((Tree.fault b op pl t1).atHead T p || t1.hits T p) := rfl
        rw [e1] at HH
        by_cases ha : (Tree.fault b op pl t1).atHead T p = true
        · rw [ha] at HH he
          clear ha
          go_wp2
          go_ret
          exact ⟨congrArg (fun b => Ending.returned (.bool b)) HH.out, hb⟩
        · have ha : (Tree.fault b op pl t1).atHead T p = false := by simpa using ha
          rw [ha] at HH he
          clear ha
          go_wp2_with (go_at_call 184; refine (unwrap44 b op pl t1.val _ hl'.1).mono ?_; rintro e w' ⟨rfl, rfl⟩)
          go_roundg t1.size
          case rel => exact IsRel.next hl'.2.1 hp' (Nat.le_refl _) (by simp only [Tree.size] at hk; omega) hkn (by rw [← HH.out]; simp) hb
          case measure => simp only [Tree.size] at hk; omega

/-- errors.Is: a nil error; any other. -/
theorem errorsIs (t : Tree) (w : World) (T : Nat) (p : Addr) (hl : t.lies w) (hp : Target w p) (hT : T = 203 ∨ T = 98) :
    Calls Tryz.prog 64 #[t.val, .iface T (.pointer (some p))] w (IsPost w T p t) := by
  have h8 := @run_callFunc_extern Tryz.prog 114 _ ReflectliteType.typeOf Tryz.func114 (by kernel_rfl) (by kernel_rfl) (by kernel_rfl) (by kernel_rfl)
  have mR := methodComparable
  have hn1 := eql_isNil t
  have hn2 := guard_isNil t
  by_cases hnn : t.isNil = true
  · obtain rfl := Tree.val_isNil _ hnn
    have he := eql_nil w T (.pointer (some p))
    have hv : Tree.nil.val = .nilIface := rfl
    rw [hv]
    go_enter Tryz.func64, Tryz.ntmps64
    go_wp2
    go_ret
    exact ⟨rfl, Below.refl _ _⟩
  · have hnn : t.isNil = false := by simpa using hnn
    rcases hT with rfl | rfl
    · have tT := typeOf94
      have cT := comparable94
      go_enter Tryz.func64, Tryz.ntmps64
      go_wp2_with (go_at_call 115; refine (is_any t.size t _ _ p (Nat.le_refl _) hl hp (Or.inl rfl)).mono ?_; rintro e w' ⟨rfl, hb⟩)
      go_ret
      exact ⟨rfl, hb⟩
    · have tT := typeOf44
      have cT := comparable44
      go_enter Tryz.func64, Tryz.ntmps64
      go_wp2_with (go_at_call 115; refine (is_any t.size t _ _ p (Nat.le_refl _) hl hp (Or.inr rfl)).mono ?_; rintro e w' ⟨rfl, hb⟩)
      go_ret
      exact ⟨rfl, hb⟩
end Go.Proofs.YtfgoflaeclfggaaGreatDoor
end
section
namespace Go.Proofs.YtfgoflaeclfggaaGreatDoor
open Go.RowKit Go.Extern.Stop Go.Stop Go.Extern

/-- The target variable is there and may be written. -/
def Slot (w : World) (g : Nat) : Prop := g < w.heap.size ∧ (∃ old, w.cell? ⟨g, 0, none⟩ = some old) ∧ w.frozen? ⟨g, 0, none⟩ = false
theorem Slot.below {w w' : World} {g : Nat} (hb : Below w.heap.size w w') (h : Slot w g) : Slot w' g := by
  obtain ⟨h1, ⟨old, h2⟩, h3⟩ := h
  exact ⟨Nat.lt_of_lt_of_le h1 hb.size, ⟨old, (hb.cell (p := ⟨g, 0, none⟩) h1).trans h2⟩, (hb.frozen (p := ⟨g, 0, none⟩) h1).trans h3⟩

/-- reflectlite's Value of the target: its three cells in block v; the target's address in block u. -/
def Held (w : World) (v u g : Nat) : Prop := v < w.heap.size ∧ u < w.heap.size ∧ w.cell? ⟨v, 0, none⟩ = some (.pointer (some ⟨17, 100, none⟩)) ∧ w.cell? ⟨v, 1, none⟩ = some (.pointer (some ⟨u, 0, none⟩)) ∧ w.cell? ⟨v, 2, none⟩ = some (.int .u64 150) ∧ w.cell? ⟨u, 0, none⟩ = some (.pointer (some ⟨g, 0, none⟩))
theorem Held.below {w w' : World} {v u g : Nat} (hb : Below w.heap.size w w') (h : Held w v u g) : Held w' v u g := by
  obtain ⟨h1, h2, h3, h4, h5, h6⟩ := h
  exact ⟨Nat.lt_of_lt_of_le h1 hb.size, Nat.lt_of_lt_of_le h2 hb.size, (hb.cell (p := ⟨v, 0, none⟩) h1).trans h3, (hb.cell (p := ⟨v, 1, none⟩) h1).trans h4, (hb.cell (p := ⟨v, 2, none⟩) h1).trans h5, (hb.cell (p := ⟨u, 0, none⟩) h2).trans h6⟩

def AsPost (w : World) (g : Nat) (t : Tree) (e : Ending) (w' : World) : Prop :=
  (t.first = none ∧ e = .returned (.bool false) ∧ Below w.heap.size w w') ∨
  (∃ b, t.first = some b ∧ e = .returned (.bool true) ∧ Below g w w' ∧ w'.cell? ⟨g, 0, none⟩ = some (.pointer (some ⟨b, 0, none⟩)) ∧ w'.frozen? ⟨g, 0, none⟩ = false)

def AsRel (w : World) (g v u n : Nat) (t : Tree) (k : Nat) (x : Value) (wr : World) : Prop :=
  ∃ t' : Tree, x = t'.val ∧ t'.isNil = false ∧ t'.lies wr ∧ Slot wr g ∧ Held wr v u g ∧ t'.size ≤ k ∧ k ≤ n ∧ t'.first = t.first ∧ Below w.heap.size w wr

theorem eql_isNil' (t : Tree) (w : World) : (binOp .eql 45 t.val .nilIface).run Tryz.prog w = .ok (.bool t.isNil) w := eql_isNil t w

set_option maxRecDepth 100000 in
set_option maxHeartbeats 2000000 in
theorem as_any (n : Nat) : ∀ (t : Tree) (w : World) (g u : Nat), t.size ≤ n → t.isNil = false → t.lies w → Slot w g → u < w.heap.size → w.cell? ⟨u, 0, none⟩ = some (.pointer (some ⟨g, 0, none⟩)) →
    Calls Tryz.prog 119 #[t.val, .iface 100 (.pointer (some ⟨g, 0, none⟩)), .agg #[.pointer (some ⟨17, 100, none⟩), .pointer (some ⟨u, 0, none⟩), .int .u64 150], .iface 169 (.agg #[.pointer (some ⟨17, 98, none⟩)])] w (AsPost w g t) := by
  induction n with
  | zero =>
    intro t w g u hn
    cases t <;> simp [Tree.size] at hn
  | succ n ih =>
    intro t w g u hn hnil hl hs hu hcu
    have hB0 : Below w.heap.size w (w.alloc (.cells #[.pointer (some ⟨17, 100, none⟩), .pointer (some ⟨u, 0, none⟩), .int .u64 150] 145)) := (Below.refl _ _).alloc (Nat.le_refl _) _
    have hH0 : Held (w.alloc (.cells #[.pointer (some ⟨17, 100, none⟩), .pointer (some ⟨u, 0, none⟩), .int .u64 150] 145)) w.heap.size u g :=
      ⟨by simp, by simp; omega, by simp, by simp, by simp, (hB0.cell (p := ⟨u, 0, none⟩) hu).trans hcu⟩
    have hl0 := Tree.lies_below hB0 (t := t) hl
    have hs0 := hs.below hB0
    have hg : g < w.heap.size := hs.1
    clear hl hs hcu
    go_enter Tryz.func119, Tryz.ntmps119
    go_wp2_with fail
    go_loopg [0] (n + 1) (fun k x wr => AsRel w g w.heap.size u (n + 1) t k x wr)
    case atStart => exact ⟨t, rfl, hnil, hl0, hs0, hH0, hn, Nat.le_refl _, rfl, hB0⟩
    case round =>
      clear hl0 hs0 hH0 hnil hn hB0 hu
      obtain ⟨t', rfl, hnil', hl', hs', hH', hk, hkn, hh, hb⟩ := hrel
      have HH := Lib.hid hh
      clear hh
      have mA := asMethodAssignableTo
      cases t' with
      | nil => cases hnil'
      | leaf a =>
        have hv : (Tree.leaf a).val = .iface 203 (.pointer (some a)) := rfl
        have f0 := asTypeOf94
        have f1 := asAssignable94
        have f2 := noAs94
        have f3 := noU94
        have f4 := noV94
        clear hnil' hl' hs' hH'
        go_wp2
        go_ret
        exact Or.inl ⟨HH.out.symm, rfl, hb⟩
      | fault b op pl t1 =>
        have hv : (Tree.fault b op pl t1).val = .iface 98 (.pointer (some ⟨b, 0, none⟩)) := rfl
        obtain ⟨hs1, ⟨old, hs2⟩, hs3⟩ := hs'
        obtain ⟨v1, u1, c0, c1, c2, cu⟩ := hH'
        have f0 := asTypeOf44
        have f1 := asAssignable44
        have f2 := asElemV ⟨u, 0, none⟩ ⟨g, 0, none⟩ wr cu
        have f3 := asValueOf44
        have f4 := asSet ⟨g, 0, none⟩ ⟨wr.heap.size, 0, none⟩ ⟨b, 0, none⟩ old (wr.alloc (.cells #[.pointer (some ⟨b, 0, none⟩)] 98)) (by simp) (by rw [World.cell?_alloc_lt _ _ ⟨g, 0, none⟩ hs1]; exact hs2) (by rw [World.frozen?_alloc_old _ _ ⟨g, 0, none⟩ (Nat.ne_of_lt hs1)]; exact hs3)
        clear hnil' hl' hk hkn
        go_wp2
        go_ret
        exact Or.inr ⟨b, HH.out.symm, rfl, ((hb.mono (Nat.le_of_lt hg)).setCell (Nat.le_refl _) _).alloc (by simp; omega) _, (World.cell?_alloc_lt _ _ _ (by simpa using hs1)).trans (World.cell?_setCell_same _ _ _ hs2), (World.frozen?_alloc_old _ _ _ (by simp; omega)).trans (by simpa using hs3)⟩
/-- errors' own variable errorType holds the handle of the type 'error'. -/
def TypeVar (w : World) : Prop := w.cell? ⟨12, 0, none⟩ = some (.iface 169 (.agg #[.pointer (some ⟨17, 45, none⟩)]))
theorem cell_lt {w : World} {a : Addr} {v : Value} (h : w.cell? a = some v) : a.block < w.heap.size := by
  rcases Nat.lt_or_ge a.block w.heap.size with k | k
  · exact k
  · simp [World.cell?, Array.getElem?_eq_none k] at h
theorem TypeVar.below {w w' : World} (hb : Below w.heap.size w w') (h : TypeVar w) : TypeVar w' := (hb.cell (p := ⟨12, 0, none⟩) (cell_lt h)).trans h

theorem AsPost.mono {w W : World} {g : Nat} {t : Tree} {e : Ending} {w' : World} (hB : Below w.heap.size w W) (hg : g < w.heap.size) (h : AsPost W g t e w') : AsPost w g t e w' := by
  rcases h with ⟨h1, h2, h3⟩ | ⟨b, h1, h2, h3, h4⟩
  · exact Or.inl ⟨h1, h2, hB.trans (h3.mono hB.size)⟩
  · exact Or.inr ⟨b, h1, h2, (hB.mono (Nat.le_of_lt hg)).trans h3, h4⟩

set_option maxHeartbeats 1000000 in
theorem errorsAs (t : Tree) (w : World) (g : Nat) (hl : t.lies w) (hs : Slot w g) (hT : TypeVar w) :
    Calls Tryz.prog 66 #[t.val, .iface 100 (.pointer (some ⟨g, 0, none⟩))] w (AsPost w g t) := by
  have hn1 := eql_isNil t
  have hn2 := guard_isNil t
  by_cases hnn : t.isNil = true
  · obtain rfl := Tree.val_isNil _ hnn
    go_enter Tryz.func66, Tryz.ntmps66
    go_wp2
    go_ret
    exact Or.inl ⟨rfl, rfl, Below.refl _ _⟩
  · have hnn : t.isNil = false := by simpa using hnn
    have H := Lib.hid hnn
    have hB1 : Below w.heap.size w (w.alloc (.cells #[.pointer (some ⟨g, 0, none⟩)] 100)) := (Below.refl _ _).alloc (Nat.le_refl _) _
    have hB2 : Below w.heap.size w ((w.alloc (.cells #[.pointer (some ⟨g, 0, none⟩)] 100)).alloc (.cells #[.pointer (some ⟨17, 100, none⟩), .pointer (some ⟨w.heap.size, 0, none⟩), .int .u64 150] 145)) := hB1.alloc (by simp) _
    have hc := as_any t.size t ((w.alloc (.cells #[.pointer (some ⟨g, 0, none⟩)] 100)).alloc (.cells #[.pointer (some ⟨17, 100, none⟩), .pointer (some ⟨w.heap.size, 0, none⟩), .int .u64 150] 145)) g w.heap.size (Nat.le_refl _) hnn (Tree.lies_below hB2 (t := t) hl) (hs.below hB2) (by simp; omega) (by rw [World.cell?_alloc_lt _ _ ⟨w.heap.size, 0, none⟩ (by simp)]; simp)
    have f1 := asValueOf46
    have f2 := asType46
    have f3 := asMethodKind
    have f4 := asMethodElem
    have f5 := asMethodImplements
    have f6 := asKind46
    have f7 := asKind44
    have f8 := asElem46
    have f9 := asImplements
    have f10 := asIsNil ⟨w.heap.size, 0, none⟩ ⟨g, 0, none⟩ ((w.alloc (.cells #[.pointer (some ⟨g, 0, none⟩)] 100)).alloc (.cells #[.pointer (some ⟨17, 100, none⟩), .pointer (some ⟨w.heap.size, 0, none⟩), .int .u64 150] 145)) (by rw [World.cell?_alloc_lt _ _ ⟨w.heap.size, 0, none⟩ (by simp)]; simp)
    have hv : ((w.alloc (.cells #[.pointer (some ⟨g, 0, none⟩)] 100)).alloc (.cells #[.pointer (some ⟨17, 100, none⟩), .pointer (some ⟨w.heap.size, 0, none⟩), .int .u64 150] 145)).cell? ⟨12, 0, none⟩ = some (.iface 169 (.agg #[.pointer (some ⟨17, 45, none⟩)])) := hT.below hB2
    have hg := hs.1
    have HH := Lib.hid (And.intro hl (And.intro hs hT))
    clear hl hs hT
    go_enter Tryz.func66, Tryz.ntmps66
    go_wp2_with fail
    refine hc.mono ?_
    intro e w' h
    have hp := h.mono hB2 hg
    clear h hc
    rcases hp with ⟨h1, rfl, h3⟩ | ⟨b, h1, rfl, h3, h4⟩
    · go_wp2_with fail
      go_ret
      exact Or.inl ⟨h1, rfl, h3⟩
    · go_wp2_with fail
      go_ret
      exact Or.inr ⟨b, h1, rfl, h3, h4⟩
end Go.Proofs.YtfgoflaeclfggaaGreatDoor
end
section
namespace Go.Proofs.YtfgoflaeclfggaaGreatDoor
open Go.RowKit Go.Extern.Stop Go.Stop Go.Extern

theorem heap_alloc_new (w : World) (o : Obj) : (w.alloc o).heap[w.heap.size]? = some o := by
  show (w.heap.push o)[w.heap.size]? = some o
  simp

/-- Which of api's errors a number names: 1 to 11 itself, any other one 0 (Unknown). -/
def known (n : Int) : Nat := if 1 ≤ n ∧ n ≤ 11 then n.toNat else 0
theorem known_le (n : Int) : known n ≤ 11 := by unfold known; split <;> omega

/-- The package-level variable (its block) of each of api's errors. -/
def rootVar : Nat → Nat
  | 1 => 0 | 2 => 1 | 3 => 2 | 4 => 3 | 5 => 4 | 6 => 5
  | 7 => 6 | 8 => 7 | 9 => 8 | 10 => 9 | 11 => 10 | _ => 11

/-- api's twelve errors are there: each variable holds a pointer to an errorString of its own. -/
structure Roots (w : World) (A : Nat → Addr) : Prop where
  var : ∀ k, k ≤ 11 → w.cell? ⟨rootVar k, 0, none⟩ = some (.iface 203 (.pointer (some (A k))))
  there : ∀ k, k ≤ 11 → Target w (A k)
  apart : ∀ j k, j ≤ 11 → k ≤ 11 → A j = A k → j = k
theorem Roots.below {w w' : World} {A : Nat → Addr} (hb : Below w.heap.size w w') (h : Roots w A) : Roots w' A :=
  ⟨fun k hk => (hb.cell (p := ⟨rootVar k, 0, none⟩) (cell_lt (h.var k hk))).trans (h.var k hk), fun k hk => (h.there k hk).below hb, h.apart⟩

theorem numbered_any (n : Int) (w : World) (A : Nat → Addr) (hr : Roots w A) :
    Calls Tryz.prog 112 #[.int .i64 n] w fun e w' => e = .returned (Tree.leaf (A (known n))).val ∧ w = w' := by
  have r0 : w.cell? ⟨11, 0, none⟩ = some (.iface 203 (.pointer (some (A 0)))) := hr.var 0 (by decide)
  have r1 : w.cell? ⟨0, 0, none⟩ = some (.iface 203 (.pointer (some (A 1)))) := hr.var 1 (by decide)
  have r2 : w.cell? ⟨1, 0, none⟩ = some (.iface 203 (.pointer (some (A 2)))) := hr.var 2 (by decide)
  have r3 : w.cell? ⟨2, 0, none⟩ = some (.iface 203 (.pointer (some (A 3)))) := hr.var 3 (by decide)
  have r4 : w.cell? ⟨3, 0, none⟩ = some (.iface 203 (.pointer (some (A 4)))) := hr.var 4 (by decide)
  have r5 : w.cell? ⟨4, 0, none⟩ = some (.iface 203 (.pointer (some (A 5)))) := hr.var 5 (by decide)
  have r6 : w.cell? ⟨5, 0, none⟩ = some (.iface 203 (.pointer (some (A 6)))) := hr.var 6 (by decide)
  have r7 : w.cell? ⟨6, 0, none⟩ = some (.iface 203 (.pointer (some (A 7)))) := hr.var 7 (by decide)
  have r8 : w.cell? ⟨7, 0, none⟩ = some (.iface 203 (.pointer (some (A 8)))) := hr.var 8 (by decide)
  have r9 : w.cell? ⟨8, 0, none⟩ = some (.iface 203 (.pointer (some (A 9)))) := hr.var 9 (by decide)
  have r10 : w.cell? ⟨9, 0, none⟩ = some (.iface 203 (.pointer (some (A 10)))) := hr.var 10 (by decide)
  have r11 : w.cell? ⟨10, 0, none⟩ = some (.iface 203 (.pointer (some (A 11)))) := hr.var 11 (by decide)
  clear hr
  rcases (by omega : n = 1 ∨ n = 2 ∨ n = 3 ∨ n = 4 ∨ n = 5 ∨ n = 6 ∨ n = 7 ∨ n = 8 ∨ n = 9 ∨ n = 10 ∨ n = 11 ∨ n < 1 ∨ 11 < n) with rfl | rfl | rfl | rfl | rfl | rfl | rfl | rfl | rfl | rfl | rfl | h | h
  all_goals
    go_enter Tryz.func112, Tryz.ntmps112
    go_wp2
    go_ret
  iterate 11 exact ⟨rfl, rfl⟩
  · exact ⟨by rw [show known n = 0 by unfold known; rw [if_neg (by omega)]]; rfl, rfl⟩
  · exact ⟨by rw [show known n = 0 by unfold known; rw [if_neg (by omega)]]; rfl, rfl⟩

theorem new_zero (op : ByteArray) (pl : Int) (w : World) :
    Calls Tryz.prog 59 #[.string op, .int .i64 pl, .int .i64 0] w fun e w' => e = .returned .nilIface ∧ w = w' := by
  go_enter Tryz.func59, Tryz.ntmps59
  go_wp2
  go_ret
  exact ⟨rfl, rfl⟩
theorem new_any (op : ByteArray) (pl n : Int) (w : World) (A : Nat → Addr) (hr : Roots w A) (hn : n ≠ 0) :
    Calls Tryz.prog 59 #[.string op, .int .i64 pl, .int .i64 n] w fun e w' => e = .returned (Tree.fault w.heap.size op pl (.leaf (A (known n)))).val ∧ Below w.heap.size w w' ∧ w'.heap.size = w.heap.size + 1 ∧ (Tree.fault w.heap.size op pl (.leaf (A (known n)))).lies w' := by
  have hv : (Tree.leaf (A (known n))).val = .iface 203 (.pointer (some (A (known n)))) := rfl
  go_enter Tryz.func59, Tryz.ntmps59
  go_wp2_with (go_at_call 112; refine (numbered_any n _ A hr).mono ?_; rintro e w' ⟨rfl, rfl⟩)
  go_ret
  have hB : Below w.heap.size w (w.alloc (.cells #[.string op, .int .i64 pl, .iface 203 (.pointer (some (A (known n))))] 102)) := (Below.refl _ _).alloc (Nat.le_refl _) _
  exact ⟨rfl, hB, by simp, heap_alloc_new _ _, Tree.lies_below hB (t := .leaf (A (known n))) (hr.there _ (known_le n)), by simp⟩
theorem under_nil (op : ByteArray) (pl : Int) (w : World) :
    Calls Tryz.prog 89 #[.string op, .int .i64 pl, .nilIface] w fun e w' => e = .returned .nilIface ∧ w = w' := by
  go_enter Tryz.func89, Tryz.ntmps89
  go_wp2
  go_ret
  exact ⟨rfl, rfl⟩
theorem under_any (op : ByteArray) (pl : Int) (t : Tree) (w : World) (hl : t.lies w) (hn : t.isNil = false) :
    Calls Tryz.prog 89 #[.string op, .int .i64 pl, t.val] w fun e w' => e = .returned (Tree.fault w.heap.size op pl t).val ∧ Below w.heap.size w w' ∧ w'.heap.size = w.heap.size + 1 ∧ (Tree.fault w.heap.size op pl t).lies w' := by
  have hne : t ≠ .nil := by rintro rfl; cases hn
  obtain ⟨T, x, hv⟩ := Tree.val_held hne
  have hB : Below w.heap.size w (w.alloc (.cells #[.string op, .int .i64 pl, t.val] 102)) := (Below.refl _ _).alloc (Nat.le_refl _) _
  have hq : (Tree.fault w.heap.size op pl t).lies (w.alloc (.cells #[.string op, .int .i64 pl, t.val] 102)) := ⟨heap_alloc_new _ _, Tree.lies_below hB (t := t) hl, hne⟩
  have HQ := Lib.hid (And.intro hB hq)
  clear hB hq hl
  rw [hv] at HQ ⊢
  have HV := Lib.hid hv
  clear hv
  go_enter Tryz.func89, Tryz.ntmps89
  go_wp2
  go_ret
  exact ⟨rfl, HQ.out.1, by simp, HQ.out.2⟩

end Go.Proofs.YtfgoflaeclfggaaGreatDoor
end
section
namespace Go.Proofs.YtfgoflaeclfggaaGreatDoor
open Go.RowKit Go.Extern.Stop Go.Stop Go.Extern

theorem Root_any (n : Int) (w : World) (A : Nat → Addr) (hr : Roots w A) :
    Calls Tryz.prog 65 #[.int .i64 n] w fun e w' => e = .returned (.iface 203 (.pointer (some (A (known n))))) ∧ w = w' := by
  have r0 : w.cell? ⟨11, 0, none⟩ = some (.iface 203 (.pointer (some (A 0)))) := hr.var 0 (by decide)
  have r1 : w.cell? ⟨0, 0, none⟩ = some (.iface 203 (.pointer (some (A 1)))) := hr.var 1 (by decide)
  have r2 : w.cell? ⟨1, 0, none⟩ = some (.iface 203 (.pointer (some (A 2)))) := hr.var 2 (by decide)
  have r3 : w.cell? ⟨2, 0, none⟩ = some (.iface 203 (.pointer (some (A 3)))) := hr.var 3 (by decide)
  have r4 : w.cell? ⟨3, 0, none⟩ = some (.iface 203 (.pointer (some (A 4)))) := hr.var 4 (by decide)
  have r5 : w.cell? ⟨4, 0, none⟩ = some (.iface 203 (.pointer (some (A 5)))) := hr.var 5 (by decide)
  have r6 : w.cell? ⟨5, 0, none⟩ = some (.iface 203 (.pointer (some (A 6)))) := hr.var 6 (by decide)
  have r7 : w.cell? ⟨6, 0, none⟩ = some (.iface 203 (.pointer (some (A 7)))) := hr.var 7 (by decide)
  have r8 : w.cell? ⟨7, 0, none⟩ = some (.iface 203 (.pointer (some (A 8)))) := hr.var 8 (by decide)
  have r9 : w.cell? ⟨8, 0, none⟩ = some (.iface 203 (.pointer (some (A 9)))) := hr.var 9 (by decide)
  have r10 : w.cell? ⟨9, 0, none⟩ = some (.iface 203 (.pointer (some (A 10)))) := hr.var 10 (by decide)
  have r11 : w.cell? ⟨10, 0, none⟩ = some (.iface 203 (.pointer (some (A 11)))) := hr.var 11 (by decide)
  clear hr
  rcases (by omega : n = 1 ∨ n = 2 ∨ n = 3 ∨ n = 4 ∨ n = 5 ∨ n = 6 ∨ n = 7 ∨ n = 8 ∨ n = 9 ∨ n = 10 ∨ n = 11 ∨ n < 1 ∨ 11 < n) with rfl | rfl | rfl | rfl | rfl | rfl | rfl | rfl | rfl | rfl | rfl | h | h
  all_goals
    go_enter Tryz.func65, Tryz.ntmps65
    go_wp2
    go_ret
  iterate 11 exact ⟨rfl, rfl⟩
  · exact ⟨by rw [show known n = 0 by unfold known; rw [if_neg (by omega)]]; rfl, rfl⟩
  · exact ⟨by rw [show known n = 0 by unfold known; rw [if_neg (by omega)]]; rfl, rfl⟩

/-- errors.As where a Fault is found. -/
theorem errorsAs_hit (t : Tree) (b : Nat) (w : World) (g : Nat) (ht : t.first = some b) (hl : t.lies w) (hs : Slot w g) (hT : TypeVar w) :
    Calls Tryz.prog 66 #[t.val, .iface 100 (.pointer (some ⟨g, 0, none⟩))] w fun e w' => e = .returned (.bool true) ∧ Below g w w' ∧ w'.cell? ⟨g, 0, none⟩ = some (.pointer (some ⟨b, 0, none⟩)) := by
  refine (errorsAs t w g hl hs hT).mono ?_
  rintro e w' (⟨h1, _⟩ | ⟨b', h1, h2, h3, h4, _⟩)
  · rw [ht] at h1; cases h1
  · obtain rfl := Option.some.inj (ht.symm.trans h1)
    exact ⟨h2, h3, h4⟩

/-- Faults one within another, and then an errorString. -/
def chainT : List (Nat × ByteArray × Int) → Addr → Tree
  | [], a => .leaf a
  | (b, op, pl) :: r, a => .fault b op pl (chainT r a)
theorem chain_hits (a : Addr) : ∀ bs : List (Nat × ByteArray × Int), (chainT bs a).hits 203 a = true
  | [] => by simp [chainT, Tree.hits]
  | (b, op, pl) :: r => by
    have ih := chain_hits a r
    simp only [chainT, Tree.hits, ih, Bool.or_true]
theorem chain_held (a : Addr) (bs : List (Nat × ByteArray × Int)) : (chainT bs a).isNil = false := by cases bs <;> rfl

/-- What an Err says of packages and places: two slices that read the list. -/
structure WantV (w : World) (po pa : Option Addr) (co ca : Nat) (L : List (ByteArray × Int)) : Prop where
  ops : L ≠ [] → ∃ b off, po = some ⟨b, off, none⟩ ∧ b < w.heap.size ∧ ∀ (j : Nat) (x : ByteArray × Int), L[j]? = some x → w.cell? ⟨b, off + j, none⟩ = some (.string x.1)
  ats : L ≠ [] → ∃ b off, pa = some ⟨b, off, none⟩ ∧ b < w.heap.size ∧ ∀ (j : Nat) (x : ByteArray × Int), L[j]? = some x → w.cell? ⟨b, off + j, none⟩ = some (.int .i64 x.2)
  leo : L.length ≤ co
  lea : L.length ≤ ca
  capo : co ≤ maxLen
  capa : ca ≤ maxLen
theorem WantV.below {w w' : World} {po pa : Option Addr} {co ca : Nat} {L : List (ByteArray × Int)} (hb : Below w.heap.size w w') (h : WantV w po pa co ca L) : WantV w' po pa co ca L :=
  ⟨fun hn => by
    obtain ⟨b, off, hp, hlt, hc⟩ := h.ops hn
    exact ⟨b, off, hp, Nat.lt_of_lt_of_le hlt hb.size, fun j x hx => (hb.cell (p := ⟨b, off + j, none⟩) hlt).trans (hc j x hx)⟩, fun hn => by
    obtain ⟨b, off, hp, hlt, hc⟩ := h.ats hn
    exact ⟨b, off, hp, Nat.lt_of_lt_of_le hlt hb.size, fun j x hx => (hb.cell (p := ⟨b, off + j, none⟩) hlt).trans (hc j x hx)⟩, h.leo, h.lea, h.capo, h.capa⟩

theorem cell_alloc_at (w : World) (cs : Array Value) (t : TypeId) (n j : Nat) (hn : w.heap.size = n) : (w.alloc (.cells cs t)).cell? ⟨n, j, none⟩ = cs[j]? := by
  subst hn
  exact cell_of_row _ _ _ cs t (0, 0) (heap_alloc_new w _)

def RawNewPost (w : World) (op : ByteArray) (pl n : Int) (e : Ending) (w' : World) : Prop :=
  ∃ po pa, e = .returned (.agg #[.int .i64 n, .slice po 1 1, .slice pa 1 1]) ∧ WantV w' po pa 1 1 [(op, pl)] ∧ Below w.heap.size w w'
theorem raw_new (op : ByteArray) (pl n : Int) (w : World) :
    Calls Tryz.prog 67 #[.string op, .int .i64 pl, .int .i64 n] w (RawNewPost w op pl n) := by
  go_enter Tryz.func67, Tryz.ntmps67
  go_wp2_with fail
  refine bodyPost_ret (v := .agg #[.int .i64 n, .slice (some ⟨w.heap.size + 1, 0, none⟩) 1 1, .slice (some ⟨w.heap.size + 1 + 1, 0, none⟩) 1 1]) (by simp [results, Tryz.results67, go_sem]) rfl ⟨_, _, rfl, ⟨fun _ => ⟨_, _, rfl, by simp, fun j x hx => ?_⟩, fun _ => ⟨_, _, rfl, by simp, fun j x hx => ?_⟩, Nat.le_refl _, Nat.le_refl _, by decide, by decide⟩, ?_⟩
  · match j, hx with
    | 0, hx =>
      simp at hx
      subst hx
      show World.cell? _ ⟨w.heap.size + 1, 0, none⟩ = _
      rw [World.cell?_alloc_lt _ _ ⟨w.heap.size + 1, 0, none⟩ (by simp), cell_alloc_at _ _ _ _ _ (by simp)]
      rfl
  · match j, hx with
    | 0, hx =>
      simp at hx
      subst hx
      show World.cell? _ ⟨w.heap.size + 1 + 1, 0, none⟩ = _
      rw [cell_alloc_at _ _ _ _ _ (by simp)]
      rfl
  · exact (((Below.refl _ _).alloc (Nat.le_refl _) _).alloc (by simp) _).alloc (by simp; omega) _

def TruePost (w : World) (e : Ending) (w' : World) : Prop := e = .returned (.bool true) ∧ Below w.heap.size w w'

theorem Is_none (po pa : Option Addr) (no na co ca : Nat) (w : World) :
    Calls Tryz.prog 20 #[.nilIface, .agg #[.int .i64 0, .slice po no co, .slice pa na ca]] w (TruePost w) := by
  go_enter Tryz.func20, Tryz.ntmps20
  go_wp2_with fail
  go_ret
  exact ⟨rfl, (Below.refl _ _).alloc (Nat.le_refl _) _⟩

theorem chain_lies_drop {w : World} (a : Addr) : ∀ (j : Nat) {bs : List (Nat × ByteArray × Int)}, (chainT bs a).lies w → j ≤ bs.length → (chainT (bs.drop j) a).lies w
  | 0, _, h, _ => h
  | j + 1, (b, op, pl) :: r, h, hj => by
    have h' : (Tree.fault b op pl (chainT r a)).lies w := h
    exact chain_lies_drop a j (bs := r) h'.2.1 (by simpa using hj)
  | j + 1, [], _, hj => by simp at hj

def ChainRel (w wb : World) (bs : List (Nat × ByteArray × Int)) (a : Addr) (gk : Nat) (v0 v5 : Value) (wr : World) : Prop :=
  ∃ j : Nat, j ≤ bs.length ∧ v0 = (chainT (bs.drop j) a).val ∧ v5 = .int .i64 (j : Int) ∧ Below wb.heap.size wb wr ∧ Below w.heap.size w wr ∧ bs.length - j ≤ gk

set_option maxRecDepth 100000 in
set_option maxHeartbeats 8000000 in
theorem Is_chain (bs : List (Nat × ByteArray × Int)) (k : Nat) (hk : 1 ≤ k ∧ k ≤ 11) (po pa : Option Addr) (n ko ka : Nat) (w : World) (A : Nat → Addr) (hr : Roots w A) (hT : TypeVar w) (hl : (chainT bs (A k)).lies w) (hw : WantV w po pa ko ka (bs.map Prod.snd)) (hn : n = bs.length) :
    Calls Tryz.prog 20 #[(chainT bs (A k)).val, .agg #[.int .i64 (k : Int), .slice po n ko, .slice pa n ka]] w (TruePost w) := by
  subst hn
  have hkn : known (k : Int) = k := by unfold known; rw [if_pos (by omega)]; rfl
  have hn1 := eql_isNil (chainT bs (A k))
  have hn2 := guard_isNil (chainT bs (A k))
  rw [chain_held] at hn1
  have hleo : bs.length ≤ ko := by have := hw.leo; rwa [List.length_map] at this
  have hlea : bs.length ≤ ka := by have := hw.lea; rwa [List.length_map] at this
  have hcapo := hw.capo
  have hcapa := hw.capa
  unfold maxLen at hcapo hcapa
  have hB1 : Below w.heap.size w (w.alloc (.cells #[.int .i64 (k : Int), .slice po bs.length ko, .slice pa bs.length ka] 56)) := (Below.refl _ _).alloc (Nat.le_refl _) _
  have hk0 : ((k : Int) == 0) = false := by rw [beq_eq_false_iff_ne]; omega
  have HH := Lib.hid (And.intro hr (And.intro hT (And.intro hl (And.intro hw hkn))))
  have HB1 := Lib.hid hB1
  clear hr hT hl hw hkn hB1
  go_enter Tryz.func20, Tryz.ntmps20
  go_wp2_with fail
  refine (Root_any (k : Int) _ A (HH.out.1.below HB1.out)).mono ?_
  rintro e w' ⟨rfl, rfl⟩
  rw [HH.out.2.2.2.2]
  go_wp2_with fail
  refine (errorsIs (chainT bs (A k)) _ 203 (A k) (Tree.lies_below HB1.out (t := chainT bs (A k)) HH.out.2.2.1) ((HH.out.1.below HB1.out).there k hk.2) (Or.inl rfl)).mono ?_
  rintro e w2 ⟨rfl, hb2⟩
  rw [chain_hits]
  obtain ⟨wb, hwb⟩ : ∃ wb, w.alloc (.cells #[.int .i64 (k : Int), .slice po bs.length ko, .slice pa bs.length ka] 56) = wb := ⟨_, rfl⟩
  have hbs : wb.heap.size = w.heap.size + 1 := by rw [← hwb]; simp
  have hc0 : wb.cell? ⟨w.heap.size, 0, none⟩ = some (.int .i64 (k : Int)) := by rw [← hwb]; simp
  have hc1 : wb.cell? ⟨w.heap.size, 1, none⟩ = some (.slice po bs.length ko) := by rw [← hwb]; simp
  have hc2 : wb.cell? ⟨w.heap.size, 2, none⟩ = some (.slice pa bs.length ka) := by rw [← hwb]; simp
  have HC := Lib.hid (And.intro hc0 (And.intro hc1 (And.intro hc2 hbs)))
  rw [hwb] at HB1 hb2
  have HW2 := Lib.hid (And.intro hb2 (HB1.out.trans (hb2.mono (by rw [hbs]; omega))))
  clear hc0 hc1 hc2 hbs hwb hb2 hn1 hn2
  go_wp2_with fail
  go_loopg [0, 5] bs.length (fun gk v0 v5 wr => ChainRel w wb bs (A k) gk v0 v5 wr)
  case atStart => exact ⟨0, Nat.zero_le _, rfl, rfl, HW2.out.1, HW2.out.2, by omega⟩
  case round =>
    obtain ⟨j, hj, rfl, rfl, hbb, hbw, hgk⟩ := hrel
    have hgB : w.heap.size < wr.heap.size := by have := hbb.size; have := HC.out.2.2.2; omega
    have hgb1 : w.heap.size < wb.heap.size := by have := HC.out.2.2.2; omega
    have hr1 : wr.cell? ⟨w.heap.size, 1, none⟩ = some (.slice po bs.length ko) := (hbb.cell (p := ⟨w.heap.size, 1, none⟩) hgb1).trans HC.out.2.1
    have HBB := Lib.hid (And.intro hbb hbw)
    by_cases hlt : j < bs.length
    · obtain ⟨x, hx⟩ : ∃ x, bs[j]? = some x := ⟨_, List.getElem?_eq_getElem hlt⟩
      obtain ⟨b, op, pl⟩ := x
      have hdr : bs.drop j = (b, op, pl) :: bs.drop (j + 1) := by
        obtain ⟨h1, h2⟩ := List.getElem?_eq_some_iff.1 hx
        rw [List.drop_eq_getElem_cons h1, h2]
      have hlj := chain_lies_drop (A k) j (Tree.lies_below hbw (t := chainT bs (A k)) HH.out.2.2.1) (Nat.le_of_lt hlt)
      rw [hdr] at hlj ⊢
      have hlj : (Tree.fault b op pl (chainT (bs.drop (j + 1)) (A k))).lies wr := hlj
      have hv : (chainT ((b, op, pl) :: bs.drop (j + 1)) (A k)).val = .iface 98 (.pointer (some ⟨b, 0, none⟩)) := rfl
      rw [hv]
      obtain ⟨rest, hrest⟩ : ∃ rest, chainT (bs.drop (j + 1)) (A k) = rest := ⟨_, rfl⟩
      rw [hrest] at hlj
      have hbl : b < wr.heap.size := heap_lt hlj.1
      have c0 : wr.cell? ⟨b, 0, none⟩ = some (.string op) := by simp [World.cell?, hlj.1]
      have c1 : wr.cell? ⟨b, 1, none⟩ = some (.int .i64 pl) := by simp [World.cell?, hlj.1]
      have c2 : wr.cell? ⟨b, 2, none⟩ = some rest.val := by simp [World.cell?, hlj.1]
      have hmx : (bs.map Prod.snd)[j]? = some (op, pl) := by rw [List.getElem?_map, hx]; rfl
      have hne : bs.map Prod.snd ≠ [] := by intro e; rw [e] at hmx; simp at hmx
      have hWr := HH.out.2.2.2.1.below hbw
      obtain ⟨bo, oo, rfl, hbo, hco⟩ := hWr.ops hne
      obtain ⟨ba, oa, rfl, hba, hca⟩ := hWr.ats hne
      have co := hco j _ hmx
      have ca := hca j _ hmx
      have hr2 : wr.cell? ⟨w.heap.size, 2, none⟩ = some (.slice (some ⟨ba, oa, none⟩) bs.length ka) := (hbb.cell (p := ⟨w.heap.size, 2, none⟩) hgb1).trans HC.out.2.2.1
      have HF := Lib.hid (And.intro c0 (And.intro c1 (And.intro c2 (And.intro hlj hrest))))
      have HG := Lib.hid (And.intro hr1 (And.intro hr2 (And.intro co ca)))
      have HTr := Lib.hid (HH.out.2.1.below hbw)
      clear hx hdr hv hrest c0 c1 c2 hmx hne hWr hco hca hr2 co ca hlj hbb hbw
      go_upto_region 9 with fail
      go_cut [60] (fun v wx => v = .bool false ∧ Below wr.heap.size wr wx ∧ wx.cell? ⟨wr.heap.size, 0, none⟩ = some (.pointer (some ⟨b, 0, none⟩)))
      case first =>
        have hd : Below wr.heap.size wr (wr.alloc (.cells #[.pointer none] 98)).drew := ((Below.refl _ _).alloc (Nat.le_refl _) _).drew
        have hdl := Tree.lies_below hd (t := .fault b op pl rest) HF.out.2.2.2.1
        have hsl : Slot (wr.alloc (.cells #[.pointer none] 98)).drew wr.heap.size := ⟨by simp, ⟨.pointer none, by simp⟩, by simp⟩
        have HD := Lib.hid (And.intro hdl hsl)
        clear hdl hsl hr1
        go_region_with (first
          | (go_at_call 66; refine (errorsAs_hit (.fault b op pl rest) b _ wr.heap.size rfl ?_ ?_ ?_).mono ?_; exact HD.out.1; exact HD.out.2; exact HTr.out.below hd; rintro e w' ⟨rfl, hbx, k3⟩; have hb' := hd.trans hbx; have k0 := (hb'.cell (p := ⟨b, 0, none⟩) hbl).trans HF.out.1; have k1 := (hb'.cell (p := ⟨b, 1, none⟩) hbl).trans HF.out.2.1; have m1 := (hb'.cell (p := ⟨w.heap.size, 1, none⟩) hgB).trans HG.out.1; have m2 := (hb'.cell (p := ⟨w.heap.size, 2, none⟩) hgB).trans HG.out.2.1; have m3 := (hb'.cell (p := ⟨bo, oo + j, none⟩) hbo).trans HG.out.2.2.1; have m4 := (hb'.cell (p := ⟨ba, oa + j, none⟩) hba).trans HG.out.2.2.2))
        all_goals (go_wp2_with fail; go_meet; exact ⟨rfl, by assumption, by assumption⟩)
      case rest =>
        obtain ⟨rfl, hbx, k3⟩ := hcut
        have k2 := (hbx.cell (p := ⟨b, 2, none⟩) hbl).trans HF.out.2.2.1
        have HX := Lib.hid hbx
        clear hbx hr1
        go_wp2_with fail
        go_roundg (bs.length - (j + 1))
        case rel => exact ⟨j + 1, by omega, by rw [HF.out.2.2.2.2], by go_num, HBB.out.1.trans (HX.out.mono HBB.out.1.size), HBB.out.2.trans (HX.out.mono HBB.out.2.size), Nat.le_refl _⟩
        case measure => omega
    · obtain rfl : j = bs.length := by omega
      have hd : (chainT (bs.drop bs.length) (A k)).val = .iface 203 (.pointer (some (A k))) := by rw [List.drop_length]; rfl
      rw [hd]
      have hr0 : wr.cell? ⟨w.heap.size, 0, none⟩ = some (.int .i64 (k : Int)) := (hbb.cell (p := ⟨w.heap.size, 0, none⟩) hgb1).trans HC.out.1
      have hA := eql_hit wr 203 (A k) (Or.inl rfl)
      clear hd hbb hbw
      go_wp2_with fail
      refine (Root_any (k : Int) _ A (HH.out.1.below HBB.out.2)).mono ?_
      rintro e w' ⟨rfl, rfl⟩
      rw [HH.out.2.2.2.2]
      go_wp2_with fail
      go_ret
      exact ⟨rfl, HBB.out.2⟩
end Go.Proofs.YtfgoflaeclfggaaGreatDoor
end
section
namespace Go.Proofs.YtfgoflaeclfggaaGreatDoor
open Go.RowKit

theorem heap_ltN {w : World} {b : Nat} {o : Obj} (h : w.heap[b]? = some o) : b < w.heap.size := by
  rcases Nat.lt_or_ge b w.heap.size with k | k
  · exact k
  · simp [Array.getElem?_eq_none k] at h
theorem below_drewN {B : Nat} {a w : World} (h : Below B a w) (n : Nat) : Below B a (w.drewN n) :=
  ⟨h.os, h.tape, h.output, h.size, h.block⟩

/-- for a quiet region behind a quiet region, and for contracts that leave the world alone -/
theorem quiet_add_left {P : Program} {f : FuncId} {args : Array Value} {w : World} {a n : Nat} {v : Value}
    (h : Calls P f args (w.drewN (a + n)) fun e w' => e = .returned v ∧ w.drewN (a + n) = w') :
    Calls P f args (w.drewN (a + n)) fun e w'' => e = .returned v ∧ ∃ m, w'' = w.drewN (a + m) :=
  h.mono fun _ _ ⟨he, hm⟩ => ⟨he, n, hm.symm⟩
theorem quiet_left {P : Program} {f : FuncId} {args : Array Value} {w : World} {n : Nat} {v : Value}
    (h : Calls P f args (w.drewN n) fun e w' => e = .returned v ∧ w.drewN n = w') : Calls P f args (w.drewN n) fun e w'' => e = .returned v ∧ ∃ m, w'' = w.drewN m :=
  h.mono fun _ _ ⟨he, hm⟩ => ⟨he, n, hm.symm⟩
theorem own_shape {w : World} {base : Nat} {e : TypeId} {v : Value} {n : Nat} {xs : List Value} (h : w.ownsRow base e 1 v n xs) :
    (v = .slice none 0 0 ∧ n = 0 ∧ xs = []) ∨ ∃ g cap, v = .slice (some ⟨g, 0, none⟩) n cap ∧ base ≤ g ∧ g < w.heap.size ∧ n ≤ cap ∧ cap ≤ maxLen ∧ (∀ j, j < n → w.cell? ⟨g, j, none⟩ = xs[j]?) ∧ xs.length = n := by
  have h0 := h
  obtain ⟨hx, h | ⟨g, cap, cur, hv, hg, hh, hc, hm, r⟩⟩ := h
  · obtain ⟨h1, rfl⟩ := h
    exact Or.inl ⟨h1, rfl, List.eq_nil_of_length_eq_zero (by simpa using hx)⟩
  · subst hv
    exact Or.inr ⟨g, cap, rfl, hg, heap_ltN hh, hc, hm, fun j hj => h0.cellAt j (by omega), by omega⟩
theorem ownsRow_base {w : World} {base base' : Nat} {e : TypeId} {v : Value} {n : Nat} {xs : List Value} (hB : base' ≤ base) (h : w.ownsRow base e 1 v n xs) : w.ownsRow base' e 1 v n xs := by
  obtain ⟨hx, h | ⟨g, cap, cur, hv, hg, r⟩⟩ := h
  · exact ⟨hx, Or.inl h⟩
  · exact ⟨hx, Or.inr ⟨g, cap, cur, hv, Nat.le_trans hB hg, r⟩⟩
theorem ownsRow_below {w1 w2 : World} {base : Nat} {e : TypeId} {size : Nat} {v : Value} {n : Nat} {xs : List Value} (hb : Below w1.heap.size w1 w2) (h : w1.ownsRow base e size v n xs) : w2.ownsRow base e size v n xs :=
  h.kept (row := none) ⟨hb.os, hb.tape, hb.output, hb.size, fun k hk _ => hb.block k hk⟩ (by
    cases hv : v.ownBlock with
    | none => exact Or.inl rfl
    | some g => exact Or.inr (by simp))
/-- a post that tells the answer, and that old memory stays -/
def Tells (v : Value) (w : World) (e : Ending) (w' : World) : Prop := e = .returned v ∧ Below w.heap.size w w'
theorem Tells.of_same {P : Program} {f : FuncId} {args : Array Value} {w : World} {v : Value} (h : Calls P f args w fun e w' => e = .returned v ∧ w = w') : Calls P f args w (Tells v w) :=
  h.mono fun _ _ ⟨he, hw⟩ => ⟨he, by rw [← hw]; exact Below.refl _ _⟩
theorem add_off (b off j : Nat) : (⟨b, off, none⟩ : Addr).add j = ⟨b, off + j, none⟩ := by
  unfold Addr.add
  split
  · subst_vars; rfl
  · rfl

theorem only_drew {a w : World} {row : Option Nat} (h : a.grownBy w row) : a.grownBy w.drew row := ⟨h.os, h.tape, h.output, h.size, h.block⟩

theorem heap_newN (w : World) (o : Obj) : (w.alloc o).heap[w.heap.size]? = some o := by
  show (w.heap.push o)[w.heap.size]? = some o
  simp
theorem cell_alloc_row (w : World) (cs : Array Value) (t : TypeId) (j : Nat) : (w.alloc (.cells cs t)).cell? ⟨w.heap.size, j, none⟩ = cs[j]? :=
  cell_of_row _ _ _ cs t (0, 0) (heap_newN w _)
end Go.Proofs.YtfgoflaeclfggaaGreatDoor
end
section
namespace Go.Proofs.YtfgoflaeclfggaaGreatDoor
open Go.RowKit Go.Extern.Stop Go.Stop Go.Extern

/-- nothing but an error of this package, with its place and its number -/
def Err1 (w : World) (A : Nat → Addr) (op : ByteArray) (pl : Int) (k : Nat) (e : Ending) (w' : World) : Prop :=
  ∃ b, e = .returned (.iface 98 (.pointer (some ⟨b, 0, none⟩))) ∧ (Tree.fault b op pl (.leaf (A k))).lies w' ∧ Below w.heap.size w w'
/-- the same behind a first result -/
def Err2 (w : World) (A : Nat → Addr) (op : ByteArray) (pl : Int) (k : Nat) (v : Value) (e : Ending) (w' : World) : Prop :=
  ∃ b, e = .returned (.tuple #[v, .iface 98 (.pointer (some ⟨b, 0, none⟩))]) ∧ (Tree.fault b op pl (.leaf (A k))).lies w' ∧ Below w.heap.size w w'
theorem new_at (op : ByteArray) (pl : Int) (n : Nat) (w : World) (A : Nat → Addr) (hr : Roots w A) (hn : 1 ≤ n ∧ n ≤ 11) :
    Calls Tryz.prog 59 #[.string op, .int .i64 pl, .int .i64 (n : Int)] w (Err1 w A op pl n) := by
  have hk : known (n : Int) = n := by unfold known; rw [if_pos (by omega)]; rfl
  refine (new_any op pl n w A hr (by omega)).mono fun e w' ⟨he, hb, _, hl⟩ => ?_
  rw [hk] at he hl
  exact ⟨_, he, hl, hb⟩
theorem fault_val (b : Nat) (op : ByteArray) (pl : Int) (t : Tree) : (Tree.fault b op pl t).val = .iface 98 (.pointer (some ⟨b, 0, none⟩)) := rfl
theorem Err1.under {w w0 : World} {A : Nat → Addr} {op : ByteArray} {pl : Int} {k : Nat} {e : Ending} {w' : World} (hb : Below w0.heap.size w0 w) (h : Err1 w A op pl k e w') : Err1 w0 A op pl k e w' := by
  obtain ⟨b, h1, h2, h3⟩ := h
  exact ⟨b, h1, h2, hb.trans (h3.mono hb.size)⟩
end Go.Proofs.YtfgoflaeclfggaaGreatDoor
end
section
namespace Go.Proofs.YtfgoflaeclfggaaGreatDoor
open Go.RowKit Go.Extern.Stop Go.Stop Go.Extern

/-- block b begins a chain: these packages and places, one within another, and then the error of the number -/
def Chn (w : World) (A : Nat → Addr) (b : Nat) (L : List (ByteArray × Int)) (m : Nat) : Prop :=
  ∃ (op : ByteArray) (pl : Int) (bs : List (Nat × ByteArray × Int)), (op, pl) :: bs.map Prod.snd = L ∧ (chainT ((b, op, pl) :: bs) (A m)).lies w
theorem Chn.next {w w' : World} {A : Nat → Addr} {b : Nat} {L : List (ByteArray × Int)} {m : Nat} (hb : Below w.heap.size w w') (h : Chn w A b L m) : Chn w' A b L m := by
  obtain ⟨op, pl, bs, h1, h2⟩ := h
  exact ⟨op, pl, bs, h1, Tree.lies_below hb h2⟩
theorem Chn.one {w : World} {A : Nat → Addr} {b : Nat} {op : ByteArray} {pl : Int} {m : Nat} (h : (Tree.fault b op pl (.leaf (A m))).lies w) : Chn w A b [(op, pl)] m := ⟨op, pl, [], rfl, h⟩
/-- an error, alone -/
def FErr1 (w : World) (A : Nat → Addr) (L : List (ByteArray × Int)) (m : Nat) (e : Ending) (w' : World) : Prop :=
  ∃ b, e = .returned (.iface 98 (.pointer (some ⟨b, 0, none⟩))) ∧ Chn w' A b L m ∧ Below w.heap.size w w'
/-- an error behind a first result -/
def FErr2 (w : World) (A : Nat → Addr) (L : List (ByteArray × Int)) (m : Nat) (u : Value) (e : Ending) (w' : World) : Prop :=
  ∃ b, e = .returned (.tuple #[u, .iface 98 (.pointer (some ⟨b, 0, none⟩))]) ∧ Chn w' A b L m ∧ Below w.heap.size w w'
theorem Err1.chn {w : World} {A : Nat → Addr} {op : ByteArray} {pl : Int} {m : Nat} {e : Ending} {w' : World} (h : Err1 w A op pl m e w') : FErr1 w A [(op, pl)] m e w' := by
  obtain ⟨b, he, hl, hb⟩ := h
  exact ⟨b, he, Chn.one hl, hb⟩
theorem Err2.chn {w : World} {A : Nat → Addr} {op : ByteArray} {pl : Int} {m : Nat} {u : Value} {e : Ending} {w' : World} (h : Err2 w A op pl m u e w') : FErr2 w A [(op, pl)] m u e w' := by
  obtain ⟨b, he, hl, hb⟩ := h
  exact ⟨b, he, Chn.one hl, hb⟩
theorem under_chn (op : ByteArray) (pl : Int) (b : Nat) (L : List (ByteArray × Int)) (m : Nat) (w : World) (A : Nat → Addr) (h : Chn w A b L m) :
    Calls Tryz.prog 89 #[.string op, .int .i64 pl, .iface 98 (.pointer (some ⟨b, 0, none⟩))] w (FErr1 w A ((op, pl) :: L) m) := by
  obtain ⟨op', pl', bs, rfl, hl⟩ := h
  exact (under_any op pl (chainT ((b, op', pl') :: bs) (A m)) w hl rfl).mono fun e w' ⟨he, hb, _, hl'⟩ => ⟨w.heap.size, he, ⟨op, pl, (b, op', pl') :: bs, rfl, hl'⟩, hb⟩
theorem under_none (op : ByteArray) (pl : Int) (w : World) :
    Calls Tryz.prog 89 #[.string op, .int .i64 pl, .nilIface] w (Tells .nilIface w) := Tells.of_same (under_nil op pl w)
/-- the document's: its number, and its two slices of one length -/
def WChn (w : World) (x : Option (List (ByteArray × Int) × Nat)) (a : Int) (po pa : Option Addr) (n : Nat) : Prop := match x with
  | none => a = 0 ∧ po = none ∧ pa = none ∧ n = 0
  | some (L, m) => a = m ∧ n = L.length ∧ WantV w po pa n n L
theorem WChn.next {w w' : World} {x : Option (List (ByteArray × Int) × Nat)} {a : Int} {po pa : Option Addr} {n : Nat} (hb : Below w.heap.size w w') (h : WChn w x a po pa n) : WChn w' x a po pa n := by
  cases x with
  | none => exact h
  | some y => exact ⟨h.1, h.2.1, h.2.2.below hb⟩
/-- the program's: nil, or a chain -/
def PChn (w : World) (A : Nat → Addr) (x : Option (List (ByteArray × Int) × Nat)) (v : Value) : Prop := match x with
  | none => v = .nilIface
  | some (L, m) => ∃ b, v = .iface 98 (.pointer (some ⟨b, 0, none⟩)) ∧ Chn w A b L m
theorem PChn.next {w w' : World} {A : Nat → Addr} {x : Option (List (ByteArray × Int) × Nat)} {v : Value} (hb : Below w.heap.size w w') (h : PChn w A x v) : PChn w' A x v := by
  cases x with
  | none => exact h
  | some y =>
    obtain ⟨b, h1, h2⟩ := h
    exact ⟨b, h1, h2.next hb⟩
theorem is_chn {w : World} {A : Nat → Addr} {x : Option (List (ByteArray × Int) × Nat)} {v : Value} {a : Int} {po pa : Option Addr} {n : Nat} (hr : Roots w A) (hT : TypeVar w) (hx : ∀ y, x = some y → 1 ≤ y.2 ∧ y.2 ≤ 11) (h : PChn w A x v) (h' : WChn w x a po pa n) :
    Calls Tryz.prog 20 #[v, .agg #[.int .i64 a, .slice po n n, .slice pa n n]] w (Tells (.bool true) w) := by
  cases x with
  | none =>
    obtain ⟨rfl, rfl, rfl, rfl⟩ := h'
    obtain rfl : v = .nilIface := h
    exact Is_none none none 0 0 0 0 w
  | some y =>
    obtain ⟨rfl, hn, hw⟩ := h'
    obtain ⟨b, rfl, op, pl, bs, hL, hl⟩ := h
    have hL2 : List.map Prod.snd ((b, op, pl) :: bs) = y.1 := hL
    exact Is_chain ((b, op, pl) :: bs) y.2 (hx y rfl) po pa n n n w A hr hT hl (by rw [hL2]; exact hw) (by rw [hn, ← hL2, List.length_map])
end Go.Proofs.YtfgoflaeclfggaaGreatDoor
end
section
/- Plain mathematics of numbers as lists of digits: values, digits, trimming; no part of the program. -/
namespace Go.Proofs.YtfgoflaeclfggaaGreatDoor.NatM

/-- The value of a list of digits in base B, the lowest first. -/
def valB (B : Nat) : List Nat → Nat
  | [] => 0
  | x :: l => x + B * valB B l
def okB (B : Nat) (l : List Nat) : Prop := ∀ x ∈ l, x < B
/-- No 0 at the end. -/
def nrm (l : List Nat) : Prop := ∀ x, l.getLast? = some x → x ≠ 0

/-- The digits of n in base B, the lowest first, none 0 at the end. -/
def digs (B n : Nat) : List Nat := if _h : B ≤ 1 ∨ n = 0 then [] else n % B :: digs B (n / B)
termination_by n
decreasing_by
  have : n / B < n := Nat.div_lt_self (by omega) (by omega)
  exact this

theorem digs_zero (B : Nat) : digs B 0 = [] := by rw [digs]; simp
theorem digs_pos {B n : Nat} (hB : 2 ≤ B) (hn : 0 < n) : digs B n = n % B :: digs B (n / B) := by
  rw [digs]; rw [dif_neg (by omega)]
theorem valB_digs {B : Nat} (hB : 2 ≤ B) : ∀ n, valB B (digs B n) = n := by
  intro n
  induction n using Nat.strongRecOn with
  | ind n ih =>
    rcases Nat.eq_zero_or_pos n with rfl | h
    · rw [digs_zero]; rfl
    · rw [digs_pos hB h, valB, ih _ (Nat.div_lt_self h (by omega))]
      exact Nat.mod_add_div n B
theorem digs_ok {B : Nat} (hB : 2 ≤ B) : ∀ n, okB B (digs B n) := by
  intro n
  induction n using Nat.strongRecOn with
  | ind n ih =>
    rcases Nat.eq_zero_or_pos n with rfl | h
    · rw [digs_zero]; intro x hx; cases hx
    · rw [digs_pos hB h]
      intro x hx
      rcases List.mem_cons.1 hx with rfl | hx
      · exact Nat.mod_lt _ (by omega)
      · exact ih _ (Nat.div_lt_self h (by omega)) x hx
theorem digs_eq_nil {B n : Nat} (hB : 2 ≤ B) : digs B n = [] ↔ n = 0 := by
  rcases Nat.eq_zero_or_pos n with rfl | h
  · simp [digs_zero]
  · rw [digs_pos hB h]; simp; omega
theorem digs_nrm {B : Nat} (hB : 2 ≤ B) : ∀ n, nrm (digs B n) := by
  intro n
  induction n using Nat.strongRecOn with
  | ind n ih =>
    rcases Nat.eq_zero_or_pos n with rfl | h
    · rw [digs_zero]; intro x hx; cases hx
    · rw [digs_pos hB h]
      intro x hx
      have ihn := ih _ (Nat.div_lt_self h (by omega : 1 < B))
      cases hd : digs B (n / B) with
      | nil =>
        rw [hd] at hx
        have h0 := (digs_eq_nil hB).1 hd
        simp at hx
        subst hx
        have hm := Nat.mod_add_div n B
        rw [h0] at hm
        simp at hm
        omega
      | cons y t =>
        rw [hd] at hx ihn
        rw [List.getLast?_cons_cons] at hx
        exact ihn x hx
theorem okB_tail {B x : Nat} {l : List Nat} (h : okB B (x :: l)) : okB B l := fun y hy => h y (List.mem_cons_of_mem _ hy)
theorem okB_head {B x : Nat} {l : List Nat} (h : okB B (x :: l)) : x < B := h x List.mem_cons_self
theorem nrm_tail {x : Nat} {l : List Nat} (h : nrm (x :: l)) : nrm l := by
  intro y hy
  cases l with
  | nil => cases hy
  | cons z t => exact h y (by rw [List.getLast?_cons_cons]; exact hy)
theorem valB_pos {B : Nat} (hB : 2 ≤ B) : ∀ {l : List Nat}, nrm l → l ≠ [] → 0 < valB B l
  | [], _, h => absurd rfl h
  | [x], hn, _ => by
    have := hn x rfl
    simp [valB]; omega
  | x :: y :: t, hn, _ => by
    have := valB_pos hB (nrm_tail hn) (by simp)
    rw [valB]
    have := Nat.mul_pos (by omega : 0 < B) this
    omega
theorem digs_valB {B : Nat} (hB : 2 ≤ B) : ∀ {l : List Nat}, okB B l → nrm l → digs B (valB B l) = l
  | [], _, _ => digs_zero B
  | x :: l, ho, hn => by
    have hp : 0 < valB B (x :: l) := valB_pos hB hn (by simp)
    have hx := okB_head ho
    rw [digs_pos hB hp, valB, Nat.add_mul_mod_self_left, Nat.mod_eq_of_lt hx, Nat.add_mul_div_left _ _ (by omega), Nat.div_eq_of_lt hx, Nat.zero_add, digs_valB hB (okB_tail ho) (nrm_tail hn)]
theorem digs_unique {B : Nat} (hB : 2 ≤ B) {l : List Nat} {n : Nat} (ho : okB B l) (hn : nrm l) (hv : valB B l = n) : digs B n = l := by
  rw [← hv]; exact digs_valB hB ho hn
theorem valB_append (B : Nat) : ∀ (a b : List Nat), valB B (a ++ b) = valB B a + B ^ a.length * valB B b
  | [], b => by simp [valB]
  | x :: a, b => by
    rw [List.cons_append, valB, valB_append B a b, valB, List.length_cons, Nat.pow_succ, Nat.mul_add, Nat.mul_comm (B ^ a.length) B, Nat.mul_assoc]
    omega
theorem valB_lt {B : Nat} (hB : 1 ≤ B) : ∀ {l : List Nat}, okB B l → valB B l < B ^ l.length
  | [], _ => by simp [valB]
  | x :: l, h => by
    have h1 := valB_lt hB (okB_tail h)
    have h2 := okB_head h
    rw [valB, List.length_cons, Nat.pow_succ, Nat.mul_comm (B ^ l.length) B]
    have : B * (valB B l + 1) ≤ B * B ^ l.length := Nat.mul_le_mul_left _ h1
    rw [Nat.mul_add] at this
    omega
theorem valB_replicate (B k : Nat) : valB B (List.replicate k 0) = 0 := by
  induction k with
  | zero => rfl
  | succ k ih => rw [List.replicate_succ, valB, ih]; simp
theorem valB_snoc (B : Nat) (l : List Nat) (x : Nat) : valB B (l ++ [x]) = valB B l + B ^ l.length * x := by
  rw [valB_append]; simp [valB]
theorem take_snoc {l : List Nat} {k : Nat} (h : k < l.length) : l.take (k + 1) = l.take k ++ [l[k]] := by
  rw [List.take_succ_eq_append_getElem h]
theorem valB_take_succ (B : Nat) {l : List Nat} {k : Nat} (h : k < l.length) : valB B (l.take (k + 1)) = valB B (l.take k) + B ^ k * l[k] := by
  rw [take_snoc h, valB_snoc, List.length_take, Nat.min_eq_left (by omega)]
theorem drop_cons {l : List Nat} {k : Nat} (h : k < l.length) : l.drop k = l[k] :: l.drop (k + 1) := by
  rw [List.drop_eq_getElem_cons h]
theorem valB_drop (B : Nat) {l : List Nat} {k : Nat} (h : k < l.length) : valB B (l.drop k) = l[k] + B * valB B (l.drop (k + 1)) := by
  rw [drop_cons h, valB]
theorem valB_split (B : Nat) (l : List Nat) (k : Nat) (h : k ≤ l.length) : valB B l = valB B (l.take k) + B ^ k * valB B (l.drop k) := by
  have := valB_append B (l.take k) (l.drop k)
  rw [List.take_append_drop, List.length_take, Nat.min_eq_left h] at this
  exact this
theorem okB_take {B : Nat} {l : List Nat} (h : okB B l) (k : Nat) : okB B (l.take k) := fun x hx => h x (List.mem_of_mem_take hx)
theorem okB_drop {B : Nat} {l : List Nat} (h : okB B l) (k : Nat) : okB B (l.drop k) := fun x hx => h x (List.mem_of_mem_drop hx)
theorem okB_get {B : Nat} {l : List Nat} (h : okB B l) {k : Nat} (hk : k < l.length) : l[k] < B := h _ (List.getElem_mem hk)
theorem okB_append {B : Nat} {a b : List Nat} (ha : okB B a) (hb : okB B b) : okB B (a ++ b) := fun x hx => (List.mem_append.1 hx).elim (ha x) (hb x)
theorem okB_one {B x : Nat} (h : x < B) : okB B [x] := fun y hy => by simp at hy; omega
theorem okB_nil (B : Nat) : okB B [] := fun _ h => by cases h
theorem okB_snoc {B x : Nat} {l : List Nat} (h : okB B l) (hx : x < B) : okB B (l ++ [x]) := okB_append h (okB_one hx)
theorem okB_replicate {B : Nat} (hB : 1 ≤ B) (k : Nat) : okB B (List.replicate k 0) := fun x hx => by have := (List.mem_replicate.1 hx).2; omega
theorem valB_set (B : Nat) (x : Nat) : ∀ {l : List Nat} {k : Nat} (h : k < l.length), valB B (l.set k x) + B ^ k * l[k] = valB B l + B ^ k * x
  | y :: l, 0, _ => by simp [valB]; omega
  | y :: l, k + 1, h => by
    have ih := valB_set B x (l := l) (k := k) (by simpa using h)
    simp only [List.set_cons_succ, valB, List.getElem_cons_succ]
    rw [Nat.pow_succ, Nat.mul_comm (B ^ k) B, Nat.mul_assoc, Nat.mul_assoc]
    have : B * (valB B (l.set k x) + B ^ k * l[k]'(by simpa using h)) = B * (valB B l + B ^ k * x) := by rw [ih]
    rw [Nat.mul_add, Nat.mul_add] at this
    omega
theorem okB_set {B : Nat} {l : List Nat} (h : okB B l) {x : Nat} (hx : x < B) (k : Nat) : okB B (l.set k x) := fun y hy => by
  rcases List.mem_or_eq_of_mem_set hy with h1 | h1
  · exact h y h1
  · omega

/-! ### trimming -/
/-- the length of a list without its zeros at the end -/
def tlen (l : List Nat) : Nat := (digs 2 0).length + (l.reverse.dropWhile (· == 0)).length
theorem nrm_take {l : List Nat} {k : Nat} (hk : k ≤ l.length) (h : k = 0 ∨ ∃ h : k - 1 < l.length, l[k - 1] ≠ 0) : nrm (l.take k) := by
  intro x hx
  rcases h with rfl | ⟨h1, h2⟩
  · simp at hx
  · rcases Nat.eq_zero_or_pos k with rfl | hp
    · simp at hx
    · rw [List.getLast?_eq_getElem?, List.length_take, Nat.min_eq_left hk, List.getElem?_take, if_pos (by omega), List.getElem?_eq_getElem h1] at hx
      have := Option.some.inj hx
      omega
theorem trim_eq {B : Nat} (hB : 2 ≤ B) {l : List Nat} (ho : okB B l) {k : Nat} (hk : k ≤ l.length) (hv : valB B (l.take k) = valB B l) (h : k = 0 ∨ ∃ h : k - 1 < l.length, l[k - 1] ≠ 0) :
    l.take k = digs B (valB B l) := (digs_unique hB (okB_take ho k) (nrm_take hk h) hv).symm
theorem trim_step (B : Nat) {l : List Nat} {k : Nat} (h0 : 0 < k) (hk : k ≤ l.length) (hv : valB B (l.take k) = valB B l) (hz : l[k - 1]'(by omega) = 0) : valB B (l.take (k - 1)) = valB B l := by
  have := valB_take_succ B (l := l) (k := k - 1) (by omega)
  rw [show k - 1 + 1 = k by omega, hz] at this
  simp at this
  omega
theorem digs_length_le {B : Nat} (hB : 2 ≤ B) {n k : Nat} (h : n < B ^ k) : (digs B n).length ≤ k := by
  rcases Nat.lt_or_ge k (digs B n).length with hlt | hge
  · exfalso
    have hne : digs B n ≠ [] := by intro e; rw [e] at hlt; simp at hlt
    have hn := valB_digs hB n
    have hs := valB_split B (digs B n) ((digs B n).length - 1) (by omega)
    have hd := valB_drop B (l := digs B n) (k := (digs B n).length - 1) (by omega)
    have hx : (digs B n)[(digs B n).length - 1]'(by omega) ≠ 0 := digs_nrm hB n _ (by rw [List.getLast?_eq_getElem?, List.getElem?_eq_getElem (by omega)])
    have hm : B ^ ((digs B n).length - 1) * 1 ≤ B ^ ((digs B n).length - 1) * valB B ((digs B n).drop ((digs B n).length - 1)) := Nat.mul_le_mul_left _ (by omega)
    have hp : B ^ k ≤ B ^ ((digs B n).length - 1) := Nat.pow_le_pow_right (by omega) (by omega)
    omega
  · exact hge
theorem digs_length_lt {B : Nat} (hB : 2 ≤ B) {m n : Nat} (h : (digs B m).length < (digs B n).length) : m < n := by
  rcases Nat.lt_or_ge m n with h1 | h1
  · exact h1
  · exfalso
    have h2 : n < B ^ (digs B m).length := by
      have := valB_lt (B := B) (by omega) (digs_ok hB m)
      rw [valB_digs hB] at this
      omega
    have := digs_length_le hB h2
    omega
/-- Two lists that are one from i + 1 on, and differ at i. -/
theorem valB_lt_at {B : Nat} (hB : 1 ≤ B) {a b : List Nat} {i : Nat} (ha : okB B a) (hia : i < a.length) (hib : i < b.length) (hd : a.drop (i + 1) = b.drop (i + 1)) (hlt : a[i] < b[i]) : valB B a < valB B b := by
  rw [valB_split B a i (by omega), valB_split B b i (by omega), valB_drop B hia, valB_drop B hib, hd]
  have h1 := valB_lt hB (okB_take ha i)
  rw [List.length_take, Nat.min_eq_left (by omega)] at h1
  have h2 : B ^ i * (a[i] + 1) ≤ B ^ i * b[i] := Nat.mul_le_mul_left _ hlt
  rw [Nat.mul_add] at h2
  rw [Nat.mul_add, Nat.mul_add]
  omega
theorem digs_inj {B : Nat} (hB : 2 ≤ B) {m n : Nat} (h : digs B m = digs B n) : m = n := by
  rw [← valB_digs hB m, h, valB_digs hB]
theorem digs_one {B x : Nat} (hB : 2 ≤ B) (h0 : 0 < x) (hx : x < B) : digs B x = [x] := by
  rw [digs_pos hB h0, Nat.mod_eq_of_lt hx, Nat.div_eq_of_lt hx, digs_zero]

/-! ### half the width -/
def half : List Nat → List Nat
  | [] => []
  | x :: l => x % 65536 :: x / 65536 :: half l
theorem half_ok : ∀ {l : List Nat}, okB 4294967296 l → okB 65536 (half l)
  | [], _ => okB_nil _
  | x :: l, h => by
    intro y hy
    have hx := okB_head h
    rcases List.mem_cons.1 hy with rfl | hy
    · omega
    · rcases List.mem_cons.1 hy with rfl | hy
      · omega
      · exact half_ok (okB_tail h) y hy
theorem half_val : ∀ l : List Nat, valB 65536 (half l) = valB 4294967296 l
  | [] => rfl
  | x :: l => by
    rw [half, valB, valB, valB, half_val l]
    omega
theorem half_append : ∀ a b : List Nat, half (a ++ b) = half a ++ half b
  | [], _ => rfl
  | x :: a, b => by rw [List.cons_append, half, half, half_append a b]; rfl
theorem half_length : ∀ l : List Nat, (half l).length = 2 * l.length
  | [] => rfl
  | x :: l => by rw [half, List.length_cons, List.length_cons, half_length l, List.length_cons]; omega
/-- Two digits in base 65536 are one in base 2^32. -/
def join : List Nat → List Nat
  | [] => []
  | [x] => [x]
  | x :: y :: l => (x + 65536 * y) :: join l
theorem join_val : ∀ l : List Nat, valB 4294967296 (join l) = valB 65536 l
  | [] => rfl
  | [x] => by simp [join, valB]
  | x :: y :: l => by
    rw [join, valB, valB, valB, join_val l]
    omega
theorem join_ok : ∀ {l : List Nat}, okB 65536 l → okB 4294967296 (join l)
  | [], _ => okB_nil _
  | [x], h => okB_one (by have := okB_head h; omega)
  | x :: y :: l, h => by
    intro z hz
    have h1 := okB_head h
    have h2 := okB_head (okB_tail h)
    rcases List.mem_cons.1 hz with rfl | hz
    · omega
    · exact join_ok (okB_tail (okB_tail h)) z hz
theorem join_nrm : ∀ {l : List Nat}, okB 65536 l → nrm l → nrm (join l)
  | [], _, _ => fun _ h => by cases h
  | [x], _, hn => by
    intro z hz
    exact hn z (by simpa [join] using hz)
  | x :: y :: l, ho, hn => by
    cases l with
    | nil =>
      intro z hz
      have := hn y rfl
      simp [join] at hz
      omega
    | cons u t =>
      have ih := join_nrm (l := u :: t) (okB_tail (okB_tail ho)) (nrm_tail (nrm_tail hn))
      have hne : join (u :: t) ≠ [] := by cases t <;> simp [join]
      intro z hz
      rw [join] at hz
      cases hj : join (u :: t) with
      | nil => exact absurd hj hne
      | cons p q =>
        rw [hj] at hz ih
        rw [List.getLast?_cons_cons] at hz
        exact ih z hz
theorem join_digs (n : Nat) : join (digs 65536 n) = digs 4294967296 n := by
  have := digs_unique (B := 4294967296) (by omega) (join_ok (digs_ok (B := 65536) (by omega) n)) (join_nrm (digs_ok (by omega) n) (digs_nrm (by omega) n)) (join_val _)
  rw [valB_digs (by omega)] at this
  exact this.symm

/-! ### the same, with what stands at a place said by '?' -/
theorem some_get {l : List Nat} {k : Nat} (h : k < l.length) : ∃ x, l[k]? = some x := ⟨_, List.getElem?_eq_getElem h⟩
theorem get_lt {l : List Nat} {k x : Nat} (h : l[k]? = some x) : k < l.length := (List.getElem?_eq_some_iff.1 h).1
theorem get_eq {l : List Nat} {k x : Nat} (h : l[k]? = some x) : l[k]'(get_lt h) = x := (List.getElem?_eq_some_iff.1 h).2
theorem ok_get {B : Nat} {l : List Nat} (ho : okB B l) {k x : Nat} (h : l[k]? = some x) : x < B := ho x (List.mem_of_getElem? h)
theorem valB_takeq (B : Nat) {l : List Nat} {k x : Nat} (h : l[k]? = some x) : valB B (l.take (k + 1)) = valB B (l.take k) + B ^ k * x := by
  rw [valB_take_succ B (get_lt h), get_eq h]
theorem valB_dropq (B : Nat) {l : List Nat} {k x : Nat} (h : l[k]? = some x) : valB B (l.drop k) = x + B * valB B (l.drop (k + 1)) := by
  rw [valB_drop B (get_lt h), get_eq h]
theorem valB_setq (B : Nat) (y : Nat) {l : List Nat} {k x : Nat} (h : l[k]? = some x) : valB B (l.set k y) + B ^ k * x = valB B l + B ^ k * y := by
  have := valB_set B y (get_lt h)
  rw [get_eq h] at this
  exact this
theorem trimq {B : Nat} (hB : 2 ≤ B) {l : List Nat} (ho : okB B l) {k x : Nat} (hk : k ≤ l.length) (hv : valB B (l.take k) = valB B l) (hx : l[k - 1]? = some x) (hn : x ≠ 0) :
    l.take k = digs B (valB B l) := trim_eq hB ho hk hv (Or.inr ⟨get_lt hx, by rw [get_eq hx]; exact hn⟩)
theorem trim0 {B : Nat} (hB : 2 ≤ B) {l : List Nat} (ho : okB B l) (hv : valB B (l.take 0) = valB B l) : digs B (valB B l) = [] := by
  have := trim_eq hB ho (Nat.zero_le _) hv (Or.inl rfl)
  rw [List.take_zero] at this
  exact this.symm
theorem trim_stepq (B : Nat) {l : List Nat} {k : Nat} (h0 : 0 < k) (hk : k ≤ l.length) (hv : valB B (l.take k) = valB B l) (hx : l[k - 1]? = some 0) : valB B (l.take (k - 1)) = valB B l :=
  trim_step B h0 hk hv (get_eq hx)
theorem lt_atq {B : Nat} (hB : 1 ≤ B) {a b : List Nat} {i x y : Nat} (ha : okB B a) (hx : a[i]? = some x) (hy : b[i]? = some y) (hd : a.drop (i + 1) = b.drop (i + 1)) (hlt : x < y) : valB B a < valB B b :=
  valB_lt_at hB ha (get_lt hx) (get_lt hy) hd (by rw [get_eq hx, get_eq hy]; exact hlt)
theorem drop_eqq {a b : List Nat} {i x : Nat} (hx : a[i]? = some x) (hy : b[i]? = some x) (hd : a.drop (i + 1) = b.drop (i + 1)) : a.drop i = b.drop i := by
  rw [drop_cons (get_lt hx), drop_cons (get_lt hy), get_eq hx, get_eq hy, hd]
theorem set_takeq {l : List Nat} {k x y : Nat} (h : l[k]? = some x) : (l.set k y).take (k + 1) = l.take k ++ [y] := by
  have hk := get_lt h
  rw [take_snoc (by simpa using hk), List.take_set_of_le (Nat.le_refl _)]
  simp
end Go.Proofs.YtfgoflaeclfggaaGreatDoor.NatM
end
section
namespace Go.Proofs.YtfgoflaeclfggaaGreatDoor.NatM
theorem pow_pos' {B : Nat} (hB : 1 ≤ B) (k : Nat) : 0 < B ^ k := Nat.pow_pos (by omega)
theorem nrm_of_ge {B : Nat} (hB : 2 ≤ B) {t : List Nat} (ho : okB B t) (h : t = [] ∨ B ^ (t.length - 1) ≤ valB B t) : nrm t := by
  rcases h with rfl | h
  · intro x hx; cases hx
  · intro x hx hx0
    subst hx0
    rw [List.getLast?_eq_getElem?] at hx
    have h1 := valB_takeq B hx
    have hl := get_lt hx
    rw [show t.length - 1 + 1 = t.length by omega, List.take_length] at h1
    have h2 := valB_lt (B := B) (by omega) (okB_take ho (t.length - 1))
    rw [List.length_take, Nat.min_eq_left (by omega)] at h2
    simp at h1
    omega
theorem ge_of_nrm {B : Nat} (_ : 2 ≤ B) {t : List Nat} (hn : nrm t) (hne : t ≠ []) : B ^ (t.length - 1) ≤ valB B t := by
  have hl : 0 < t.length := List.length_pos_iff.2 hne
  obtain ⟨x, hx⟩ := some_get (l := t) (k := t.length - 1) (by omega)
  have h0 := hn x (by rw [List.getLast?_eq_getElem?]; exact hx)
  have h1 := valB_takeq B hx
  rw [show t.length - 1 + 1 = t.length by omega, List.take_length] at h1
  have : B ^ (t.length - 1) * 1 ≤ B ^ (t.length - 1) * x := Nat.mul_le_mul_left _ (by omega)
  omega

/-- Where a sum stands when k limbs of m have been added to s. -/
structure RInv (B : Nat) (s m : List Nat) (k c : Nat) (t : List Nat) : Prop where
  ok : okB B t
  len : t.length = max s.length k
  car : c ≤ 1
  val : valB B t + B ^ k * c = valB B s + valB B (m.take k)
  bnd : k ≤ max s.length m.length + 1
  top : k = max s.length m.length + 1 → B ^ max s.length m.length ≤ valB B s + valB B m
theorem RInv.start {B : Nat} {s m : List Nat} (hs : okB B s) : RInv B s m 0 0 s :=
  ⟨hs, by simp, by omega, by simp [valB], by omega, by omega⟩
theorem valB_take_all (B : Nat) {m : List Nat} {k : Nat} (h : m.length ≤ k) : valB B (m.take k) = valB B m := by rw [List.take_of_length_le h]
theorem valB_take_le (B : Nat) (m : List Nat) (k : Nat) : valB B (m.take k) ≤ valB B m := by
  rcases Nat.le_total k m.length with h | h
  · have := valB_split B m k h; omega
  · rw [valB_take_all B h]; exact Nat.le_refl _
theorem RInv.stop {B : Nat} (hB : 2 ≤ B) {s m : List Nat} (hs : okB B s) (hm : okB B m) {k c : Nat} {t : List Nat} (h : RInv B s m k c t) (hk : max s.length m.length < k) : c = 0 := by
  have hv := h.val
  have h1 := valB_take_le B m k
  have h2 := valB_lt (B := B) (by omega) hs
  have h3 := valB_lt (B := B) (by omega) hm
  have h4 : B ^ s.length ≤ B ^ max s.length m.length := Nat.pow_le_pow_right (by omega) (by omega)
  have h5 : B ^ m.length ≤ B ^ max s.length m.length := Nat.pow_le_pow_right (by omega) (by omega)
  have h6 : B ^ (max s.length m.length + 1) ≤ B ^ k := Nat.pow_le_pow_right (by omega) (by omega)
  rw [Nat.pow_succ] at h6
  have h7 : B ^ max s.length m.length * 2 ≤ B ^ max s.length m.length * B := Nat.mul_le_mul_left _ hB
  rcases Nat.eq_zero_or_pos c with h | h
  · exact h
  · have : B ^ k * 1 ≤ B ^ k * c := Nat.mul_le_mul_left _ h
    omega
/-- The next limb of m, 0 behind its end. -/
def limbAt (m : List Nat) (k : Nat) : Nat := m.getD k 0
theorem limb_some {m : List Nat} {k y : Nat} (h : m[k]? = some y) : limbAt m k = y := by unfold limbAt; rw [List.getD_eq_getElem?_getD, h]; rfl
theorem limb_none {m : List Nat} {k : Nat} (h : m.length ≤ k) : limbAt m k = 0 := by unfold limbAt; rw [List.getD_eq_getElem?_getD, List.getElem?_eq_none h]; rfl
theorem limb_lt {B : Nat} (hB : 1 ≤ B) {m : List Nat} (hm : okB B m) (k : Nat) : limbAt m k < B := by
  rcases Nat.lt_or_ge k m.length with h | h
  · obtain ⟨y, hy⟩ := some_get h
    rw [limb_some hy]; exact ok_get hm hy
  · rw [limb_none h]; omega
theorem valB_take_limb (B : Nat) (m : List Nat) (k : Nat) : valB B (m.take (k + 1)) = valB B (m.take k) + B ^ k * limbAt m k := by
  rcases Nat.lt_or_ge k m.length with h | h
  · obtain ⟨y, hy⟩ := some_get h
    rw [limb_some hy, valB_takeq B hy]
  · rw [limb_none h, valB_take_all B h, valB_take_all B (by omega)]; simp
/-- The sum's list, one longer where it ends at k. -/
def grown (t : List Nat) (k : Nat) : List Nat := if k = t.length then t ++ [0] else t
theorem grown_val (B : Nat) (t : List Nat) (k : Nat) : valB B (grown t k) = valB B t := by
  unfold grown
  split
  · rw [valB_snoc]; simp
  · rfl
theorem step_eq {B : Nat} {x y c : Nat} : (x + y + c) % B + B * ((x + y + c) / B) = x + y + c := Nat.mod_add_div _ _
theorem carry_step {B T T' P x y c V M r q : Nat} (h1 : T' + P * x = T + P * r) (h2 : T + P * c = V + M) (h3 : r + B * q = x + y + c) : T' + P * B * q = V + (M + P * y) := by
  have e : P * (r + B * q) = P * (x + y + c) := by rw [h3]
  rw [Nat.mul_add, Nat.mul_add, Nat.mul_add, ← Nat.mul_assoc] at e
  omega
theorem RInv.step {B : Nat} (hB : 2 ≤ B) {s m : List Nat} (hs : okB B s) (hm : okB B m) {k c x : Nat} {t : List Nat} (h : RInv B s m k c t) (hgo : k < m.length ∨ c ≠ 0) (hx : (grown t k)[k]? = some x) :
    RInv B s m (k + 1) ((x + limbAt m k + c) / B) ((grown t k).set k ((x + limbAt m k + c) % B)) := by
  have hle : k ≤ max s.length m.length := by
    rcases Nat.lt_or_ge (max s.length m.length) k with h1 | h1
    · have := h.stop hB hs hm h1
      omega
    · exact h1
  have hgo' : okB B (grown t k) := by
    unfold grown; split
    · exact okB_snoc h.ok (by omega)
    · exact h.ok
  have hxl := ok_get hgo' hx
  have hyl := limb_lt (by omega : 1 ≤ B) hm k
  have hc := h.car
  refine ⟨okB_set hgo' (Nat.mod_lt _ (by omega)) _, ?_, ?_, ?_, by omega, ?_⟩
  · rw [List.length_set]; unfold grown; have := h.len; split
    · rw [List.length_append, List.length_singleton]; omega
    · omega
  · have : (x + limbAt m k + c) / B < 2 := by
      rw [Nat.div_lt_iff_lt_mul (by omega)]; omega
    omega
  · rw [valB_take_limb, Nat.pow_succ]
    exact carry_step (by rw [valB_setq B _ hx, grown_val]) h.val step_eq
  · intro hk
    have hkm : m.length ≤ k := by omega
    have hc0 : c ≠ 0 := by omega
    have hv := h.val
    rw [valB_take_all B hkm, show k = max s.length m.length by omega] at hv
    have : B ^ max s.length m.length * 1 ≤ B ^ max s.length m.length * c := Nat.mul_le_mul_left _ (by omega)
    omega
theorem RInv.done {B : Nat} (hB : 2 ≤ B) {s m : List Nat} (hs : nrm s) (hm : nrm m) {k : Nat} {t : List Nat} (h : RInv B s m k 0 t) (hk : m.length ≤ k) : digs B (valB B s + valB B m) = t := by
  have hv := h.val
  rw [valB_take_all B hk] at hv
  refine digs_unique hB h.ok (nrm_of_ge hB h.ok ?_) (by omega)
  have hl := h.len
  rcases Nat.eq_zero_or_pos t.length with h0 | h0
  · exact Or.inl (List.eq_nil_of_length_eq_zero h0)
  · right
    rcases Nat.lt_or_ge (max s.length m.length) t.length with h1 | h1
    · have := h.bnd
      have hk1 : k = max s.length m.length + 1 := by omega
      have := h.top hk1
      rw [show t.length - 1 = max s.length m.length by omega]
      omega
    · rcases Nat.le_total s.length m.length with h2 | h2
      · have := ge_of_nrm hB hm (List.length_pos_iff.1 (by omega))
        rw [show t.length - 1 = m.length - 1 by omega]
        omega
      · have := ge_of_nrm hB hs (List.length_pos_iff.1 (by omega))
        rw [show t.length - 1 = s.length - 1 by omega]
        omega
theorem grown_get {B : Nat} {s m : List Nat} {k c : Nat} {t : List Nat} (h : RInv B s m k c t) : ∃ x, (grown t k)[k]? = some x := by
  apply some_get
  have := h.len
  unfold grown
  split
  · rw [List.length_append, List.length_singleton]; omega
  · omega
end Go.Proofs.YtfgoflaeclfggaaGreatDoor.NatM
end
section
namespace Go.Proofs.YtfgoflaeclfggaaGreatDoor.NatM
/-! ### products -/
structure MInv (B : Nat) (a b : List Nat) (i j x c : Nat) (P : List Nat) : Prop where
  ok : okB B P
  len : P.length = a.length + b.length
  car : c < B
  zero : ∀ t, i + b.length ≤ t → t < P.length → P[t]? = some 0
  val : valB B P + B ^ (i + j) * c = valB B (a.take i) * valB B b + B ^ i * x * valB B (b.take j)
theorem mul_car {B c x y p : Nat} (hc : c < B) (hx : x < B) (hy : y < B) (hp : p < B) : c + (x * y + p) < B * B := by
  have h1 : x * y ≤ (B - 1) * (B - 1) := Nat.mul_le_mul (by omega) (by omega)
  obtain ⟨k, rfl⟩ : ∃ k, B = k + 1 := ⟨B - 1, by omega⟩
  simp only [Nat.add_sub_cancel] at h1
  have : (k + 1) * (k + 1) = k * k + 2 * k + 1 := by rw [Nat.add_mul, Nat.mul_add]; omega
  omega
theorem MInv.start {B : Nat} (hB : 1 ≤ B) (a b : List Nat) (x : Nat) : MInv B a b 0 0 x 0 (List.replicate (a.length + b.length) 0) :=
  ⟨okB_replicate hB _, List.length_replicate, by omega, fun t _ h => by
    rw [List.length_replicate] at h
    rw [List.getElem?_replicate, if_pos h], by rw [valB_replicate]; simp [valB]⟩
theorem MInv.step {B : Nat} {a b : List Nat} {i j x c p y : Nat} {P : List Nat} (h : MInv B a b i j x c P) (hx : x < B) (hb : okB B b) (hj : j < b.length) (hy : b[j]? = some y) (hp : P[i + j]? = some p) :
    MInv B a b i (j + 1) x ((c + (x * y + p)) / B) (P.set (i + j) ((c + (x * y + p)) % B)) := by
  have hc := h.car
  have hB : 0 < B := by omega
  have hyl := ok_get hb hy
  have hpl := ok_get h.ok hp
  refine ⟨okB_set h.ok (Nat.mod_lt _ hB) _, by rw [List.length_set]; exact h.len, ?_, ?_, ?_⟩
  · rw [Nat.div_lt_iff_lt_mul hB]; exact mul_car hc hx hyl hpl
  · intro t h1 h2
    rw [List.length_set] at h2
    rw [List.getElem?_set_ne (by omega)]
    exact h.zero t h1 h2
  · have h1 := valB_setq B ((c + (x * y + p)) % B) hp
    have h2 := valB_takeq B hy
    have h3 := h.val
    have h4 : (c + (x * y + p)) % B + B * ((c + (x * y + p)) / B) = c + (x * y + p) := Nat.mod_add_div _ _
    rw [h2, show i + (j + 1) = i + j + 1 by omega, Nat.pow_succ]
    generalize (c + (x * y + p)) % B = r at *
    generalize (c + (x * y + p)) / B = q at *
    have h5 : B ^ (i + j) = B ^ i * B ^ j := Nat.pow_add _ _ _
    rw [h5] at *
    grind
theorem MInv.row {B : Nat} {a b : List Nat} {i x c : Nat} {P : List Nat} (h : MInv B a b i b.length x c P) (hi : i < a.length) (hx : a[i]? = some x) (x' : Nat) :
    MInv B a b (i + 1) 0 x' 0 (P.set (i + b.length) c) := by
  have hc := h.car
  have hl := h.len
  refine ⟨okB_set h.ok hc _, by rw [List.length_set]; exact hl, by omega, ?_, ?_⟩
  · intro t h1 h2
    rw [List.length_set] at h2
    rw [List.getElem?_set_ne (by omega)]
    exact h.zero t (by omega) h2
  · have h1 := valB_setq B c (h.zero (i + b.length) (Nat.le_refl _) (by omega))
    have h2 := valB_takeq B hx
    have h3 := h.val
    rw [List.take_length] at h3
    rw [h2]
    simp [valB] at *
    rw [Nat.add_mul]
    omega
theorem MInv.again {B : Nat} {a b : List Nat} {i c x : Nat} {P : List Nat} (h : MInv B a b i 0 x c P) (hc : c = 0) (x' : Nat) : MInv B a b i 0 x' 0 P :=
  ⟨h.ok, h.len, by have := h.car; omega, h.zero, by have := h.val; subst hc; simp [valB] at *; exact this⟩
theorem MInv.done {B : Nat} {a b : List Nat} {x c : Nat} {P : List Nat} (h : MInv B a b a.length 0 x c P) (hc : c = 0) : valB B P = valB B a * valB B b := by
  have := h.val
  subst hc
  rw [List.take_length] at this
  simpa [valB] using this

/-! ### a number times a limb plus a limb, in place -/
structure EInv (B : Nat) (a : List Nat) (m c0 i c : Nat) (t : List Nat) : Prop where
  ok : okB B t
  len : t.length = a.length
  car : c < B
  rest : t.drop i = a.drop i
  val : valB B (t.take i) + B ^ i * c = valB B (a.take i) * m + c0
theorem EInv.start {B : Nat} {a : List Nat} (ha : okB B a) (m c0 : Nat) (hc : c0 < B) : EInv B a m c0 0 c0 a := ⟨ha, rfl, hc, rfl, by simp [valB]⟩
theorem drop_set_succ {l : List Nat} {k y : Nat} : (l.set k y).drop (k + 1) = l.drop (k + 1) := by
  rw [List.drop_set]; simp
theorem get_of_drop {s t : List Nat} {k : Nat} (h : s.drop k = t.drop k) : s[k]? = t[k]? := by
  have := congrArg (fun l : List Nat => l[0]?) h
  simpa using this
theorem drop_succ_of {s t : List Nat} {k : Nat} (h : s.drop k = t.drop k) : s.drop (k + 1) = t.drop (k + 1) := by
  have := congrArg (fun l : List Nat => l.drop 1) h
  simpa [List.drop_drop] using this
theorem EInv.step {B : Nat} {a : List Nat} {m c0 i c x : Nat} {t : List Nat} (ha : okB B a) (hm : m < B) (h : EInv B a m c0 i c t) (hx : a[i]? = some x) :
    EInv B a m c0 (i + 1) ((c + x * m) / B) (t.set i ((c + x * m) % B)) := by
  have hc := h.car
  have hB : 0 < B := by omega
  have hxl := ok_get ha hx
  have hxt : t[i]? = some x := (get_of_drop h.rest).trans hx
  refine ⟨okB_set h.ok (Nat.mod_lt _ hB) _, by rw [List.length_set]; exact h.len, ?_, ?_, ?_⟩
  · rw [Nat.div_lt_iff_lt_mul hB]
    have := mul_car (p := 0) hc hxl hm hB
    omega
  · rw [drop_set_succ]; exact drop_succ_of h.rest
  · rw [set_takeq hxt, valB_snoc, List.length_take, Nat.min_eq_left (by have := get_lt hxt; omega), valB_takeq B hx]
    have h3 := h.val
    have h4 : (c + x * m) % B + B * ((c + x * m) / B) = c + x * m := Nat.mod_add_div _ _
    generalize (c + x * m) % B = r at *
    generalize (c + x * m) / B = q at *
    rw [Nat.pow_succ]
    grind
theorem EInv.done {B : Nat} {a : List Nat} {m c0 c : Nat} {t : List Nat} (h : EInv B a m c0 a.length c t) : valB B (t ++ [c]) = valB B a * m + c0 := by
  have h1 := h.val
  rw [List.take_length] at h1
  rw [valB_snoc, h.len]
  rw [show t.take a.length = t by rw [← h.len, List.take_length]] at h1
  exact h1
theorem EInv.done0 {B : Nat} {a : List Nat} {m c0 : Nat} {t : List Nat} (h : EInv B a m c0 a.length 0 t) : valB B t = valB B a * m + c0 := by
  have := h.done
  rw [valB_snoc] at this
  simpa using this
theorem nrm_snoc {t : List Nat} {c : Nat} (h : c ≠ 0) : nrm (t ++ [c]) := by
  intro x hx
  simp at hx
  omega
theorem EInv.nrm0 {B : Nat} (hB : 2 ≤ B) {a : List Nat} {m c0 : Nat} {t : List Nat} (h : EInv B a m c0 a.length 0 t) (ha : nrm a) (hm : 1 ≤ m) : nrm t := by
  refine nrm_of_ge hB h.ok ?_
  rcases Nat.eq_zero_or_pos a.length with h0 | h0
  · exact Or.inl (List.eq_nil_of_length_eq_zero (by rw [h.len]; exact h0))
  · right
    have h1 := ge_of_nrm hB ha (List.length_pos_iff.1 h0)
    have h2 := h.done0
    have h3 : valB B a * 1 ≤ valB B a * m := Nat.mul_le_mul_left _ hm
    rw [h.len]
    omega

/-! ### division by a limb, from the top -/
structure VInv (B : Nat) (a : List Nat) (d k r : Nat) (t : List Nat) : Prop where
  ok : okB B t
  len : t.length = a.length
  rem : r < d
  rest : t.take k = a.take k
  val : valB B (t.drop k) * d + r = valB B (a.drop k)
theorem VInv.start {B : Nat} {a : List Nat} (ha : okB B a) {d : Nat} (hd : 0 < d) : VInv B a d a.length 0 a := ⟨ha, rfl, hd, rfl, by simp [valB]⟩
theorem get_of_take {s t : List Nat} {k j : Nat} (h : s.take k = t.take k) (hj : j < k) : s[j]? = t[j]? := by
  have := congrArg (fun l : List Nat => l[j]?) h
  simp only [List.getElem?_take] at this
  rwa [if_pos hj, if_pos hj] at this
theorem div_lt_base {B r x d : Nat} (hr : r < d) (hx : x < B) : (r * B + x) / d < B := by
  rw [Nat.div_lt_iff_lt_mul (by omega)]
  have : (r + 1) * B ≤ d * B := Nat.mul_le_mul_right _ hr
  rw [Nat.add_mul] at this
  rw [Nat.mul_comm B d]
  omega
theorem VInv.step {B : Nat} {a : List Nat} {d j r x : Nat} {t : List Nat} (ha : okB B a) (h : VInv B a d (j + 1) r t) (hx : a[j]? = some x) :
    VInv B a d j ((r * B + x) % d) (t.set j ((r * B + x) / d)) := by
  have hr := h.rem
  have hxl := ok_get ha hx
  have hxt : t[j]? = some x := (get_of_take h.rest (by omega)).trans hx
  have hq := div_lt_base hr hxl
  refine ⟨okB_set h.ok hq _, by rw [List.length_set]; exact h.len, Nat.mod_lt _ (by omega), ?_, ?_⟩
  · rw [List.take_set_of_le (Nat.le_refl _)]
    have := congrArg (fun l : List Nat => l.take j) h.rest
    simpa [List.take_take] using this
  · have h1 : (t.set j ((r * B + x) / d))[j]? = some ((r * B + x) / d) := by rw [List.getElem?_set_self (get_lt hxt)]
    rw [valB_dropq B h1, drop_set_succ, valB_dropq B hx]
    have h3 := h.val
    have h4 : (r * B + x) % d + d * ((r * B + x) / d) = r * B + x := Nat.mod_add_div _ _
    generalize (r * B + x) % d = r' at *
    generalize (r * B + x) / d = q at *
    grind
theorem VInv.done {B : Nat} {a : List Nat} {d r : Nat} {t : List Nat} (h : VInv B a d 0 r t) : valB B t = valB B a / d ∧ r = valB B a % d := by
  have h1 := h.val
  have h2 := h.rem
  simp at h1
  have e : r + d * valB B t = valB B a := by rw [Nat.mul_comm]; omega
  constructor
  · rw [← e, Nat.add_mul_div_left _ _ (by omega), Nat.div_eq_of_lt h2]; omega
  · rw [← e, Nat.add_mul_mod_self_left, Nat.mod_eq_of_lt h2]

/-! ### order -/
def cmpN (a b : Nat) : Int := if a < b then -1 else if b < a then 1 else 0
theorem cmp_lt {a b : Nat} (h : a < b) : cmpN a b = -1 := by unfold cmpN; rw [if_pos h]
theorem cmp_gt {a b : Nat} (h : b < a) : cmpN a b = 1 := by unfold cmpN; rw [if_neg (by omega), if_pos h]
theorem cmp_eq (a : Nat) : cmpN a a = 0 := by unfold cmpN; rw [if_neg (by omega), if_neg (by omega)]
theorem trim_ex {B : Nat} (hB : 2 ≤ B) {l : List Nat} (ho : okB B l) : ∃ k, k ≤ l.length ∧ l.take k = digs B (valB B l) := by
  have key : ∀ n, n ≤ l.length → valB B (l.take n) = valB B l → ∃ k, k ≤ l.length ∧ l.take k = digs B (valB B l) := by
    intro n
    induction n with
    | zero => intro _ hv; exact ⟨0, Nat.zero_le _, (trim0 hB ho hv).symm⟩
    | succ n ih =>
      intro hn hv
      obtain ⟨x, hx⟩ := some_get (l := l) (k := n) (by omega)
      by_cases h0 : x = 0
      · subst h0
        exact ih (by omega) (trim_stepq B (k := n + 1) (by omega) hn hv hx)
      · exact ⟨n + 1, hn, trimq hB ho (k := n + 1) hn hv hx h0⟩
  exact key l.length (Nat.le_refl _) (by rw [List.take_length])
end Go.Proofs.YtfgoflaeclfggaaGreatDoor.NatM
end
section
namespace Go.Proofs.YtfgoflaeclfggaaGreatDoor
open Go.RowKit NatM

def D32 (n : Nat) : List Nat := digs 4294967296 n
def V32 (l : List Nat) : Nat := valB 4294967296 l
def ok32 (l : List Nat) : Prop := okB 4294967296 l
theorem V32_D32 (n : Nat) : V32 (D32 n) = n := valB_digs (by omega) n
theorem D32_ok (n : Nat) : ok32 (D32 n) := digs_ok (by omega) n
theorem D32_nrm (n : Nat) : nrm (D32 n) := digs_nrm (by omega) n
theorem D32_inj {m n : Nat} (h : D32 m = D32 n) : m = n := digs_inj (by omega) h
theorem D32_nil {n : Nat} : D32 n = [] ↔ n = 0 := digs_eq_nil (by omega)
theorem trim32 {l : List Nat} (h : ok32 l) : ∃ k, k ≤ l.length ∧ l.take k = D32 (V32 l) := trim_ex (by omega) h
theorem D32_le {l : List Nat} (h : ok32 l) : (D32 (V32 l)).length ≤ l.length := by
  obtain ⟨k, hk, e⟩ := trim32 h
  rw [← e, List.length_take]; exact Nat.min_le_right _ _
theorem D32_len {n k : Nat} (h : n < 4294967296 ^ k) : (D32 n).length ≤ k := digs_length_le (by omega) h
theorem V32_lt {l : List Nat} (h : ok32 l) : V32 l < 4294967296 ^ l.length := valB_lt (by omega) h

/-- A slice of limbs below block B: it reads l. -/
structure NatV (B : Nat) (w : World) (p : Option Addr) (c : Nat) (l : List Nat) : Prop where
  ok : ok32 l
  le : l.length ≤ c
  cap : c ≤ maxLen
  nil : p = none → c = 0
  cell : l ≠ [] → ∃ b off, p = some ⟨b, off, none⟩ ∧ b < B ∧ ∀ (j x : Nat), l[j]? = some x → w.cell? ⟨b, off + j, none⟩ = some (.int .u32 (x : Int))

theorem NatV.below {B : Nat} {w w' : World} {p : Option Addr} {c : Nat} {l : List Nat} (hb : Below B w w') (h : NatV B w p c l) : NatV B w' p c l :=
  ⟨h.ok, h.le, h.cap, h.nil, fun hn => by
    obtain ⟨b, off, hp, hlt, hc⟩ := h.cell hn
    exact ⟨b, off, hp, hlt, fun j x hx => (hb.cell (p := ⟨b, off + j, none⟩) hlt).trans (hc j x hx)⟩⟩
theorem NatV.mono {B B' : Nat} {w : World} {p : Option Addr} {c : Nat} {l : List Nat} (hB : B ≤ B') (h : NatV B w p c l) : NatV B' w p c l :=
  ⟨h.ok, h.le, h.cap, h.nil, fun hn => by
    obtain ⟨b, off, hp, hlt, hc⟩ := h.cell hn
    exact ⟨b, off, hp, by omega, hc⟩⟩
/-- in a later world, under its own heap's size -/
theorem NatV.next {w w' : World} {p : Option Addr} {c : Nat} {l : List Nat} (hb : Below w.heap.size w w') (h : NatV w.heap.size w p c l) : NatV w'.heap.size w' p c l :=
  (h.below hb).mono hb.size
theorem NatV.take {B : Nat} {w : World} {p : Option Addr} {c : Nat} {l : List Nat} (h : NatV B w p c l) (k : Nat) : NatV B w p c (l.take k) :=
  ⟨okB_take h.ok k, Nat.le_trans (by rw [List.length_take]; exact Nat.min_le_right _ _) h.le, h.cap, h.nil, fun hn => by
    have hne : l ≠ [] := by rintro rfl; simp at hn
    obtain ⟨b, off, hp, hlt, hc⟩ := h.cell hne
    refine ⟨b, off, hp, hlt, fun j x hx => hc j x ?_⟩
    rw [List.getElem?_take] at hx
    split at hx
    · exact hx
    · cases hx⟩
theorem NatV.trim {B : Nat} {w : World} {p : Option Addr} {c : Nat} {l : List Nat} (h : NatV B w p c l) : NatV B w p c (D32 (V32 l)) := by
  obtain ⟨k, _, e⟩ := trim32 h.ok
  rw [← e]; exact h.take k

def cells32 (l : List Nat) : List Value := l.map fun (x : Nat) => Value.int .u32 (x : Int)
theorem cells32_length (l : List Nat) : (cells32 l).length = l.length := by simp [cells32]
theorem cells32_get {l : List Nat} {j x : Nat} (h : l[j]? = some x) : (cells32 l)[j]? = some (.int .u32 (x : Int)) := by simp [cells32, h]

/-- A slice of limbs that the call owns, in a block from base on: it reads l. -/
structure NatO (base : Nat) (w : World) (p : Option Addr) (c : Nat) (l : List Nat) : Prop where
  own : w.ownsRow base 51 1 (.slice p l.length c) l.length (cells32 l)
  ok : ok32 l
theorem NatO.next {base : Nat} {w w' : World} {p : Option Addr} {c : Nat} {l : List Nat} (hb : Below w.heap.size w w') (h : NatO base w p c l) : NatO base w' p c l := ⟨ownsRow_below hb h.own, h.ok⟩
theorem NatO.base {base base' : Nat} {w : World} {p : Option Addr} {c : Nat} {l : List Nat} (hB : base' ≤ base) (h : NatO base w p c l) : NatO base' w p c l := ⟨ownsRow_base hB h.own, h.ok⟩
theorem NatO.toV {base : Nat} {w : World} {p : Option Addr} {c : Nat} {l : List Nat} (h : NatO base w p c l) : NatV w.heap.size w p c l := by
  rcases own_shape h.own with ⟨hv, h0, _⟩ | ⟨g, cap, hv, hg, hlt, hc, hm, hcl, _⟩
  · obtain ⟨rfl, _, rfl⟩ := by simpa using hv
    exact ⟨h.ok, by omega, Nat.zero_le _, fun _ => rfl, fun hn => absurd (List.eq_nil_of_length_eq_zero h0) hn⟩
  · obtain ⟨rfl, rfl⟩ : p = some ⟨g, 0, none⟩ ∧ c = cap := by simpa using hv
    refine ⟨h.ok, hc, hm, (fun e => by cases e), fun _ => ⟨g, 0, rfl, hlt, fun j x hx => ?_⟩⟩
    rw [Nat.zero_add]
    exact (hcl j (get_lt hx)).trans (cells32_get hx)
/-- a piece of an own slice from its head on -/
theorem NatO.slice_own {base : Nat} {w : World} {v : Value} {l : List Nat} (h : w.ownsRow base 51 1 v l.length (cells32 l)) (ok : ok32 l) : ∃ p c, v = .slice p l.length c ∧ NatO base w p c l := by
  rcases own_shape h with ⟨rfl, h0, _⟩ | ⟨g, cap, rfl, _⟩
  · obtain rfl := List.eq_nil_of_length_eq_zero h0
    exact ⟨none, 0, rfl, h, ok⟩
  · exact ⟨_, _, rfl, h, ok⟩
theorem NatO.take {base : Nat} {w : World} {p : Option Addr} {c : Nat} {l : List Nat} (h : NatO base w p c l) (k : Nat) : NatO base w p c (l.take k) := by
  obtain ⟨⟨hx, hr⟩, ok⟩ := h
  have hk : (l.take k).length ≤ l.length := by rw [List.length_take]; exact Nat.min_le_right _ _
  refine ⟨⟨by rw [cells32_length, Nat.mul_one], ?_⟩, okB_take ok k⟩
  rcases hr with ⟨hv, h0⟩ | ⟨g, cap, cur, hv, hg, hh, hc, hm, hs, ht⟩
  · obtain ⟨rfl, h1, rfl⟩ := by simpa using hv
    have : (l.take k).length = 0 := by omega
    exact Or.inl ⟨by rw [this], this⟩
  · obtain ⟨rfl, rfl⟩ : p = some ⟨g, 0, none⟩ ∧ c = cap := by simpa using hv
    refine Or.inr ⟨g, c, cur, rfl, hg, hh, by omega, hm, hs, ?_⟩
    have : cells32 (l.take k) = (cells32 l).take (l.take k).length := by
      unfold cells32
      rw [List.map_take, List.length_take]
      rcases Nat.le_total k l.length with h1 | h1
      · rw [Nat.min_eq_left h1]
      · rw [Nat.min_eq_right h1, List.take_of_length_le (by simpa using h1), List.take_of_length_le (by simp)]
    rw [this, ← ht, List.take_take, Nat.mul_one, Nat.mul_one, Nat.min_eq_left hk]
theorem NatO.trim {base : Nat} {w : World} {p : Option Addr} {c : Nat} {l : List Nat} (h : NatO base w p c l) : NatO base w p c (D32 (V32 l)) := by
  obtain ⟨k, _, e⟩ := trim32 h.ok
  rw [← e]; exact h.take k

set_option maxHeartbeats 400000 in
theorem trim_any {B : Nat} (p : Option Addr) (c : Nat) (l : List Nat) (w : World) (h : NatV B w p c l) :
    Calls Tryz.prog 120 #[.slice p l.length c] w fun e w' => e = .returned (.slice p (D32 (V32 l)).length c) ∧ w = w' := by
  have hcap := h.cap
  have hle := h.le
  have hnil := Lib.hid h.nil
  unfold maxLen at hcap
  have H := Lib.hid h
  clear h
  go_enter Tryz.func120, Tryz.ntmps120
  go_wp2
  go_loop [3] (fun v => ∃ k : Nat, k ≤ l.length ∧ v = .int .i64 k ∧ Hid (valB 4294967296 (l.take k) = valB 4294967296 l)) (fun v => (intOf v).toNat)
  case atStart => exact ⟨l.length, Nat.le_refl _, rfl, by rw [List.take_length]; exact rfl⟩
  case round =>
    obtain ⟨k, hk, rfl, hv⟩ := hrel
    by_cases h0 : k = 0
    · subst h0
      have hd : D32 (V32 l) = [] := trim0 (B := 4294967296) (by omega) H.out.ok hv.out
      have HD := Lib.hid hd
      clear hd
      rcases p with _ | a
      · have hc := hnil.out rfl
        subst hc
        go_wp2
        go_ret
        exact ⟨by rw [HD.out]; rfl, rfl⟩
      · go_wp2
        go_ret
        exact ⟨by rw [HD.out]; rfl, rfl⟩
    · have hne : l ≠ [] := by rintro rfl; simp at hk; omega
      obtain ⟨b, off, rfl, hlt, hc⟩ := H.out.cell hne
      obtain ⟨x, hx⟩ := some_get (l := l) (k := k - 1) (by omega)
      have hcl := hc (k - 1) x hx
      have HX := Lib.hid hx
      have hk0 : 0 < k := by omega
      clear hx hc hne h0
      by_cases hx0 : x = 0
      · subst hx0
        go_wp2
        go_round
        case rel => exact ⟨k - 1, by omega, by go_num, trim_stepq 4294967296 hk0 hk hv.out HX.out⟩
        case measure => simp [intOf]; omega
      · have hxx : ((x : Int) == 0) = false := by simpa using hx0
        have hd : D32 (V32 l) = l.take k := (trimq (B := 4294967296) (by omega) H.out.ok hk hv.out HX.out hx0).symm
        have hdl : (D32 (V32 l)).length = k := by rw [hd, List.length_take, Nat.min_eq_left hk]
        have hck : k ≤ c := by omega
        have HD := Lib.hid hdl
        clear hd hdl
        go_wp2
        go_ret
        exact ⟨by rw [HD.out]; rfl, rfl⟩

theorem sign_any (b : Bool) (w : World) :
    Calls Tryz.prog 125 #[.bool b] w fun e w' => e = .returned (.int .i64 (if b then -1 else 1)) ∧ w = w' := by
  cases b
  · go_enter Tryz.func125, Tryz.ntmps125
    go_wp2
    go_ret
    exact ⟨rfl, rfl⟩
  · go_enter Tryz.func125, Tryz.ntmps125
    go_wp2
    go_ret
    exact ⟨rfl, rfl⟩

set_option maxHeartbeats 1000000 in
theorem nats_same (p q : Option Addr) (c d : Nat) (l : List Nat) (w : World) (h : NatV w.heap.size w p c l) (k : NatV w.heap.size w q d l) :
    Calls Tryz.prog 26 #[.slice p l.length c, .slice q l.length d] w (Tells (.bool true) w) := by
  have hcap := h.cap
  have hle := h.le
  have hdle := k.le
  have hdcap := k.cap
  unfold maxLen at hcap hdcap
  have H := Lib.hid (And.intro h k)
  clear h k
  go_enter Tryz.func26, Tryz.ntmps26
  go_wp2_with fail
  go_loopw [5] (fun v wx => ∃ k : Nat, k ≤ l.length ∧ v = .int .i64 k ∧ Below w.heap.size w wx) (fun i _ => l.length - (intOf i).toNat)
  case atStart => exact ⟨0, Nat.zero_le _, rfl, Below.refl _ _⟩
  case round =>
    obtain ⟨k, hk, rfl, hbx⟩ := hrel
    by_cases hlt : k < l.length
    · have hne : l ≠ [] := by rintro rfl; simp at hlt
      obtain ⟨b, off, rfl, hb, hc⟩ := (H.out.1.below hbx).cell hne
      obtain ⟨b', off', rfl, hb', hc'⟩ := (H.out.2.below hbx).cell hne
      obtain ⟨x, hx⟩ := some_get (l := l) (k := k) (by omega)
      have h1 := hc k x hx
      have h2 := hc' k x hx
      clear hc hc' hx hne
      go_wp2_with fail
      go_quiet (fail)
      go_wp2_with fail
      go_roundw
      case rel => exact ⟨k + 1, by omega, by go_num, below_drewN hbx _⟩
      case measure => simp [intOf]; omega
    · obtain rfl : k = l.length := by omega
      go_wp2_with fail
      go_ret
      exact ⟨rfl, hbx⟩
end Go.Proofs.YtfgoflaeclfggaaGreatDoor
end
section
namespace Go.Proofs.YtfgoflaeclfggaaGreatDoor
open Go.RowKit NatM

theorem lt_of_drop {a b : List Nat} {i x y : Nat} (ha : ok32 a) (hx : a[i]? = some x) (hy : b[i]? = some y) (hd : a.drop (i + 1) = b.drop (i + 1)) (hlt : x < y) : V32 a < V32 b := lt_atq (by omega) ha hx hy hd hlt
theorem cmp_len {m n : Nat} (h : (D32 m).length < (D32 n).length) : m < n := digs_length_lt (by omega) h

/-- of two numbers -/
def cmpV (a b : List Nat) : Value := .int .i64 (cmpN (V32 a) (V32 b))

set_option maxHeartbeats 2000000 in
theorem cmp_any (p q : Option Addr) (c d : Nat) (l m : List Nat) (w : World) (h : NatV w.heap.size w p c l) (k : NatV w.heap.size w q d m) :
    Calls Tryz.prog 77 #[.slice p l.length c, .slice q m.length d] w (Tells (cmpV l m) w) := by
  have H := Lib.hid (And.intro h k)
  have HT := Lib.hid (And.intro h.trim k.trim)
  have hcap := HT.out.1.cap
  have hdcap := HT.out.2.cap
  have hle := HT.out.1.le
  have hdle := HT.out.2.le
  have hva : V32 (D32 (V32 l)) = V32 l := V32_D32 _
  have hvb : V32 (D32 (V32 m)) = V32 m := V32_D32 _
  unfold maxLen at hcap hdcap
  clear h k
  go_enter Tryz.func77, Tryz.ntmps77
  go_wp2_with fail
  refine (trim_any p c l _ H.out.1).mono ?_
  rintro e w' ⟨rfl, rfl⟩
  go_wp2_with fail
  refine (trim_any q d m _ H.out.2).mono ?_
  rintro e w' ⟨rfl, rfl⟩
  obtain ⟨a, ha⟩ : ∃ a, D32 (V32 l) = a := ⟨_, rfl⟩
  obtain ⟨b, hb⟩ : ∃ b, D32 (V32 m) = b := ⟨_, rfl⟩
  rw [ha] at HT hle hva ⊢
  rw [hb] at HT hdle hvb ⊢
  have hgt : b.length < a.length → V32 m < V32 l := fun h => cmp_len (by rw [ha, hb]; exact h)
  have hlt : a.length < b.length → V32 l < V32 m := fun h => cmp_len (by rw [ha, hb]; exact h)
  have HV := Lib.hid (And.intro hva hvb)
  have HL := Lib.hid (And.intro hgt hlt)
  clear ha hb hva hvb hgt hlt
  rcases Nat.lt_trichotomy a.length b.length with hl | hl | hl
  · have hc : cmpV l m = .int .i64 (-1) := by unfold cmpV; rw [cmp_lt (HL.out.2 hl)]
    have HC := Lib.hid hc
    clear hc
    have h1 : ((a.length : Int) == (b.length : Int)) = false := by simp; omega
    have h2 : decide (a.length < b.length) = true := by simp; omega
    go_wp2_with (go_at_call 125; refine (sign_any _ _).mono ?_; rintro e w' ⟨rfl, rfl⟩)
    go_ret
    exact ⟨by rw [HC.out]; rfl, Below.refl _ _⟩
  · have HLL := Lib.hid hl
    obtain ⟨n, hn⟩ : ∃ n, n = a.length := ⟨_, rfl⟩
    have hn2 : b.length = n := by omega
    rw [← hn, hn2]
    rw [← hn] at hle
    rw [hn2] at hdle
    have HN := Lib.hid (And.intro hn hn2)
    clear hl hn hn2
    go_wp2_with fail
    go_loopw [5] (fun v wx => ∃ k : Nat, k ≤ n ∧ v = .int .i64 ((k : Int) - 1) ∧ Below w.heap.size w wx ∧ Hid (a.drop k = b.drop k)) (fun v _ => (intOf v + 1).toNat)
    case atStart => exact ⟨n, Nat.le_refl _, rfl, Below.refl _ _, by rw [HN.out.1]; show _ = _; rw [List.drop_length, List.drop_of_length_le]; have := HN.out; omega⟩
    case round =>
      obtain ⟨k, hk, rfl, hbx, hdr⟩ := hrel
      rcases Nat.eq_zero_or_pos k with rfl | hk0
      · have hc : cmpV l m = .int .i64 0 := by
          have e : a = b := by have := hdr.out; simpa using this
          unfold cmpV
          rw [← HV.out.1, ← HV.out.2, e, cmp_eq]
        have HC := Lib.hid hc
        clear hc
        go_wp2_with fail
        go_ret
        exact ⟨by rw [HC.out]; rfl, hbx⟩
      · obtain ⟨j, rfl⟩ : ∃ j, k = j + 1 := ⟨k - 1, by omega⟩
        have e1 : (((j + 1 : Nat) : Int) - 1) = (j : Int) := by omega
        rw [e1]
        have hna : n = a.length := HN.out.1
        have hnb : b.length = n := HN.out.2
        have hne : a ≠ [] := List.length_pos_iff.1 (by omega)
        have hneb : b ≠ [] := List.length_pos_iff.1 (by omega)
        obtain ⟨ba, off, rfl, hba, hca⟩ := (HT.out.1.below hbx).cell hne
        obtain ⟨bb, off', rfl, hbb, hcb⟩ := (HT.out.2.below hbx).cell hneb
        obtain ⟨x, hx⟩ := some_get (l := a) (k := j) (by omega)
        obtain ⟨y, hy⟩ := some_get (l := b) (k := j) (by omega)
        have h1 := hca j x hx
        have h2 := hcb j y hy
        have HX := Lib.hid (And.intro hx hy)
        clear hca hcb hx hy hne hneb hna hnb e1
        by_cases hxy : x = y
        · subst hxy
          go_wp2_with fail
          go_quiet (fail)
          go_wp2_with fail
          go_roundw
          case rel => exact ⟨j, by omega, rfl, below_drewN hbx _, drop_eqq HX.out.1 HX.out.2 hdr.out⟩
          case measure => simp [intOf]
        · have hne1 : ((x : Int) == (y : Int)) = false := by simp; omega
          by_cases hlt : x < y
          · have hd : decide (x < y) = true := by simp; omega
            have hc : cmpV l m = .int .i64 (-1) := by
              unfold cmpV
              rw [← HV.out.1, ← HV.out.2, cmp_lt (lt_of_drop HT.out.1.ok HX.out.1 HX.out.2 hdr.out hlt)]
            have HC := Lib.hid hc
            clear hc
            go_wp2_with fail
            go_quiet (fail)
            go_wp2_with fail
            go_quiet ((go_at_call 125; first | exact quiet_add_left (sign_any _ _) | exact quiet_left (sign_any _ _)))
            go_wp2_with fail
            go_ret
            exact ⟨by rw [HC.out]; rfl, by first | exact below_drewN hbx _ | exact below_drewN (below_drewN hbx _) _⟩
          · have hgt : y < x := by omega
            have hd : decide (x < y) = false := by simp; omega
            have hc : cmpV l m = .int .i64 1 := by
              unfold cmpV
              rw [← HV.out.1, ← HV.out.2, cmp_gt (lt_of_drop HT.out.2.ok HX.out.2 HX.out.1 hdr.out.symm hgt)]
            have HC := Lib.hid hc
            clear hc
            go_wp2_with fail
            go_quiet (fail)
            go_wp2_with fail
            go_quiet ((go_at_call 125; first | exact quiet_add_left (sign_any _ _) | exact quiet_left (sign_any _ _)))
            go_wp2_with fail
            go_ret
            exact ⟨by rw [HC.out]; rfl, by first | exact below_drewN hbx _ | exact below_drewN (below_drewN hbx _) _⟩
  · have hc : cmpV l m = .int .i64 1 := by unfold cmpV; rw [cmp_gt (HL.out.1 hl)]
    have HC := Lib.hid hc
    clear hc
    have h1 : ((a.length : Int) == (b.length : Int)) = false := by simp; omega
    have h2 : decide (a.length < b.length) = false := by simp; omega
    go_wp2_with (go_at_call 125; refine (sign_any _ _).mono ?_; rintro e w' ⟨rfl, rfl⟩)
    go_ret
    exact ⟨by rw [HC.out]; rfl, Below.refl _ _⟩

theorem add32_any (x y c : Nat) (w : World) (hx : x < 4294967296) (hy : y < 4294967296) (hc : c ≤ 1) :
    Calls Tryz.prog 154 #[.int .u32 (x : Int), .int .u32 (y : Int), .int .u32 (c : Int)] w fun e w' => e = .returned (.tuple #[.int .u32 (((x + y + c) % 4294967296 : Nat) : Int), .int .u32 (((x + y + c) / 4294967296 : Nat) : Int)]) ∧ w = w' := by
  go_enter Tryz.func154, Tryz.ntmps154
  go_wp2
  go_ret2
  exact ⟨rfl, rfl⟩
end Go.Proofs.YtfgoflaeclfggaaGreatDoor
end
section
namespace Go.Proofs.YtfgoflaeclfggaaGreatDoor
open Go.RowKit NatM

theorem info32 : (Tryz.prog.info? 51).map (fun i => (i.zero, i.size, i.bytes)) = some (some (.int .u32 0), 1, 4) := by kernel_rfl
theorem cell_one_new (w : World) (v : Value) (t : TypeId) : ∀ j u, [v][j]? = some u → (w.alloc (.cells #[v] t)).cell? ((⟨w.heap.size, 0, none⟩ : Addr).add j) = some u := by
  intro j u hj
  match j, hj with
  | 0, hj => simp at hj; subst hj; simp [Addr.add]
theorem cells32_snoc (l : List Nat) (x : Nat) : cells32 (l ++ [x]) = cells32 l ++ [.int .u32 (x : Int)] := by simp [cells32]
theorem NatO.snoc {base : Nat} {w : World} {v : Value} {l : List Nat} {x : Nat} (h : w.ownsRow base 51 1 v (l.length + 1) (cells32 l ++ [.int .u32 (x : Int)])) (ok : ok32 l) (hx : x < 4294967296) : ∃ p c, v = .slice p (l ++ [x]).length c ∧ NatO base w p c (l ++ [x]) :=
  NatO.slice_own (l := l ++ [x]) (by rw [cells32_snoc, List.length_append]; exact h) (okB_snoc ok hx)
theorem cells32_set (l : List Nat) (k x : Nat) : cells32 (l.set k x) = (cells32 l).set k (.int .u32 (x : Int)) := by simp [cells32, List.map_set]
/-- a store into an own slice of limbs -/
theorem NatO.store {base : Nat} {w : World} {g c : Nat} {l : List Nat} (h : NatO base w (some ⟨g, 0, none⟩) c l) (k x : Nat) (hx : x < 4294967296) :
    NatO base (w.setCell ⟨g, k, none⟩ (.int .u32 (x : Int))) (some ⟨g, 0, none⟩) c (l.set k x) := by
  obtain ⟨s1, _⟩ := h.own.stored k (.int .u32 (x : Int))
  exact ⟨by rw [List.length_set, cells32_set]; exact s1, okB_set h.ok hx k⟩
theorem NatO.shape {base : Nat} {w : World} {p : Option Addr} {c : Nat} {l : List Nat} (h : NatO base w p c l) (hl : 0 < l.length) :
    ∃ g, p = some ⟨g, 0, none⟩ ∧ base ≤ g ∧ g < w.heap.size ∧ (∀ (j x : Nat), l[j]? = some x → w.cell? ⟨g, j, none⟩ = some (.int .u32 (x : Int))) ∧ ∀ j, w.frozen? ⟨g, j, none⟩ = false := by
  rcases own_shape h.own with ⟨_, h0, _⟩ | ⟨g, cap, hv, hg, hlt, hc, hm, hcl, _⟩
  · omega
  · obtain ⟨rfl, rfl⟩ : p = some ⟨g, 0, none⟩ ∧ c = cap := by simpa using hv
    exact ⟨g, rfl, hg, hlt, fun j x hx => (hcl j (get_lt hx)).trans (cells32_get hx), fun j => h.own.frozenAt j⟩

theorem add32_zero (x c : Nat) (w : World) (hx : x < 4294967296) (hc : c ≤ 1) :
    Calls Tryz.prog 154 #[.int .u32 (x : Int), .int .u32 0, .int .u32 (c : Int)] w fun e w' => e = .returned (.tuple #[.int .u32 (((x + 0 + c) % 4294967296 : Nat) : Int), .int .u32 (((x + 0 + c) / 4294967296 : Nat) : Int)]) ∧ w = w' :=
  add32_any x 0 c w hx (by omega) hc

def R32 (s m : List Nat) (k c : Nat) (t : List Nat) : Prop := RInv 4294967296 s m k c t

def RaiseRel (B : Nat) (w : World) (s m : List Nat) (gk : Nat) (v0 v5 v6 : Value) (wr : World) : Prop :=
  ∃ (k c : Nat) (t : List Nat) (p : Option Addr) (cap : Nat), v0 = .slice p t.length cap ∧ v5 = .int .u32 (c : Int) ∧ v6 = .int .i64 (k : Int) ∧ R32 s m k c t ∧ NatO B wr p cap t ∧ Below B w wr ∧ max s.length m.length + 2 - k ≤ gk

def RaisePost (B : Nat) (w : World) (n : Nat) (e : Ending) (w' : World) : Prop :=
  ∃ p c, e = .returned (.slice p (D32 n).length c) ∧ NatO B w' p c (D32 n) ∧ Below B w w'

set_option maxRecDepth 100000 in
set_option maxHeartbeats 4000000 in
theorem raise_any {B : Nat} (p : Option Addr) (c : Nat) (s : List Nat) (q : Option Addr) (d : Nat) (m : List Nat) (w : World) (hB : B ≤ w.heap.size) (hs : NatO B w p c s) (hsn : nrm s) (hm : NatV B w q d m) (hmn : nrm m)
    (hsl : s.length ≤ 1048576) (hml : m.length ≤ 1048576) :
    Calls Tryz.prog 146 #[.slice p s.length c, .slice q m.length d] w (RaisePost B w (V32 s + V32 m)) := by
  obtain ⟨i0, hi, hz0, hz1, hz2⟩ := info_parts info32
  have hdle := hm.le
  have H := Lib.hid (And.intro hs.ok (And.intro hsn (And.intro hm hmn)))
  have HS := Lib.hid hs
  clear hs hsn hm hmn
  go_enter Tryz.func146, Tryz.ntmps146
  go_wp2_with fail
  go_loopg [0, 5, 6] (max s.length m.length + 2) (fun gk v0 v5 v6 wr => RaiseRel B w s m gk v0 v5 v6 wr)
  case atStart => exact ⟨0, 0, s, p, c, rfl, rfl, rfl, RInv.start H.out.1, HS.out, Below.refl _ _, by omega⟩
  case round =>
    obtain ⟨k, c, t, p, cap, rfl, rfl, rfl, hr, ho, hb, hgk⟩ := hrel
    have hkb := hr.bnd
    have hc1 := hr.car
    have htl := hr.len
    have HTL := Lib.hid htl
    have hwB : B ≤ wr.heap.size := Nat.le_trans hB hb.size
    have HR := Lib.hid (And.intro hr (And.intro ho hb))
    by_cases hgo : k < m.length ∨ c ≠ 0
    · obtain ⟨x, hx⟩ := grown_get hr
      have hstep := RInv.step (B := 4294967296) (by omega) H.out.1 H.out.2.2.1.ok hr hgo hx
      have HX := Lib.hid (And.intro hx hstep)
      have HGO := Lib.hid hgo
      have hkm : k ≤ 1048577 := by omega
      have htl2 : t.length ≤ 1048577 := by omega
      clear hx hstep hr ho htl
      have hgl : (grown t k).length ≤ 1048578 := by
        unfold grown
        split
        · rw [List.length_append, List.length_singleton]; omega
        · omega
      have HGL := Lib.hid hgl
      clear hgl
      by_cases hkm1 : k < m.length
      · clear hgo
        go_upto_if 21 with fail
        go_cut [0] (fun v0 wx => ∃ p0 cap0, v0 = .slice p0 (grown t k).length cap0 ∧ NatO B wx p0 cap0 (grown t k) ∧ Below B w wx)
        case first =>
          by_cases hkt : k = t.length
          · have hkt2 : ((k : Int) == (t.length : Int)) = true := by simp; omega
            have hgr : grown t k = t ++ [0] := by unfold grown; rw [if_pos hkt]
            have HGR := Lib.hid hgr
            have hown := HR.out.2.1.own
            have hkt4 : (k == t.length) = true := by simp; omega
            clear hkt hgr hb
            go_wp2_with (at_builtin; refine wpList_append_own _ rfl _ _ 26 rfl B 51 i0 (.int .u32 0) 1 4 Tryz.underlying26 hi hz0 hz1 hz2 rfl (by decide) _ _ _ rfl (hown.alloc _) ⟨wr.heap.size, 0, none⟩ 1 1 [.int .u32 0] rfl rfl (cell_one_new _ _ _) ?c2 ?c3 ?c4 ?c5 ?_)
            case c2 => intro u hu; simp at hu; subst hu; rfl
            case c3 => unfold maxLen; omega
            case c4 => omega
            case c5 => simp; omega
            intro v' w1 hown' hgrow _
            obtain ⟨p0, cap0, rfl, ho1⟩ := NatO.snoc (x := 0) hown' HR.out.2.1.ok (by omega)
            have hb1 : Below B w w1 := (HR.out.2.2.alloc hwB _).grown hgrow (by simp; omega) (fun j hj => (hown.lt j hj).1)
            have HO := Lib.hid (And.intro ho1 hb1)
            clear hown hown' hgrow ho1 hb1
            go_wp2_with fail
            go_meet
            exact ⟨p0, cap0, by rw [HGR.out], by rw [HGR.out]; exact HO.out.1, HO.out.2⟩
          · have hkt2 : ((k : Int) == (t.length : Int)) = false := by simp; omega
            have hgr : grown t k = t := by unfold grown; rw [if_neg hkt]
            have HGR := Lib.hid hgr
            clear hkt hgr
            go_wp2_with fail
            go_meet
            exact ⟨p, cap, by rw [HGR.out], by rw [HGR.out]; exact HR.out.2.1, HR.out.2.2⟩
        case rest =>
          obtain ⟨p0, cap0, rfl, ho1, hb1⟩ := hcut
          have hlim : limbAt m k < 4294967296 := limb_lt (by omega) H.out.2.2.1.ok k
          obtain ⟨y, hy⟩ : ∃ y, limbAt m k = y := ⟨_, rfl⟩
          rw [hy] at HX hlim
          obtain ⟨g, rfl, hg, hgl2, hcells, hfrz⟩ := ho1.shape (Nat.lt_of_le_of_lt (Nat.zero_le _) (get_lt HX.out.1))
          have hcx := hcells k x HX.out.1
          have hfx := hfrz k
          have hxl : x < 4294967296 := ok_get ho1.ok HX.out.1
          have hkl : k < (grown t k).length := get_lt HX.out.1
          have HO := Lib.hid (And.intro ho1 hb1)
          have HY := Lib.hid hy
          obtain ⟨L, hL⟩ : ∃ L, (grown t k).length = L := ⟨_, rfl⟩
          rw [hL] at hkl ⊢
          have HL := Lib.hid hL
          clear ho1 hcells hfrz hy hL hb
          obtain ⟨bm, off, rfl, hbm, hcm⟩ := (H.out.2.2.1.below HO.out.2).cell (List.length_pos_iff.1 (by omega))
          have hcy : wc.cell? ⟨bm, off + k, none⟩ = some (.int .u32 (y : Int)) := by
            obtain ⟨y', hy'⟩ := some_get hkm1
            rw [← HY.out, limb_some hy']
            exact hcm k y' hy'
          clear hcm
          go_wp2_with (go_at_call 154; refine (add32_any x y c _ hxl hlim hc1).mono ?_; rintro e w' ⟨rfl, rfl⟩)
          have hn := NatO.store HO.out.1 k ((x + y + c) % 4294967296) (Nat.mod_lt _ (by omega))
          have HN := Lib.hid hn
          clear hn
          go_roundg (max s.length m.length + 2 - (k + 1))
          case rel =>
            refine ⟨k + 1, (x + y + c) / 4294967296, (grown t k).set k ((x + y + c) % 4294967296), some ⟨g, 0, none⟩, cap0, ?_, rfl, by go_num, HX.out.2, HN.out, HO.out.2.setCell hg _, by omega⟩
            rw [List.length_set, HL.out]
          case measure => omega
      · have hc0 : ((c : Int) != 0) = true := by simp; omega
        clear hgo
        go_upto_if 21 with fail
        go_cut [0] (fun v0 wx => ∃ p0 cap0, v0 = .slice p0 (grown t k).length cap0 ∧ NatO B wx p0 cap0 (grown t k) ∧ Below B w wx)
        case first =>
          by_cases hkt : k = t.length
          · have hkt2 : ((k : Int) == (t.length : Int)) = true := by simp; omega
            have hgr : grown t k = t ++ [0] := by unfold grown; rw [if_pos hkt]
            have HGR := Lib.hid hgr
            have hown := HR.out.2.1.own
            have hkt4 : (k == t.length) = true := by simp; omega
            clear hkt hgr hb
            go_wp2_with (at_builtin; refine wpList_append_own _ rfl _ _ 26 rfl B 51 i0 (.int .u32 0) 1 4 Tryz.underlying26 hi hz0 hz1 hz2 rfl (by decide) _ _ _ rfl (hown.alloc _) ⟨wr.heap.size, 0, none⟩ 1 1 [.int .u32 0] rfl rfl (cell_one_new _ _ _) ?c2 ?c3 ?c4 ?c5 ?_)
            case c2 => intro u hu; simp at hu; subst hu; rfl
            case c3 => unfold maxLen; omega
            case c4 => omega
            case c5 => simp; omega
            intro v' w1 hown' hgrow _
            obtain ⟨p0, cap0, rfl, ho1⟩ := NatO.snoc (x := 0) hown' HR.out.2.1.ok (by omega)
            have hb1 : Below B w w1 := (HR.out.2.2.alloc hwB _).grown hgrow (by simp; omega) (fun j hj => (hown.lt j hj).1)
            have HO := Lib.hid (And.intro ho1 hb1)
            clear hown hown' hgrow ho1 hb1
            go_wp2_with fail
            go_meet
            exact ⟨p0, cap0, by rw [HGR.out], by rw [HGR.out]; exact HO.out.1, HO.out.2⟩
          · have hkt2 : ((k : Int) == (t.length : Int)) = false := by simp; omega
            have hgr : grown t k = t := by unfold grown; rw [if_neg hkt]
            have HGR := Lib.hid hgr
            clear hkt hgr
            go_wp2_with fail
            go_meet
            exact ⟨p, cap, by rw [HGR.out], by rw [HGR.out]; exact HR.out.2.1, HR.out.2.2⟩
        case rest =>
          obtain ⟨p0, cap0, rfl, ho1, hb1⟩ := hcut
          have hlim : limbAt m k < 4294967296 := limb_lt (by omega) H.out.2.2.1.ok k
          obtain ⟨y, hy⟩ : ∃ y, limbAt m k = y := ⟨_, rfl⟩
          rw [hy] at HX hlim
          obtain ⟨g, rfl, hg, hgl2, hcells, hfrz⟩ := ho1.shape (Nat.lt_of_le_of_lt (Nat.zero_le _) (get_lt HX.out.1))
          have hcx := hcells k x HX.out.1
          have hfx := hfrz k
          have hxl : x < 4294967296 := ok_get ho1.ok HX.out.1
          have hkl : k < (grown t k).length := get_lt HX.out.1
          have HO := Lib.hid (And.intro ho1 hb1)
          have HY := Lib.hid hy
          obtain ⟨L, hL⟩ : ∃ L, (grown t k).length = L := ⟨_, rfl⟩
          rw [hL] at hkl ⊢
          have HL := Lib.hid hL
          clear ho1 hcells hfrz hy hL hb
          have hy0 : y = 0 := by rw [← HY.out, limb_none (by omega)]
          subst hy0
          go_wp2_with (go_at_call 154; refine (add32_zero x c _ hxl hc1).mono ?_; rintro e w' ⟨rfl, rfl⟩)
          have hn := NatO.store HO.out.1 k ((x + 0 + c) % 4294967296) (Nat.mod_lt _ (by omega))
          have HN := Lib.hid hn
          clear hn
          go_roundg (max s.length m.length + 2 - (k + 1))
          case rel =>
            refine ⟨k + 1, (x + 0 + c) / 4294967296, (grown t k).set k ((x + 0 + c) % 4294967296), some ⟨g, 0, none⟩, cap0, ?_, rfl, by go_num, HX.out.2, HN.out, HO.out.2.setCell hg _, by omega⟩
            rw [List.length_set, HL.out]
          case measure => omega
    · have hc0 : c = 0 := by omega
      have hkm : m.length ≤ k := by omega
      subst hc0
      have hd : D32 (V32 s + V32 m) = t := RInv.done (B := 4294967296) (by omega) H.out.2.1 H.out.2.2.2 hr hkm
      have HD := Lib.hid hd
      clear hd hr ho hb hgo htl hgk
      go_wp2_with fail
      go_ret
      refine ⟨p, cap, by rw [HD.out]; rfl, ?_, HR.out.2.2⟩
      rw [HD.out]
      exact HR.out.2.1
/-! ### Sum, Add -/
abbrev Nt := Option Addr × Nat × List Nat
def Nt.val (x : Nt) : Value := .slice x.1 x.2.2.length x.2.1
/-- A slice of numbers. -/
structure NatsV (B : Nat) (w : World) (q : Option Addr) (c : Nat) (L : List Nt) : Prop where
  le : L.length ≤ c
  cap : c ≤ maxLen
  cell : L ≠ [] → ∃ b off, q = some ⟨b, off, none⟩ ∧ b < B ∧ ∀ (j : Nat) (x : Nt), L[j]? = some x → w.cell? ⟨b, off + j, none⟩ = some x.val
  each : ∀ x : Nt, x ∈ L → NatV B w x.1 x.2.1 x.2.2
theorem NatsV.below {B : Nat} {w w' : World} {q : Option Addr} {c : Nat} {L : List Nt} (hb : Below B w w') (h : NatsV B w q c L) : NatsV B w' q c L :=
  ⟨h.le, h.cap, fun hn => by
    obtain ⟨b, off, hp, hlt, hc⟩ := h.cell hn
    exact ⟨b, off, hp, hlt, fun j x hx => (hb.cell (p := ⟨b, off + j, none⟩) hlt).trans (hc j x hx)⟩, fun x hx => (h.each x hx).below hb⟩
theorem NatsV.mono {B B' : Nat} {w : World} {q : Option Addr} {c : Nat} {L : List Nt} (hB : B ≤ B') (h : NatsV B w q c L) : NatsV B' w q c L :=
  ⟨h.le, h.cap, fun hn => by
    obtain ⟨b, off, hp, hlt, hc⟩ := h.cell hn
    exact ⟨b, off, hp, by omega, hc⟩, fun x hx => (h.each x hx).mono hB⟩
/-- a slice literal of numbers, just laid -/
theorem NatsV.laid {w : World} (L : List Nt) (cs : Array Value) (t : TypeId) (hc : cs.toList = L.map Nt.val) (hl : L.length ≤ 1000) (h : ∀ x : Nt, x ∈ L → NatV w.heap.size w x.1 x.2.1 x.2.2) :
    NatsV (w.alloc (.cells cs t)).heap.size (w.alloc (.cells cs t)) (some ⟨w.heap.size, 0, none⟩) L.length L := by
  have hB : Below w.heap.size w (w.alloc (.cells cs t)) := (Below.refl _ _).alloc (Nat.le_refl _) _
  refine ⟨Nat.le_refl _, by unfold maxLen; omega, fun _ => ⟨w.heap.size, 0, rfl, by simp, fun j x hx => ?_⟩, fun x hx => (h x hx).next hB⟩
  rw [Nat.zero_add, cell_alloc_row, ← Array.getElem?_toList, hc]
  simp [hx]
def sumV (L : List Nt) : Nat := (L.map fun x : Nt => V32 x.2.2).sum
theorem sumV_take {L : List Nt} {k : Nat} {x : Nt} (h : L[k]? = some x) : sumV (L.take (k + 1)) = sumV (L.take k) + V32 x.2.2 := by
  obtain ⟨hk, rfl⟩ := List.getElem?_eq_some_iff.1 h
  unfold sumV
  rw [List.take_succ_eq_append_getElem hk, List.map_append, List.sum_append]
  simp
theorem sumV_le {M : Nat} : ∀ {L : List Nt}, (∀ x : Nt, x ∈ L → ok32 x.2.2 ∧ x.2.2.length ≤ M) → sumV L ≤ L.length * 4294967296 ^ M
  | [], _ => by simp [sumV]
  | x :: L, h => by
    have ih := sumV_le (L := L) (fun y hy => h y (List.mem_cons_of_mem _ hy))
    obtain ⟨h1, h2⟩ := h x List.mem_cons_self
    have h3 := V32_lt h1
    have h4 : 4294967296 ^ x.2.2.length ≤ 4294967296 ^ M := Nat.pow_le_pow_right (by omega) h2
    have e : sumV (x :: L) = V32 x.2.2 + sumV L := by simp [sumV]
    rw [e, List.length_cons, Nat.add_mul]
    omega
theorem sumV_len {M : Nat} {L : List Nt} (h : ∀ x : Nt, x ∈ L → ok32 x.2.2 ∧ x.2.2.length ≤ M) (hl : L.length ≤ 1000) : (D32 (sumV L)).length ≤ M + 1 := by
  refine D32_len (Nat.lt_of_le_of_lt (sumV_le h) ?_)
  rw [Nat.pow_succ, Nat.mul_comm]
  exact Nat.mul_lt_mul_of_pos_left (by omega) (Nat.pow_pos (by omega))

def SumRel (w : World) (L : List Nt) (v3 v8 : Value) (wr : World) : Prop :=
  ∃ (k : Nat) (p : Option Addr) (cap : Nat), k ≤ L.length ∧ v8 = .int .i64 (k : Int) ∧ v3 = .slice p (D32 (sumV (L.take k))).length cap ∧ NatO w.heap.size wr p cap (D32 (sumV (L.take k))) ∧ Below w.heap.size w wr
def NatPost (w : World) (n : Nat) (e : Ending) (w' : World) : Prop := RaisePost w.heap.size w n e w'
theorem NatO.nothing (base : Nat) (w : World) : NatO base w none 0 [] := ⟨World.ownsRow_nil _ _ _ _, okB_nil _⟩

set_option maxHeartbeats 1000000 in
theorem sum_any (q : Option Addr) (n c : Nat) (L : List Nt) (w : World) (hn : n = L.length) (h : NatsV w.heap.size w q c L) (hl : L.length ≤ 1000) (hle : ∀ x : Nt, x ∈ L → x.2.2.length ≤ 100000) :
    Calls Tryz.prog 121 #[.slice q n c] w (NatPost w (sumV L)) := by
  subst hn
  have hlc := h.le
  have hcap := h.cap
  unfold maxLen at hcap
  have hall : ∀ k, ∀ x : Nt, x ∈ L.take k → ok32 x.2.2 ∧ x.2.2.length ≤ 100000 := fun k x hx => ⟨(h.each x (List.mem_of_mem_take hx)).ok, hle x (List.mem_of_mem_take hx)⟩
  have H := Lib.hid (And.intro h hall)
  have HLE := Lib.hid hle
  clear h hall hle
  go_enter Tryz.func121, Tryz.ntmps121
  go_wp2_with fail
  go_loopw [3, 8] (fun v3 v8 wr => SumRel w L v3 v8 wr) (fun _ i _ => L.length - (intOf i).toNat)
  case atStart =>
    have hz : D32 (sumV (L.take 0)) = [] := D32_nil.2 (by simp [sumV])
    refine ⟨0, none, 0, Nat.zero_le _, rfl, by rw [hz]; rfl, ?_, Below.refl _ _⟩
    rw [hz]
    exact NatO.nothing _ _
  case round =>
    obtain ⟨k, p, cap, hk, rfl, rfl, ho, hb⟩ := hrel
    have HO := Lib.hid (And.intro ho hb)
    by_cases hlt : k < L.length
    · obtain ⟨x, hx⟩ : ∃ x, L[k]? = some x := ⟨_, List.getElem?_eq_getElem hlt⟩
      have hmem : x ∈ L := List.mem_of_getElem? hx
      have hV := H.out.1.below hb
      obtain ⟨bl, off, rfl, hbl, hcl⟩ := hV.cell (by rintro rfl; simp at hlt)
      have hcx := hcl k x hx
      have hxv := hV.each x hmem
      have hxl := HLE.out x hmem
      have hs := sumV_take hx
      obtain ⟨xa, xc, xl⟩ := x
      have hcx : wr.cell? ⟨bl, off + k, none⟩ = some (.slice xa xl.length xc) := hcx
      have hxv : NatV w.heap.size wr xa xc xl := hxv
      have hs : sumV (L.take (k + 1)) = sumV (L.take k) + V32 xl := hs
      have hsl : (D32 (sumV (L.take k))).length ≤ 100001 := sumV_len (H.out.2 k) (by rw [List.length_take]; omega)
      have hxt := hxv.trim
      have hxlt : (D32 (V32 xl)).length ≤ 100000 := Nat.le_trans (D32_le hxv.ok) hxl
      have HX := Lib.hid (And.intro hxv (And.intro hxt hs))
      have hwb := hb.size
      have HSL := Lib.hid (And.intro hsl hxlt)
      clear hx hmem hV hcl hxv hs hxt ho hb hxl hsl hxlt
      go_wp2_with fail
      refine (trim_any xa xc xl _ HX.out.1).mono ?_
      rintro e w' ⟨rfl, rfl⟩
      go_wp2_with fail
      refine (raise_any (B := w.heap.size) _ _ _ _ _ _ _ hwb HO.out.1 (D32_nrm _) HX.out.2.1 (D32_nrm _) (by have := HSL.out.1; omega) (by have := HSL.out.2; omega)).mono ?_
      rintro e w2 ⟨p2, c2, rfl, ho2, hb2⟩
      rw [V32_D32, V32_D32, ← HX.out.2.2] at ho2 ⊢
      have HP := Lib.hid (And.intro ho2 (HO.out.2.trans hb2))
      clear ho2 hb2
      go_wp2_with fail
      go_roundw
      case rel => exact ⟨k + 1, p2, c2, by omega, by go_num, by rw [HX.out.2.2], HP.out.1, HP.out.2⟩
      case measure => simp [intOf]; omega
    · obtain rfl : k = L.length := by omega
      have he : L.take L.length = L := List.take_length
      have HE := Lib.hid he
      clear he
      go_wp2_with fail
      go_ret
      have h2 := HO.out
      rw [HE.out] at h2
      exact ⟨p, cap, by rw [HE.out]; rfl, h2⟩

set_option maxHeartbeats 1000000 in
theorem add_any (p q : Option Addr) (c d : Nat) (l m : List Nat) (w : World) (h : NatV w.heap.size w p c l) (k : NatV w.heap.size w q d m) (hl : l.length ≤ 100000) (hm : m.length ≤ 100000) :
    Calls Tryz.prog 71 #[.slice p l.length c, .slice q m.length d] w (NatPost w (V32 l + V32 m)) := by
  have hB : Below w.heap.size w (w.alloc (.cells #[.slice p l.length c, .slice q m.length d] 26)) := (Below.refl _ _).alloc (Nat.le_refl _) _
  have hV := NatsV.laid (w := w) [(p, c, l), (q, d, m)] #[.slice p l.length c, .slice q m.length d] 26 rfl (by simp) (fun x hx => by
    simp at hx
    rcases hx with rfl | rfl
    · exact h
    · exact k)
  have hC := sum_any _ 2 2 [(p, c, l), (q, d, m)] _ rfl hV (by simp) (fun x hx => by
    simp at hx
    rcases hx with rfl | rfl
    · exact hl
    · exact hm)
  have HB := Lib.hid hB
  clear hB hV h k
  go_enter Tryz.func71, Tryz.ntmps71
  go_wp2_with fail
  refine hC.mono ?_
  clear hC
  rintro e w2 ⟨p2, c2, rfl, ho2, hb2⟩
  have e2 : sumV [(p, c, l), (q, d, m)] = V32 l + V32 m := by simp [sumV]
  rw [e2] at ho2 ⊢
  have HO := Lib.hid (And.intro ho2 hb2)
  clear ho2 hb2 e2
  go_wp2_with fail
  go_ret
  exact ⟨p2, c2, rfl, HO.out.1.base (by simp), HB.out.trans (HO.out.2.mono (by simp))⟩
end Go.Proofs.YtfgoflaeclfggaaGreatDoor
end
