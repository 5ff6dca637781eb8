/- Closed facts and small laws on the entries that errors.As meets, at a target that is a pointer to a *api.Fault. -/
import Derived.Test.YtmjaohddmoiodaaDoorErrIs
namespace Go.Proofs.YtmjaohddmoiodaaDoor
open Go.RowKit Go.Extern.Stop Go.Stop Go.Extern

theorem asValueOf46 (t : Addr) (w : World) : (callFunc 68 #[.iface 81 (.pointer (some t))]).run Tryd.prog w
    = .ok (Next.value (.agg #[.pointer (some ⟨14, 81, none⟩), .pointer (some ⟨w.heap.size, 0, none⟩), .int .u64 150])) (w.alloc (.cells #[.pointer (some t)] 81)) := by kernel_rfl
theorem asValueOf44 (t : Addr) (w : World) : (callFunc 68 #[.iface 79 (.pointer (some t))]).run Tryd.prog w
    = .ok (Next.value (.agg #[.pointer (some ⟨14, 79, none⟩), .pointer (some ⟨w.heap.size, 0, none⟩), .int .u64 150])) (w.alloc (.cells #[.pointer (some t)] 79)) := by kernel_rfl
theorem asType46 (a : Addr) (w : World) : (callFunc 69 #[.agg #[.pointer (some ⟨14, 81, none⟩), .pointer (some a), .int .u64 150]]).run Tryd.prog w
    = .ok (Next.value (.iface 106 (.agg #[.pointer (some ⟨14, 81, none⟩)]))) w := by kernel_rfl
theorem asMethodKind (h : Value) (w : World) : (Go.method 254 106 (.agg #[h]) "Kind").run Tryd.prog w = .ok (89, h) w := by kernel_rfl
theorem asMethodElem (h : Value) (w : World) : (Go.method 254 106 (.agg #[h]) "Elem").run Tryd.prog w = .ok (101, .agg #[h]) w := by kernel_rfl
theorem asMethodImplements (h : Value) (w : World) : (Go.method 254 106 (.agg #[h]) "Implements").run Tryd.prog w = .ok (102, .agg #[h]) w := by kernel_rfl
theorem asMethodAssignableTo (h : Value) (w : World) : (Go.method 254 106 (.agg #[h]) "AssignableTo").run Tryd.prog w = .ok (99, .agg #[h]) w := by kernel_rfl
theorem asKind46 (w : World) : (callFunc 89 #[.pointer (some ⟨14, 81, none⟩)]).run Tryd.prog w = .ok (Next.value (.int .u8 22)) w := by kernel_rfl
theorem asKind44 (w : World) : (callFunc 89 #[.pointer (some ⟨14, 79, none⟩)]).run Tryd.prog w = .ok (Next.value (.int .u8 22)) w := by kernel_rfl
theorem asElem46 (w : World) : (callFunc 101 #[.agg #[.pointer (some ⟨14, 81, none⟩)]]).run Tryd.prog w = .ok (Next.value (.iface 106 (.agg #[.pointer (some ⟨14, 79, none⟩)]))) w := by kernel_rfl
theorem asImplements (w : World) : (callFunc 102 #[.agg #[.pointer (some ⟨14, 79, none⟩)], .iface 106 (.agg #[.pointer (some ⟨14, 44, none⟩)])]).run Tryd.prog w = .ok (Next.value (.bool true)) w := by kernel_rfl
theorem asTypeOf44 (v : Value) (w : World) : (callFunc 66 #[.iface 79 v]).run Tryd.prog w = .ok (Next.value (.iface 106 (.agg #[.pointer (some ⟨14, 79, none⟩)]))) w := by kernel_rfl
theorem asTypeOf94 (v : Value) (w : World) : (callFunc 66 #[.iface 121 v]).run Tryd.prog w = .ok (Next.value (.iface 106 (.agg #[.pointer (some ⟨14, 121, none⟩)]))) w := by kernel_rfl
theorem asAssignable44 (w : World) : (callFunc 99 #[.agg #[.pointer (some ⟨14, 79, none⟩)], .iface 106 (.agg #[.pointer (some ⟨14, 79, none⟩)])]).run Tryd.prog w = .ok (Next.value (.bool true)) w := by kernel_rfl
theorem asAssignable94 (w : World) : (callFunc 99 #[.agg #[.pointer (some ⟨14, 121, none⟩)], .iface 106 (.agg #[.pointer (some ⟨14, 79, none⟩)])]).run Tryd.prog w = .ok (Next.value (.bool false)) w := by kernel_rfl
theorem noAs94 (v : Value) (x : TypeId) (w : World) : (Instr.typeAssert (.iface 121 v) x 118 true).run Tryd.prog w = .ok (.tuple #[.nilIface, .bool false]) w := run_typeAssert_lacksB Tryd.underlying118 (by kernel_rfl) (by kernel_rfl) v x w

/-! ### the entries that read or write memory -/
theorem parts46 (a : Addr) (w : World) : (ReflectliteValue.parts (.agg #[.pointer (some ⟨14, 81, none⟩), .pointer (some a), .int .u64 150])).run Tryd.prog w = .ok (some (81, a, 150)) w := by kernel_rfl
theorem asIsNil (a p : Addr) (W : World) (ha : W.cell? a = some (.pointer (some p))) :
    (callFunc 70 #[.agg #[.pointer (some ⟨14, 81, none⟩), .pointer (some a), .int .u64 150]]).run Tryd.prog W = .ok (Next.value (.bool false)) W := by
  rw [@run_callFunc_extern Tryd.prog 70 _ (ReflectliteValue.method (ReflectliteValue.valueError "reflectlite.Value.IsNil" 0) ReflectliteValue.isNil) Tryd.func70 (by kernel_rfl) (by kernel_rfl) (by kernel_rfl) (by kernel_rfl)]
  refine congrArg (fun r => Result.andThen r fun v w' => .ok (Next.value v) w') (?_ : _ = Result.ok (.bool false) W)
  change Sem.run Tryd.prog (ReflectliteValue.parts _ >>= _) W = _
  simp only [Sem.run_bind, Array.getLit, List.getElem_toArray, List.getElem_cons_zero, parts46, Result.andThen]
  simp [ReflectliteValue.isNil, loadVar, isAgg, underlying, Tryd.underlying81, ha, Result.andThen]
theorem elemOf46 (w : World) : (Rtype.elem? 81).run Tryd.prog w = .ok (some 79) w := by kernel_rfl
theorem mk44 (p : Addr) (w : World) : (ReflectliteValue.mk 79 p ReflectliteValue.flagAddr).run Tryd.prog w = .ok (.agg #[.pointer (some ⟨14, 79, none⟩), .pointer (some p), .int .u64 406]) w := by kernel_rfl
theorem asElemV (a p : Addr) (W : World) (ha : W.cell? a = some (.pointer (some p))) :
    (callFunc 73 #[.agg #[.pointer (some ⟨14, 81, none⟩), .pointer (some a), .int .u64 150]]).run Tryd.prog W
      = .ok (Next.value (.agg #[.pointer (some ⟨14, 79, none⟩), .pointer (some p), .int .u64 406])) W := by
  rw [@run_callFunc_extern Tryd.prog 73 _ (ReflectliteValue.method (ReflectliteValue.valueError "reflectlite.Value.Elem" 0) ReflectliteValue.elem) Tryd.func73 (by kernel_rfl) (by kernel_rfl) (by kernel_rfl) (by kernel_rfl)]
  refine congrArg (fun r => Result.andThen r fun v w' => .ok (Next.value v) w') (?_ : _ = Result.ok (.agg #[.pointer (some ⟨14, 79, none⟩), .pointer (some p), .int .u64 406]) W)
  change Sem.run Tryd.prog (ReflectliteValue.parts _ >>= _) W = _
  simp only [Sem.run_bind, Array.getLit, List.getElem_toArray, List.getElem_cons_zero, parts46, Result.andThen]
  simp [ReflectliteValue.elem, loadVar, isAgg, underlying, Tryd.underlying81, ha, Result.andThen, elemOf46, mk44]
theorem parts44a (a : Addr) (w : World) : (ReflectliteValue.parts (.agg #[.pointer (some ⟨14, 79, none⟩), .pointer (some a), .int .u64 406])).run Tryd.prog w = .ok (some (79, a, 406)) w := by kernel_rfl
theorem parts44 (a : Addr) (w : World) : (ReflectliteValue.parts (.agg #[.pointer (some ⟨14, 79, none⟩), .pointer (some a), .int .u64 150])).run Tryd.prog w = .ok (some (79, a, 150)) w := by kernel_rfl
theorem direct44 (w : World) : (Rtype.directlyAssignable 79 79).run Tryd.prog w = .ok true w := by kernel_rfl
theorem asSet (ta b e : Addr) (old : Value) (W : World) (hb : W.cell? b = some (.pointer (some e))) (ht : W.cell? ta = some old) (hf : W.frozen? ta = false) :
    (callFunc 74 #[.agg #[.pointer (some ⟨14, 79, none⟩), .pointer (some ta), .int .u64 406], .agg #[.pointer (some ⟨14, 79, none⟩), .pointer (some b), .int .u64 150]]).run Tryd.prog W
      = .ok (Next.value (.tuple #[])) (W.setCell ta (.pointer (some e))) := by
  rw [@run_callFunc_extern Tryd.prog 74 _ ReflectliteValue.set Tryd.func74 (by kernel_rfl) (by kernel_rfl) (by kernel_rfl) (by kernel_rfl)]
  refine congrArg (fun r => Result.andThen r fun v w' => .ok (Next.value v) w') (?_ : _ = Result.ok (.tuple #[]) (W.setCell ta (.pointer (some e))))
  change Sem.run Tryd.prog (ReflectliteValue.parts _ >>= _) W = _
  simp only [Sem.run_bind, Array.getLit, List.getElem_toArray, List.getElem_cons_zero, List.getElem_cons_succ, parts44a, parts44, Result.andThen]
  simp [ReflectliteValue.flagAddr, loadVar, isAgg, underlying, Tryd.underlying79, hb, Result.andThen, direct44, storeVar, Value.cells, storeCells, Addr.add]
  rw [run_store Tryd.prog W ta _ _ (by rfl)]
  simp [ht, hf]
end Go.Proofs.YtmjaohddmoiodaaDoor
