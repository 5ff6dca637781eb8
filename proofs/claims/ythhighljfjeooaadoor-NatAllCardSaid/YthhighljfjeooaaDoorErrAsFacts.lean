/- Closed facts and small laws on the entries that errors.As meets, at a target that is a pointer to a *api.Fault. -/
import Derived.Test.YthhighljfjeooaaDoorErrIs
namespace Go.Proofs.YthhighljfjeooaaDoor
open Go.RowKit Go.Extern.Stop Go.Stop Go.Extern

theorem asValueOf46 (t : Addr) (w : World) : (callFunc 99 #[.iface 107 (.pointer (some t))]).run Tryd.prog w
    = .ok (Next.value (.agg #[.pointer (some ⟨14, 107, none⟩), .pointer (some ⟨w.heap.size, 0, none⟩), .int .u64 150])) (w.alloc (.cells #[.pointer (some t)] 107)) := by kernel_rfl
theorem asValueOf44 (t : Addr) (w : World) : (callFunc 99 #[.iface 105 (.pointer (some t))]).run Tryd.prog w
    = .ok (Next.value (.agg #[.pointer (some ⟨14, 105, none⟩), .pointer (some ⟨w.heap.size, 0, none⟩), .int .u64 150])) (w.alloc (.cells #[.pointer (some t)] 105)) := by kernel_rfl
theorem asType46 (a : Addr) (w : World) : (callFunc 100 #[.agg #[.pointer (some ⟨14, 107, none⟩), .pointer (some a), .int .u64 150]]).run Tryd.prog w
    = .ok (Next.value (.iface 132 (.agg #[.pointer (some ⟨14, 107, none⟩)]))) w := by kernel_rfl
theorem asMethodKind (h : Value) (w : World) : (Go.method 280 132 (.agg #[h]) "Kind").run Tryd.prog w = .ok (122, h) w := by kernel_rfl
theorem asMethodElem (h : Value) (w : World) : (Go.method 280 132 (.agg #[h]) "Elem").run Tryd.prog w = .ok (134, .agg #[h]) w := by kernel_rfl
theorem asMethodImplements (h : Value) (w : World) : (Go.method 280 132 (.agg #[h]) "Implements").run Tryd.prog w = .ok (135, .agg #[h]) w := by kernel_rfl
theorem asMethodAssignableTo (h : Value) (w : World) : (Go.method 280 132 (.agg #[h]) "AssignableTo").run Tryd.prog w = .ok (132, .agg #[h]) w := by kernel_rfl
theorem asKind46 (w : World) : (callFunc 122 #[.pointer (some ⟨14, 107, none⟩)]).run Tryd.prog w = .ok (Next.value (.int .u8 22)) w := by kernel_rfl
theorem asKind44 (w : World) : (callFunc 122 #[.pointer (some ⟨14, 105, none⟩)]).run Tryd.prog w = .ok (Next.value (.int .u8 22)) w := by kernel_rfl
theorem asElem46 (w : World) : (callFunc 134 #[.agg #[.pointer (some ⟨14, 107, none⟩)]]).run Tryd.prog w = .ok (Next.value (.iface 132 (.agg #[.pointer (some ⟨14, 105, none⟩)]))) w := by kernel_rfl
theorem asImplements (w : World) : (callFunc 135 #[.agg #[.pointer (some ⟨14, 105, none⟩)], .iface 132 (.agg #[.pointer (some ⟨14, 48, none⟩)])]).run Tryd.prog w = .ok (Next.value (.bool true)) w := by kernel_rfl
theorem asTypeOf44 (v : Value) (w : World) : (callFunc 97 #[.iface 105 v]).run Tryd.prog w = .ok (Next.value (.iface 132 (.agg #[.pointer (some ⟨14, 105, none⟩)]))) w := by kernel_rfl
theorem asTypeOf94 (v : Value) (w : World) : (callFunc 97 #[.iface 147 v]).run Tryd.prog w = .ok (Next.value (.iface 132 (.agg #[.pointer (some ⟨14, 147, none⟩)]))) w := by kernel_rfl
theorem asAssignable44 (w : World) : (callFunc 132 #[.agg #[.pointer (some ⟨14, 105, none⟩)], .iface 132 (.agg #[.pointer (some ⟨14, 105, none⟩)])]).run Tryd.prog w = .ok (Next.value (.bool true)) w := by kernel_rfl
theorem asAssignable94 (w : World) : (callFunc 132 #[.agg #[.pointer (some ⟨14, 147, none⟩)], .iface 132 (.agg #[.pointer (some ⟨14, 105, none⟩)])]).run Tryd.prog w = .ok (Next.value (.bool false)) w := by kernel_rfl
theorem noAs94 (v : Value) (x : TypeId) (w : World) : (Instr.typeAssert (.iface 147 v) x 144 true).run Tryd.prog w = .ok (.tuple #[.nilIface, .bool false]) w := run_typeAssert_lacksB Tryd.underlying144 (by kernel_rfl) (by kernel_rfl) v x w

/-! ### the entries that read or write memory -/
theorem parts46 (a : Addr) (w : World) : (ReflectliteValue.parts (.agg #[.pointer (some ⟨14, 107, none⟩), .pointer (some a), .int .u64 150])).run Tryd.prog w = .ok (some (107, a, 150)) w := by kernel_rfl
theorem asIsNil (a p : Addr) (W : World) (ha : W.cell? a = some (.pointer (some p))) :
    (callFunc 101 #[.agg #[.pointer (some ⟨14, 107, none⟩), .pointer (some a), .int .u64 150]]).run Tryd.prog W = .ok (Next.value (.bool false)) W := by
  rw [@run_callFunc_extern Tryd.prog 101 _ (ReflectliteValue.method (ReflectliteValue.valueError "reflectlite.Value.IsNil" 0) ReflectliteValue.isNil) Tryd.func101 (by kernel_rfl) (by kernel_rfl) (by kernel_rfl) (by kernel_rfl)]
  refine congrArg (fun r => Result.andThen r fun v w' => .ok (Next.value v) w') (?_ : _ = Result.ok (.bool false) W)
  change Sem.run Tryd.prog (ReflectliteValue.parts _ >>= _) W = _
  simp only [Sem.run_bind, Array.getLit, List.getElem_toArray, List.getElem_cons_zero, parts46, Result.andThen]
  simp [ReflectliteValue.isNil, loadVar, isAgg, underlying, Tryd.underlying107, ha, Result.andThen]
theorem elemOf46 (w : World) : (Rtype.elem? 107).run Tryd.prog w = .ok (some 105) w := by kernel_rfl
theorem mk44 (p : Addr) (w : World) : (ReflectliteValue.mk 105 p ReflectliteValue.flagAddr).run Tryd.prog w = .ok (.agg #[.pointer (some ⟨14, 105, none⟩), .pointer (some p), .int .u64 406]) w := by kernel_rfl
theorem asElemV (a p : Addr) (W : World) (ha : W.cell? a = some (.pointer (some p))) :
    (callFunc 106 #[.agg #[.pointer (some ⟨14, 107, none⟩), .pointer (some a), .int .u64 150]]).run Tryd.prog W
      = .ok (Next.value (.agg #[.pointer (some ⟨14, 105, none⟩), .pointer (some p), .int .u64 406])) W := by
  rw [@run_callFunc_extern Tryd.prog 106 _ (ReflectliteValue.method (ReflectliteValue.valueError "reflectlite.Value.Elem" 0) ReflectliteValue.elem) Tryd.func106 (by kernel_rfl) (by kernel_rfl) (by kernel_rfl) (by kernel_rfl)]
  refine congrArg (fun r => Result.andThen r fun v w' => .ok (Next.value v) w') (?_ : _ = Result.ok (.agg #[.pointer (some ⟨14, 105, none⟩), .pointer (some p), .int .u64 406]) W)
  change Sem.run Tryd.prog (ReflectliteValue.parts _ >>= _) W = _
  simp only [Sem.run_bind, Array.getLit, List.getElem_toArray, List.getElem_cons_zero, parts46, Result.andThen]
  simp [ReflectliteValue.elem, loadVar, isAgg, underlying, Tryd.underlying107, ha, Result.andThen, elemOf46, mk44]
theorem parts44a (a : Addr) (w : World) : (ReflectliteValue.parts (.agg #[.pointer (some ⟨14, 105, none⟩), .pointer (some a), .int .u64 406])).run Tryd.prog w = .ok (some (105, a, 406)) w := by kernel_rfl
theorem parts44 (a : Addr) (w : World) : (ReflectliteValue.parts (.agg #[.pointer (some ⟨14, 105, none⟩), .pointer (some a), .int .u64 150])).run Tryd.prog w = .ok (some (105, a, 150)) w := by kernel_rfl
theorem direct44 (w : World) : (Rtype.directlyAssignable 105 105).run Tryd.prog w = .ok true w := by kernel_rfl
theorem asSet (ta b e : Addr) (old : Value) (W : World) (hb : W.cell? b = some (.pointer (some e))) (ht : W.cell? ta = some old) (hf : W.frozen? ta = false) :
    (callFunc 107 #[.agg #[.pointer (some ⟨14, 105, none⟩), .pointer (some ta), .int .u64 406], .agg #[.pointer (some ⟨14, 105, none⟩), .pointer (some b), .int .u64 150]]).run Tryd.prog W
      = .ok (Next.value (.tuple #[])) (W.setCell ta (.pointer (some e))) := by
  rw [@run_callFunc_extern Tryd.prog 107 _ ReflectliteValue.set Tryd.func107 (by kernel_rfl) (by kernel_rfl) (by kernel_rfl) (by kernel_rfl)]
  refine congrArg (fun r => Result.andThen r fun v w' => .ok (Next.value v) w') (?_ : _ = Result.ok (.tuple #[]) (W.setCell ta (.pointer (some e))))
  change Sem.run Tryd.prog (ReflectliteValue.parts _ >>= _) W = _
  simp only [Sem.run_bind, Array.getLit, List.getElem_toArray, List.getElem_cons_zero, List.getElem_cons_succ, parts44a, parts44, Result.andThen]
  simp [ReflectliteValue.flagAddr, loadVar, isAgg, underlying, Tryd.underlying105, hb, Result.andThen, direct44, storeVar, Value.cells, storeCells, Addr.add]
  rw [run_store Tryd.prog W ta _ _ (by rfl)]
  simp [ht, hf]
end Go.Proofs.YthhighljfjeooaaDoor
