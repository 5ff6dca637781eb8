/- Package fault by its contracts, first part: New, Under, numbered, and the two functions that ask errors.Is and errors.As behind a deferred recover. -/
import Derived.Test.YthhighljfjeooaaDoorErrAsWalk
import Derived.Recover
import Derived.Defers
namespace Go.Proofs.YthhighljfjeooaaDoor
open Go.RowKit Go.Extern.Stop Go.Stop Go.Extern

theorem heap_alloc_new (w : World) (o : Obj) : (w.alloc o).heap[w.heap.size]? = some o := by
  show (w.heap.push o)[w.heap.size]? = some o
  simp

/-- Which of api's errors a number names: 1 to 11 itself, any other one 0 (Unknown). -/
def known (n : Int) : Nat := if 1 ≤ n ∧ n ≤ 11 then n.toNat else 0
theorem known_le (n : Int) : known n ≤ 11 := by unfold known; split <;> omega

/-- The package-level variable (its block) of each of api's errors. -/
def rootVar : Nat → Nat
  | 1 => 0 | 2 => 1 | 3 => 2 | 4 => 3 | 5 => 4 | 6 => 5
  | 7 => 6 | 8 => 7 | 9 => 8 | 10 => 9 | 11 => 10 | _ => 11

/-- api's twelve errors are there: each variable holds a pointer to an errorString of its own. -/
structure Roots (w : World) (A : Nat → Addr) : Prop where
  var : ∀ k, k ≤ 11 → w.cell? ⟨rootVar k, 0, none⟩ = some (.iface 147 (.pointer (some (A k))))
  there : ∀ k, k ≤ 11 → Target w (A k)
  apart : ∀ j k, j ≤ 11 → k ≤ 11 → A j = A k → j = k
theorem Roots.below {w w' : World} {A : Nat → Addr} (hb : Below w.heap.size w w') (h : Roots w A) : Roots w' A :=
  ⟨fun k hk => (hb.cell (p := ⟨rootVar k, 0, none⟩) (cell_lt (h.var k hk))).trans (h.var k hk), fun k hk => (h.there k hk).below hb, h.apart⟩

theorem numbered_any (n : Int) (w : World) (A : Nat → Addr) (hr : Roots w A) :
    Calls Tryd.prog 94 #[.int .i64 n] w fun e w' => e = .returned (Tree.leaf (A (known n))).val ∧ w = w' := by
  have r0 : w.cell? ⟨11, 0, none⟩ = some (.iface 147 (.pointer (some (A 0)))) := hr.var 0 (by decide)
  have r1 : w.cell? ⟨0, 0, none⟩ = some (.iface 147 (.pointer (some (A 1)))) := hr.var 1 (by decide)
  have r2 : w.cell? ⟨1, 0, none⟩ = some (.iface 147 (.pointer (some (A 2)))) := hr.var 2 (by decide)
  have r3 : w.cell? ⟨2, 0, none⟩ = some (.iface 147 (.pointer (some (A 3)))) := hr.var 3 (by decide)
  have r4 : w.cell? ⟨3, 0, none⟩ = some (.iface 147 (.pointer (some (A 4)))) := hr.var 4 (by decide)
  have r5 : w.cell? ⟨4, 0, none⟩ = some (.iface 147 (.pointer (some (A 5)))) := hr.var 5 (by decide)
  have r6 : w.cell? ⟨5, 0, none⟩ = some (.iface 147 (.pointer (some (A 6)))) := hr.var 6 (by decide)
  have r7 : w.cell? ⟨6, 0, none⟩ = some (.iface 147 (.pointer (some (A 7)))) := hr.var 7 (by decide)
  have r8 : w.cell? ⟨7, 0, none⟩ = some (.iface 147 (.pointer (some (A 8)))) := hr.var 8 (by decide)
  have r9 : w.cell? ⟨8, 0, none⟩ = some (.iface 147 (.pointer (some (A 9)))) := hr.var 9 (by decide)
  have r10 : w.cell? ⟨9, 0, none⟩ = some (.iface 147 (.pointer (some (A 10)))) := hr.var 10 (by decide)
  have r11 : w.cell? ⟨10, 0, none⟩ = some (.iface 147 (.pointer (some (A 11)))) := hr.var 11 (by decide)
  clear hr
  rcases (by omega : n = 1 ∨ n = 2 ∨ n = 3 ∨ n = 4 ∨ n = 5 ∨ n = 6 ∨ n = 7 ∨ n = 8 ∨ n = 9 ∨ n = 10 ∨ n = 11 ∨ n < 1 ∨ 11 < n) with rfl | rfl | rfl | rfl | rfl | rfl | rfl | rfl | rfl | rfl | rfl | h | h
  all_goals
    go_enter Tryd.func94, Tryd.ntmps94
    go_wp2
    go_ret
  iterate 11 exact ⟨rfl, rfl⟩
  · exact ⟨by rw [show known n = 0 by unfold known; rw [if_neg (by omega)]]; rfl, rfl⟩
  · exact ⟨by rw [show known n = 0 by unfold known; rw [if_neg (by omega)]]; rfl, rfl⟩

theorem new_zero (op : ByteArray) (pl : Int) (w : World) :
    Calls Tryd.prog 77 #[.string op, .int .i64 pl, .int .i64 0] w fun e w' => e = .returned .nilIface ∧ w = w' := by
  go_enter Tryd.func77, Tryd.ntmps77
  go_wp2
  go_ret
  exact ⟨rfl, rfl⟩
theorem new_any (op : ByteArray) (pl n : Int) (w : World) (A : Nat → Addr) (hr : Roots w A) (hn : n ≠ 0) :
    Calls Tryd.prog 77 #[.string op, .int .i64 pl, .int .i64 n] w fun e w' => e = .returned (Tree.fault w.heap.size op pl (.leaf (A (known n)))).val ∧ Below w.heap.size w w' ∧ w'.heap.size = w.heap.size + 1 ∧ (Tree.fault w.heap.size op pl (.leaf (A (known n)))).lies w' := by
  have hv : (Tree.leaf (A (known n))).val = .iface 147 (.pointer (some (A (known n)))) := rfl
  go_enter Tryd.func77, Tryd.ntmps77
  go_wp2_with (go_at_call 94; refine (numbered_any n _ A hr).mono ?_; rintro e w' ⟨rfl, rfl⟩)
  go_ret
  have hB : Below w.heap.size w (w.alloc (.cells #[.string op, .int .i64 pl, .iface 147 (.pointer (some (A (known n))))] 109)) := (Below.refl _ _).alloc (Nat.le_refl _) _
  exact ⟨rfl, hB, by simp, heap_alloc_new _ _, Tree.lies_below hB (t := .leaf (A (known n))) (hr.there _ (known_le n)), by simp⟩

end Go.Proofs.YthhighljfjeooaaDoor
