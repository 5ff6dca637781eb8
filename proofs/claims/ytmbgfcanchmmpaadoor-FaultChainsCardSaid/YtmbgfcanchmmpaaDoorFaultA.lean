/- Package fault by its contracts, first part: New, Under, numbered, and the two functions that ask errors.Is and errors.As behind a deferred recover. -/
import Derived.Test.YtmbgfcanchmmpaaDoorErrAsWalk
import Derived.Recover
import Derived.Defers
namespace Go.Proofs.YtmbgfcanchmmpaaDoor
open Go.RowKit Go.Extern.Stop Go.Stop Go.Extern

theorem heap_alloc_new (w : World) (o : Obj) : (w.alloc o).heap[w.heap.size]? = some o := by
  show (w.heap.push o)[w.heap.size]? = some o
  simp

/-- Which of api's errors a number names: 1 to 11 itself, any other one 0 (Unknown). -/
def known (n : Int) : Nat := if 1 ≤ n ∧ n ≤ 11 then n.toNat else 0
theorem known_le (n : Int) : known n ≤ 11 := by unfold known; split <;> omega

/-- The package-level variable (its block) of each of api's errors. -/
def rootVar : Nat → Nat
  | 1 => 2 | 2 => 3 | 3 => 4 | 4 => 5 | 5 => 6 | 6 => 7
  | 7 => 8 | 8 => 9 | 9 => 10 | 10 => 11 | 11 => 0 | _ => 12

/-- api's twelve errors are there: each variable holds a pointer to an errorString of its own. -/
structure Roots (w : World) (A : Nat → Addr) : Prop where
  var : ∀ k, k ≤ 11 → w.cell? ⟨rootVar k, 0, none⟩ = some (.iface 94 (.pointer (some (A k))))
  there : ∀ k, k ≤ 11 → Target w (A k)
  apart : ∀ j k, j ≤ 11 → k ≤ 11 → A j = A k → j = k
theorem Roots.below {w w' : World} {A : Nat → Addr} (hb : Below w.heap.size w w') (h : Roots w A) : Roots w' A :=
  ⟨fun k hk => (hb.cell (p := ⟨rootVar k, 0, none⟩) (cell_lt (h.var k hk))).trans (h.var k hk), fun k hk => (h.there k hk).below hb, h.apart⟩

theorem numbered_any (n : Int) (w : World) (A : Nat → Addr) (hr : Roots w A) :
    Calls Tryd.prog 32 #[.int .i64 n] w fun e w' => e = .returned (Tree.leaf (A (known n))).val ∧ w = w' := by
  have r0 : w.cell? ⟨12, 0, none⟩ = some (.iface 94 (.pointer (some (A 0)))) := hr.var 0 (by decide)
  have r1 : w.cell? ⟨2, 0, none⟩ = some (.iface 94 (.pointer (some (A 1)))) := hr.var 1 (by decide)
  have r2 : w.cell? ⟨3, 0, none⟩ = some (.iface 94 (.pointer (some (A 2)))) := hr.var 2 (by decide)
  have r3 : w.cell? ⟨4, 0, none⟩ = some (.iface 94 (.pointer (some (A 3)))) := hr.var 3 (by decide)
  have r4 : w.cell? ⟨5, 0, none⟩ = some (.iface 94 (.pointer (some (A 4)))) := hr.var 4 (by decide)
  have r5 : w.cell? ⟨6, 0, none⟩ = some (.iface 94 (.pointer (some (A 5)))) := hr.var 5 (by decide)
  have r6 : w.cell? ⟨7, 0, none⟩ = some (.iface 94 (.pointer (some (A 6)))) := hr.var 6 (by decide)
  have r7 : w.cell? ⟨8, 0, none⟩ = some (.iface 94 (.pointer (some (A 7)))) := hr.var 7 (by decide)
  have r8 : w.cell? ⟨9, 0, none⟩ = some (.iface 94 (.pointer (some (A 8)))) := hr.var 8 (by decide)
  have r9 : w.cell? ⟨10, 0, none⟩ = some (.iface 94 (.pointer (some (A 9)))) := hr.var 9 (by decide)
  have r10 : w.cell? ⟨11, 0, none⟩ = some (.iface 94 (.pointer (some (A 10)))) := hr.var 10 (by decide)
  have r11 : w.cell? ⟨0, 0, none⟩ = some (.iface 94 (.pointer (some (A 11)))) := hr.var 11 (by decide)
  clear hr
  rcases (by omega : n = 1 ∨ n = 2 ∨ n = 3 ∨ n = 4 ∨ n = 5 ∨ n = 6 ∨ n = 7 ∨ n = 8 ∨ n = 9 ∨ n = 10 ∨ n = 11 ∨ n < 1 ∨ 11 < n) with rfl | rfl | rfl | rfl | rfl | rfl | rfl | rfl | rfl | rfl | rfl | h | h
  all_goals
    go_enter Tryd.func32, Tryd.ntmps32
    go_wp2
    go_ret
  iterate 11 exact ⟨rfl, rfl⟩
  · exact ⟨by rw [show known n = 0 by unfold known; rw [if_neg (by omega)]]; rfl, rfl⟩
  · exact ⟨by rw [show known n = 0 by unfold known; rw [if_neg (by omega)]]; rfl, rfl⟩

theorem new_zero (op : ByteArray) (pl : Int) (w : World) :
    Calls Tryd.prog 19 #[.string op, .int .i64 pl, .int .i64 0] w fun e w' => e = .returned .nilIface ∧ w = w' := by
  go_enter Tryd.func19, Tryd.ntmps19
  go_wp2
  go_ret
  exact ⟨rfl, rfl⟩
theorem new_any (op : ByteArray) (pl n : Int) (w : World) (A : Nat → Addr) (hr : Roots w A) (hn : n ≠ 0) :
    Calls Tryd.prog 19 #[.string op, .int .i64 pl, .int .i64 n] w fun e w' => e = .returned (Tree.fault w.heap.size op pl (.leaf (A (known n)))).val ∧ Below w.heap.size w w' ∧ w'.heap.size = w.heap.size + 1 ∧ (Tree.fault w.heap.size op pl (.leaf (A (known n)))).lies w' := by
  have hv : (Tree.leaf (A (known n))).val = .iface 94 (.pointer (some (A (known n)))) := rfl
  go_enter Tryd.func19, Tryd.ntmps19
  go_wp2_with (go_at_call 32; refine (numbered_any n _ A hr).mono ?_; rintro e w' ⟨rfl, rfl⟩)
  go_ret
  have hB : Below w.heap.size w (w.alloc (.cells #[.string op, .int .i64 pl, .iface 94 (.pointer (some (A (known n))))] 48)) := (Below.refl _ _).alloc (Nat.le_refl _) _
  exact ⟨rfl, hB, by simp, heap_alloc_new _ _, Tree.lies_below hB (t := .leaf (A (known n))) (hr.there _ (known_le n)), by simp⟩
theorem under_nil (op : ByteArray) (pl : Int) (w : World) :
    Calls Tryd.prog 24 #[.string op, .int .i64 pl, .nilIface] w fun e w' => e = .returned .nilIface ∧ w = w' := by
  go_enter Tryd.func24, Tryd.ntmps24
  go_wp2
  go_ret
  exact ⟨rfl, rfl⟩
theorem under_any (op : ByteArray) (pl : Int) (t : Tree) (w : World) (hl : t.lies w) (hn : t.isNil = false) :
    Calls Tryd.prog 24 #[.string op, .int .i64 pl, t.val] w fun e w' => e = .returned (Tree.fault w.heap.size op pl t).val ∧ Below w.heap.size w w' ∧ w'.heap.size = w.heap.size + 1 ∧ (Tree.fault w.heap.size op pl t).lies w' := by
  have hne : t ≠ .nil := by rintro rfl; cases hn
  obtain ⟨T, x, hv⟩ := Tree.val_held hne
  have hB : Below w.heap.size w (w.alloc (.cells #[.string op, .int .i64 pl, t.val] 48)) := (Below.refl _ _).alloc (Nat.le_refl _) _
  have hq : (Tree.fault w.heap.size op pl t).lies (w.alloc (.cells #[.string op, .int .i64 pl, t.val] 48)) := ⟨heap_alloc_new _ _, Tree.lies_below hB (t := t) hl, hne⟩
  have HQ := Lib.hid (And.intro hB hq)
  clear hB hq hl
  rw [hv] at HQ ⊢
  have HV := Lib.hid hv
  clear hv
  go_enter Tryd.func24, Tryd.ntmps24
  go_wp2
  go_ret
  exact ⟨rfl, HQ.out.1, by simp, HQ.out.2⟩

/-! ### holds: errors.Is behind a deferred recover -/
theorem holds_idle (p : Addr) (w : World) :
    CallsD Tryd.prog 44 #[.pointer (some p)] .returning w fun e u' w' => e = .returned (.tuple #[]) ∧ u' = .returning ∧ w' = w := by
  refine callsD_of_wpS Tryd.func44 rfl fun c₀ cs hu => ?_
  apply wpS_seq
  apply wpS_region
  simp [wpOpsS, go_sem, recoverD, hu, Tryd.ntmps44, Exit.thenS]
  refine wpS_cond (t := false) (by simp [Act.eval, Array.replicate]) ?_
  simp only [Bool.false_eq_true, if_false]
  refine wpS_of_wp (wp_skip ?_)
  cases c₀
  simp_all [bodyPostS, results, Tryd.results44]
theorem first_idle (p : Addr) (w : World) :
    CallsD Tryd.prog 45 #[.pointer (some p)] .returning w fun e u' w' => e = .returned (.tuple #[]) ∧ u' = .returning ∧ w' = w := by
  refine callsD_of_wpS Tryd.func45 rfl fun c₀ cs hu => ?_
  apply wpS_seq
  apply wpS_region
  simp [wpOpsS, go_sem, recoverD, hu, Tryd.ntmps45, Exit.thenS]
  refine wpS_cond (t := false) (by simp [Act.eval, Array.replicate]) ?_
  simp only [Bool.false_eq_true, if_false]
  refine wpS_of_wp (wp_skip ?_)
  cases c₀
  simp_all [bodyPostS, results, Tryd.results45]

set_option maxHeartbeats 1000000 in
theorem holds_any (t : Tree) (w : World) (T : Nat) (p : Addr) (hl : t.lies w) (hp : Target w p) (hT : T = 94 ∨ T = 44) :
    Calls Tryd.prog 31 #[t.val, .iface T (.pointer (some p))] w (IsPost w T p t) := by
  have hmf : ∀ (fn : Fn) (first cap : Array Value) (w : World), (Instr.makeFunc fn first cap).run Tryd.prog w = .ok (.func fn first cap) w := fun _ _ _ _ => rfl
  have hB : Below w.heap.size w (w.alloc (.cells #[.bool false] 4)) := (Below.refl _ _).alloc (Nat.le_refl _) _
  have hc := errorsIs t (w.alloc (.cells #[.bool false] 4)) T p (Tree.lies_below hB (t := t) hl) (hp.below hB) hT
  clear hl hp hT
  go_enter_defers Tryd.func31, Tryd.ntmps31
  go_wp2_with fail
  refine hc.mono ?_
  clear hc
  rintro e w1 ⟨rfl, hb1⟩
  have hz : w.heap.size < (w.alloc (.cells #[.bool false] 4)).heap.size := by simp
  have hd : w1.cell? ⟨w.heap.size, 0, none⟩ = some (.bool false) := (hb1.cell (p := ⟨w.heap.size, 0, none⟩) hz).trans (by simp)
  have hf : w1.frozen? ⟨w.heap.size, 0, none⟩ = false := (hb1.frozen (p := ⟨w.heap.size, 0, none⟩) hz).trans (by simp)
  have hBB : Below w.heap.size w w1 := hB.trans (hb1.mono (by simp))
  clear hB hb1 hz
  have HB := Lib.hid hBB
  clear hBB
  go_wp2_with fail
  refine leaves_cons (f := 44) (args := #[.pointer (some ⟨w.heap.size, 0, none⟩)]) (by simp) (by simp [go_sem]) ?_
  refine (holds_idle ⟨w.heap.size, 0, none⟩ _).mono ?_
  rintro e u' w'' ⟨rfl, rfl, rfl⟩
  have hq : (w1.setCell ⟨w.heap.size, 0, none⟩ (.bool (t.hits T p))).cell? ⟨w.heap.size, 0, none⟩ = some (.bool (t.hits T p)) := World.cell?_setCell_same _ _ _ hd
  simp [Leaves, settle, results, Tryd.results31, go_sem, hq]
  exact ⟨rfl, HB.out.setCell (Nat.le_refl _) _⟩

def firstPtr (t : Tree) : Value := match t.first with
  | none => .pointer none
  | some b => .pointer (some ⟨b, 0, none⟩)

def FirstPost (w : World) (t : Tree) (e : Ending) (w' : World) : Prop := e = .returned (firstPtr t) ∧ Below w.heap.size w w'

set_option maxHeartbeats 1000000 in
theorem first_any (t : Tree) (w : World) (hl : t.lies w) (hT : TypeVar w) :
    Calls Tryd.prog 36 #[t.val] w (FirstPost w t) := by
  have hmf : ∀ (fn : Fn) (first cap : Array Value) (w : World), (Instr.makeFunc fn first cap).run Tryd.prog w = .ok (.func fn first cap) w := fun _ _ _ _ => rfl
  have hB : Below w.heap.size w (w.alloc (.cells #[.pointer none] 44)) := (Below.refl _ _).alloc (Nat.le_refl _) _
  have hc := errorsAs t (w.alloc (.cells #[.pointer none] 44)) w.heap.size (Tree.lies_below hB (t := t) hl) ⟨by simp, ⟨.pointer none, by simp⟩, by simp⟩ (hT.below hB)
  clear hl hT
  go_enter_defers Tryd.func36, Tryd.ntmps36
  go_wp2_with fail
  refine hc.mono ?_
  clear hc
  rintro e w1 (⟨h1, rfl, hb1⟩ | ⟨b, h1, rfl, hb1, hd, hf⟩)
  · have hz : w.heap.size < (w.alloc (.cells #[.pointer none] 44)).heap.size := by simp
    have hd : w1.cell? ⟨w.heap.size, 0, none⟩ = some (.pointer none) := (hb1.cell (p := ⟨w.heap.size, 0, none⟩) hz).trans (by simp)
    have hf : w1.frozen? ⟨w.heap.size, 0, none⟩ = false := (hb1.frozen (p := ⟨w.heap.size, 0, none⟩) hz).trans (by simp)
    have hp : firstPtr t = .pointer none := by unfold firstPtr; rw [h1]
    have HP := Lib.hid hp
    have HB := Lib.hid (hB.trans (hb1.mono (by simp)))
    clear hB hb1 hz hp h1
    go_wp2_with fail
    refine leaves_cons (f := 45) (args := #[.pointer (some ⟨w.heap.size, 0, none⟩)]) (by simp) (by simp [go_sem]) ?_
    refine (first_idle ⟨w.heap.size, 0, none⟩ _).mono ?_
    rintro e u' w'' ⟨rfl, rfl, rfl⟩
    have hq : (w1.setCell ⟨w.heap.size, 0, none⟩ (.pointer none)).cell? ⟨w.heap.size, 0, none⟩ = some (.pointer none) := World.cell?_setCell_same _ _ _ hd
    simp [Leaves, settle, results, Tryd.results36, go_sem, hq]
    exact ⟨by rw [HP.out], HB.out.setCell (Nat.le_refl _) _⟩
  · have hp : firstPtr t = .pointer (some ⟨b, 0, none⟩) := by unfold firstPtr; rw [h1]
    have HP := Lib.hid hp
    have HB := Lib.hid (hB.trans hb1)
    clear hB hb1 hp h1
    go_wp2_with fail
    refine leaves_cons (f := 45) (args := #[.pointer (some ⟨w.heap.size, 0, none⟩)]) (by simp) (by simp [go_sem]) ?_
    refine (first_idle ⟨w.heap.size, 0, none⟩ _).mono ?_
    rintro e u' w'' ⟨rfl, rfl, rfl⟩
    have hq : (w1.setCell ⟨w.heap.size, 0, none⟩ (.pointer (some ⟨b, 0, none⟩))).cell? ⟨w.heap.size, 0, none⟩ = some (.pointer (some ⟨b, 0, none⟩)) := World.cell?_setCell_same _ _ _ hd
    simp [Leaves, settle, results, Tryd.results36, go_sem, hq]
    exact ⟨by rw [HP.out], HB.out.setCell (Nat.le_refl _) _⟩
end Go.Proofs.YtmbgfcanchmmpaaDoor
