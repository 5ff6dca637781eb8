/- errors.Is by its contract: of any error tree and any target that is a pointer of one of the two kinds, it finds just what the tree holds, and leaves old memory alone. -/
import Derived.Test.YthhighljfjeooaaDoorErrFacts
namespace Go.Proofs.YthhighljfjeooaaDoor
open Go.RowKit Go.Extern.Stop Go.Stop Go.Extern

/-- What holds of a target: its block is there. -/
def Target (w : World) (p : Addr) : Prop := ∃ c t, w.heap[p.block]? = some (.cells c t (0, 0))
theorem Target.below {w w' : World} {p : Addr} (hb : Below w.heap.size w w') : Target w p → Target w' p := fun ⟨c, t, h⟩ => ⟨c, t, (hb.block _ (heap_lt h)).trans h⟩

theorem unwrap44 (b : Nat) (op : ByteArray) (pl : Int) (v : Value) (w : World) (h : w.heap[b]? = some (.cells #[.string op, .int .i64 pl, v] 109 (0, 0))) :
    Calls Tryd.prog 127 #[.pointer (some ⟨b, 0, none⟩)] w fun e w' => e = .returned v ∧ w = w' := by
  have hc : w.cell? ⟨b, 2, none⟩ = some v := by simp [World.cell?, h]
  go_enter Tryd.func127, Tryd.ntmps127
  go_wp2
  go_ret
  exact ⟨rfl, rfl⟩
/-- What the round of errors.is needs of the comparison with the target. -/
theorem eql_hit (w : World) (T : Nat) (a : Addr) (hT : T = 147 ∨ T = 105) :
    (binOp .eql 48 (.iface T (.pointer (some a))) (.iface T (.pointer (some a)))).run Tryd.prog w = .ok (.bool true) w := by
  rcases hT with rfl | rfl
  · obtain ⟨i, hi, hcmp⟩ := Option.map_eq_some_iff.1 isComp94
    obtain ⟨j, hj, hjs⟩ := Option.map_eq_some_iff.1 isSize96
    exact run_eql_iface_ptr_same (P := Tryd.prog) w a Tryd.underlying48 Tryd.underlying147 hi hcmp hj
  · obtain ⟨i, hi, hcmp⟩ := Option.map_eq_some_iff.1 isComp44
    obtain ⟨j, hj, hjs⟩ := Option.map_eq_some_iff.1 isSize48
    exact run_eql_iface_ptr_same (P := Tryd.prog) w a Tryd.underlying48 Tryd.underlying105 hi hcmp hj
theorem eql_miss (w : World) (T : Nat) (a p : Addr) (hT : T = 147 ∨ T = 105) (hne : a ≠ p) (ha : Target w a) (hp : Target w p) :
    (binOp .eql 48 (.iface T (.pointer (some a))) (.iface T (.pointer (some p)))).run Tryd.prog w = .ok (.bool false) w := by
  obtain ⟨c, t, ha⟩ := ha
  obtain ⟨c', t', hp⟩ := hp
  rcases hT with rfl | rfl
  · obtain ⟨i, hi, hcmp⟩ := Option.map_eq_some_iff.1 isComp94
    obtain ⟨j, hj, hjs⟩ := Option.map_eq_some_iff.1 isSize96
    exact run_eql_iface_ptr_other (P := Tryd.prog) w Tryd.underlying48 Tryd.underlying147 hi hcmp hj (by rw [hjs]; decide) hne ha hp
  · obtain ⟨i, hi, hcmp⟩ := Option.map_eq_some_iff.1 isComp44
    obtain ⟨j, hj, hjs⟩ := Option.map_eq_some_iff.1 isSize48
    exact run_eql_iface_ptr_other (P := Tryd.prog) w Tryd.underlying48 Tryd.underlying105 hi hcmp hj (by rw [hjs]; decide) hne ha hp
theorem eql_types (w : World) (T U : Nat) (x y : Value) (hne : T ≠ U) :
    (binOp .eql 48 (.iface T x) (.iface U y)).run Tryd.prog w = .ok (.bool false) w :=
  run_eql_iface_types (P := Tryd.prog) T U x y Tryd.underlying48 hne w
theorem eql_nil (w : World) (T : Nat) (x : Value) :
    (binOp .eql 48 .nilIface (.iface T x)).run Tryd.prog w = .ok (.bool false) w :=
  run_eql_iface_nil_left (P := Tryd.prog) w T x Tryd.underlying48

/-- Whether the error at the tree's head is the target itself. -/
def Tree.atHead (T : Nat) (p : Addr) : Tree → Bool
  | .leaf a => decide (T = 147 ∧ a = p)
  | .fault b _ _ _ => decide (T = 105 ∧ (⟨b, 0, none⟩ : Addr) = p)
  | _ => false
theorem eql_head (w : World) (T : Nat) (p : Addr) (t : Tree) (hT : T = 147 ∨ T = 105) (hl : t.lies w) (hp : Target w p) :
    (binOp .eql 48 t.val (.iface T (.pointer (some p)))).run Tryd.prog w = .ok (.bool (t.atHead T p)) w := by
  cases t with
  | nil => exact eql_nil w T _
  | leaf a =>
    by_cases h : T = 147
    · subst h
      by_cases k : a = p
      · subst k
        rw [show (Tree.leaf a).atHead 147 a = true from decide_eq_true ⟨rfl, rfl⟩]
        exact eql_hit w _ a hT
      · rw [show (Tree.leaf a).atHead 147 p = false from decide_eq_false fun e => k e.2]
        exact eql_miss w _ a p hT k hl hp
    · rw [show (Tree.leaf a).atHead T p = false from decide_eq_false fun e => h e.1]
      exact eql_types w _ T _ _ (Ne.symm h)
  | fault b op pl t =>
    by_cases h : T = 105
    · subst h
      by_cases k : (⟨b, 0, none⟩ : Addr) = p
      · subst k
        rw [show (Tree.fault b op pl t).atHead 105 ⟨b, 0, none⟩ = true from decide_eq_true ⟨rfl, rfl⟩]
        exact eql_hit w _ ⟨b, 0, none⟩ hT
      · rw [show (Tree.fault b op pl t).atHead 105 p = false from decide_eq_false fun e => k e.2]
        exact eql_miss w _ ⟨b, 0, none⟩ p hT k ⟨_, _, hl.1⟩ hp
    · rw [show (Tree.fault b op pl t).atHead T p = false from decide_eq_false fun e => h e.1]
      exact eql_types w _ T _ _ (Ne.symm h)
end Go.Proofs.YthhighljfjeooaaDoor
