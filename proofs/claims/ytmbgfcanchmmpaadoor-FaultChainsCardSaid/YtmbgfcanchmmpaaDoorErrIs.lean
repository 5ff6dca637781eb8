/- errors.Is by its contract: of any error tree and any target that is a pointer of one of the two kinds, it finds just what the tree holds, and leaves old memory alone. -/
import Derived.Test.YtmbgfcanchmmpaaDoorErrFacts
namespace Go.Proofs.YtmbgfcanchmmpaaDoor
open Go.RowKit Go.Extern.Stop Go.Stop Go.Extern

/-- What holds of a target: its block is there. -/
def Target (w : World) (p : Addr) : Prop := ∃ c t, w.heap[p.block]? = some (.cells c t (0, 0))
theorem Target.below {w w' : World} {p : Addr} (hb : Below w.heap.size w w') : Target w p → Target w' p := fun ⟨c, t, h⟩ => ⟨c, t, (hb.block _ (heap_lt h)).trans h⟩

theorem unwrap44 (b : Nat) (op : ByteArray) (pl : Int) (v : Value) (w : World) (h : w.heap[b]? = some (.cells #[.string op, .int .i64 pl, v] 48 (0, 0))) :
    Calls Tryd.prog 78 #[.pointer (some ⟨b, 0, none⟩)] w fun e w' => e = .returned v ∧ w = w' := by
  have hc : w.cell? ⟨b, 2, none⟩ = some v := by simp [World.cell?, h]
  go_enter Tryd.func78, Tryd.ntmps78
  go_wp2
  go_ret
  exact ⟨rfl, rfl⟩
theorem unwrap58 (v : Value) (w : World) :
    Calls Tryd.prog 80 #[.agg #[v]] w fun e w' => e = .returned v ∧ Below w.heap.size w w' := by
  go_enter Tryd.func80, Tryd.ntmps80
  go_wp2
  go_ret
  exact ⟨rfl, (Below.refl _ _).alloc (Nat.le_refl _) _⟩
theorem unwrap62 (v u : Value) (w : World) (hv : v = .nilIface ∨ ∃ T x, v = .iface T x) (hu : u = .nilIface ∨ ∃ T x, u = .iface T x) :
    Calls Tryd.prog 83 #[.agg #[v, u]] w fun e w' => ∃ b, e = .returned (.slice (some ⟨b, 0, none⟩) 2 2) ∧ Below w.heap.size w w' ∧ b < w'.heap.size ∧ w.heap.size ≤ b ∧ w'.cell? ⟨b, 0, none⟩ = some v ∧ w'.cell? ⟨b, 1, none⟩ = some u := by
  rcases hv with rfl | ⟨T, x, rfl⟩ <;> rcases hu with rfl | ⟨T', x', rfl⟩
  all_goals
    go_enter Tryd.func83, Tryd.ntmps83
    go_wp2
    go_ret
    exact ⟨w.heap.size + 1, rfl, ((Below.refl _ _).alloc (Nat.le_refl _) _).alloc (by simp) _, by simp, by omega, by simp, by simp⟩

/-- What the round of errors.is needs of the comparison with the target. -/
theorem eql_hit (w : World) (T : Nat) (a : Addr) (hT : T = 94 ∨ T = 44) :
    (binOp .eql 28 (.iface T (.pointer (some a))) (.iface T (.pointer (some a)))).run Tryd.prog w = .ok (.bool true) w := by
  rcases hT with rfl | rfl
  · obtain ⟨i, hi, hcmp⟩ := Option.map_eq_some_iff.1 isComp94
    obtain ⟨j, hj, hjs⟩ := Option.map_eq_some_iff.1 isSize96
    exact run_eql_iface_ptr_same (P := Tryd.prog) w a Tryd.underlying28 Tryd.underlying94 hi hcmp hj
  · obtain ⟨i, hi, hcmp⟩ := Option.map_eq_some_iff.1 isComp44
    obtain ⟨j, hj, hjs⟩ := Option.map_eq_some_iff.1 isSize48
    exact run_eql_iface_ptr_same (P := Tryd.prog) w a Tryd.underlying28 Tryd.underlying44 hi hcmp hj
theorem eql_miss (w : World) (T : Nat) (a p : Addr) (hT : T = 94 ∨ T = 44) (hne : a ≠ p) (ha : Target w a) (hp : Target w p) :
    (binOp .eql 28 (.iface T (.pointer (some a))) (.iface T (.pointer (some p)))).run Tryd.prog w = .ok (.bool false) w := by
  obtain ⟨c, t, ha⟩ := ha
  obtain ⟨c', t', hp⟩ := hp
  rcases hT with rfl | rfl
  · obtain ⟨i, hi, hcmp⟩ := Option.map_eq_some_iff.1 isComp94
    obtain ⟨j, hj, hjs⟩ := Option.map_eq_some_iff.1 isSize96
    exact run_eql_iface_ptr_other (P := Tryd.prog) w Tryd.underlying28 Tryd.underlying94 hi hcmp hj (by rw [hjs]; decide) hne ha hp
  · obtain ⟨i, hi, hcmp⟩ := Option.map_eq_some_iff.1 isComp44
    obtain ⟨j, hj, hjs⟩ := Option.map_eq_some_iff.1 isSize48
    exact run_eql_iface_ptr_other (P := Tryd.prog) w Tryd.underlying28 Tryd.underlying44 hi hcmp hj (by rw [hjs]; decide) hne ha hp
theorem eql_types (w : World) (T U : Nat) (x y : Value) (hne : T ≠ U) :
    (binOp .eql 28 (.iface T x) (.iface U y)).run Tryd.prog w = .ok (.bool false) w :=
  run_eql_iface_types (P := Tryd.prog) T U x y Tryd.underlying28 hne w
theorem eql_nil (w : World) (T : Nat) (x : Value) :
    (binOp .eql 28 .nilIface (.iface T x)).run Tryd.prog w = .ok (.bool false) w :=
  run_eql_iface_nil_left (P := Tryd.prog) w T x Tryd.underlying28

/-- Whether the error at the tree's head is the target itself. -/
def Tree.atHead (T : Nat) (p : Addr) : Tree → Bool
  | .leaf a => decide (T = 94 ∧ a = p)
  | .fault b _ _ _ => decide (T = 44 ∧ (⟨b, 0, none⟩ : Addr) = p)
  | _ => false
theorem eql_head (w : World) (T : Nat) (p : Addr) (t : Tree) (hT : T = 94 ∨ T = 44) (hl : t.lies w) (hp : Target w p) :
    (binOp .eql 28 t.val (.iface T (.pointer (some p)))).run Tryd.prog w = .ok (.bool (t.atHead T p)) w := by
  cases t with
  | nil => exact eql_nil w T _
  | leaf a =>
    by_cases h : T = 94
    · subst h
      by_cases k : a = p
      · subst k
        rw [show (Tree.leaf a).atHead 94 a = true from decide_eq_true ⟨rfl, rfl⟩]
        exact eql_hit w _ a hT
      · rw [show (Tree.leaf a).atHead 94 p = false from decide_eq_false fun e => k e.2]
        exact eql_miss w _ a p hT k hl hp
    · rw [show (Tree.leaf a).atHead T p = false from decide_eq_false fun e => h e.1]
      exact eql_types w _ T _ _ (Ne.symm h)
  | fault b op pl t =>
    by_cases h : T = 44
    · subst h
      by_cases k : (⟨b, 0, none⟩ : Addr) = p
      · subst k
        rw [show (Tree.fault b op pl t).atHead 44 ⟨b, 0, none⟩ = true from decide_eq_true ⟨rfl, rfl⟩]
        exact eql_hit w _ ⟨b, 0, none⟩ hT
      · rw [show (Tree.fault b op pl t).atHead 44 p = false from decide_eq_false fun e => k e.2]
        exact eql_miss w _ ⟨b, 0, none⟩ p hT k ⟨_, _, hl.1⟩ hp
    · rw [show (Tree.fault b op pl t).atHead T p = false from decide_eq_false fun e => h e.1]
      exact eql_types w _ T _ _ (Ne.symm h)
  | own t => exact eql_types w _ T _ _ (by rcases hT with rfl | rfl <;> decide)
  | shut t => exact eql_types w _ T _ _ (by rcases hT with rfl | rfl <;> decide)
  | both t u => exact eql_types w _ T _ _ (by rcases hT with rfl | rfl <;> decide)
end Go.Proofs.YtmbgfcanchmmpaaDoor
