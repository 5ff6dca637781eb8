/- errors.is and errors.Is by their contracts: of any error tree that lies in memory and any target that is a pointer of one of the two kinds. -/
import Derived.Test.YthhighljfjeooaaDoorErrIs
namespace Go.Proofs.YthhighljfjeooaaDoor
open Go.RowKit Go.Extern.Stop Go.Stop Go.Extern

theorem eql_isNil (t : Tree) (w : World) : (binOp .eql 48 t.val .nilIface).run Tryd.prog w = .ok (.bool t.isNil) w := by
  cases t <;> kernel_rfl

theorem guard_isNil (t : Tree) (n : Nat) (w : World) : (eqGuard .eql 48 (.tmp n) (.const .nilIface) t.val .nilIface).run Tryd.prog w = .ok () w := by
  cases t <;> kernel_rfl

/-- What the loop of errors.is hands from round to round. -/
def IsRel (w : World) (T : Nat) (p : Addr) (n : Nat) (t : Tree) (k : Nat) (v : Value) (wr : World) : Prop :=
  ∃ t' : Tree, v = t'.val ∧ t'.lies wr ∧ Target wr p ∧ t'.size ≤ k ∧ k ≤ n ∧ t'.hits T p = t.hits T p ∧ Below w.heap.size w wr

def IsPost (w : World) (T : Nat) (p : Addr) (t : Tree) (e : Ending) (w' : World) : Prop := e = .returned (.bool (t.hits T p)) ∧ Below w.heap.size w w'

theorem IsRel.next {w : World} {T : Nat} {p : Addr} {n : Nat} {t : Tree} {k k' : Nat} {wr : World} {t' : Tree} (h1 : t'.lies wr) (h2 : Target wr p) (h3 : t'.size ≤ k') (h4 : k' < k) (h5 : k ≤ n) (h6 : t'.hits T p = t.hits T p) (h7 : Below w.heap.size w wr) :
    IsRel w T p n t k' t'.val wr := ⟨t', rfl, h1, h2, h3, by omega, h6, h7⟩

set_option maxRecDepth 100000 in
set_option maxHeartbeats 1000000 in
theorem is_any (n : Nat) : ∀ (t : Tree) (w : World) (T : Nat) (p : Addr), t.size ≤ n → t.lies w → Target w p → (T = 147 ∨ T = 105) →
    Calls Tryd.prog 98 #[t.val, .iface T (.pointer (some p)), .bool true] w (IsPost w T p t) := by
  induction n with
  | zero =>
    intro t w T p hn
    cases t <;> simp [Tree.size] at hn
  | succ n ih =>
    intro t w T p hn hl hp hT
    go_enter Tryd.func98, Tryd.ntmps98
    go_wp2
    go_loopg [0] (n + 1) (fun k v wr => IsRel w T p (n + 1) t k v wr)
    case atStart => exact ⟨t, rfl, hl, hp, hn, Nat.le_refl _, rfl, Below.refl _ _⟩
    case round =>
      obtain ⟨t', rfl, hl', hp', hk, hkn, hh, hb⟩ := hrel
      have he := eql_head wr T p t' hT hl' hp'
      have HH := Lib.hid hh
      clear hh hl hp hn
      cases t' with
      | nil =>
        have hv : Tree.nil.val = .nilIface := rfl
        rw [hv] at he
        have ha : Tree.nil.atHead T p = false := rfl
        rw [ha] at he
        clear ha
        have f1 := noIsN
        have f2 := noUN
        have f3 := noVN
        go_wp2
        go_ret
        exact ⟨congrArg (fun b => Ending.returned (.bool b)) HH.out, hb⟩
      | leaf a =>
        have hv : (Tree.leaf a).val = .iface 147 (.pointer (some a)) := rfl
        rw [hv] at he
        have f1 := noIs94
        have f2 := noU94
        have f3 := noV94
        have e1 : (Tree.leaf a).hits T p = (Tree.leaf a).atHead T p := rfl
        rw [e1] at HH
        by_cases ha : (Tree.leaf a).atHead T p = true
        · rw [ha] at HH he
          clear ha
          go_wp2
          go_ret
          exact ⟨congrArg (fun b => Ending.returned (.bool b)) HH.out, hb⟩
        · have ha : (Tree.leaf a).atHead T p = false := by simpa using ha
          rw [ha] at HH he
          clear ha
          go_wp2
          go_ret
          exact ⟨congrArg (fun b => Ending.returned (.bool b)) HH.out, hb⟩
      | fault b op pl t1 =>
        have hv : (Tree.fault b op pl t1).val = .iface 105 (.pointer (some ⟨b, 0, none⟩)) := rfl
        rw [hv] at he
        have f1 := noIs44
        have f2 := hasU44
        have mU := methodU44
        have hn1 := eql_isNil t1
        have hn2 := guard_isNil t1
        have hnn : t1.isNil = false := by
          have := hl'.2.2
          cases t1 <;> first | rfl | exact absurd rfl this
        have e1 : (Tree.fault b op pl t1).hits T p = ((Tree.fault b op pl t1).atHead T p || t1.hits T p) := rfl
        rw [e1] at HH
        by_cases ha : (Tree.fault b op pl t1).atHead T p = true
        · rw [ha] at HH he
          clear ha
          go_wp2
          go_ret
          exact ⟨congrArg (fun b => Ending.returned (.bool b)) HH.out, hb⟩
        · have ha : (Tree.fault b op pl t1).atHead T p = false := by simpa using ha
          rw [ha] at HH he
          clear ha
          go_wp2_with (go_at_call 127; refine (unwrap44 b op pl t1.val _ hl'.1).mono ?_; rintro e w' ⟨rfl, rfl⟩)
          go_roundg t1.size
          case rel => exact IsRel.next hl'.2.1 hp' (Nat.le_refl _) (by simp only [Tree.size] at hk; omega) hkn (by rw [← HH.out]; simp) hb
          case measure => simp only [Tree.size] at hk; omega

/-- errors.Is: a nil error; any other. -/
theorem errorsIs (t : Tree) (w : World) (T : Nat) (p : Addr) (hl : t.lies w) (hp : Target w p) (hT : T = 147 ∨ T = 105) :
    Calls Tryd.prog 86 #[t.val, .iface T (.pointer (some p))] w (IsPost w T p t) := by
  have h8 := @run_callFunc_extern Tryd.prog 97 _ ReflectliteType.typeOf Tryd.func97 (by kernel_rfl) (by kernel_rfl) (by kernel_rfl) (by kernel_rfl)
  have mR := methodComparable
  have hn1 := eql_isNil t
  have hn2 := guard_isNil t
  by_cases hnn : t.isNil = true
  · obtain rfl := Tree.val_isNil _ hnn
    have he := eql_nil w T (.pointer (some p))
    have hv : Tree.nil.val = .nilIface := rfl
    rw [hv]
    go_enter Tryd.func86, Tryd.ntmps86
    go_wp2
    go_ret
    exact ⟨rfl, Below.refl _ _⟩
  · have hnn : t.isNil = false := by simpa using hnn
    rcases hT with rfl | rfl
    · have tT := typeOf94
      have cT := comparable94
      go_enter Tryd.func86, Tryd.ntmps86
      go_wp2_with (go_at_call 98; refine (is_any t.size t _ _ p (Nat.le_refl _) hl hp (Or.inl rfl)).mono ?_; rintro e w' ⟨rfl, hb⟩)
      go_ret
      exact ⟨rfl, hb⟩
    · have tT := typeOf44
      have cT := comparable44
      go_enter Tryd.func86, Tryd.ntmps86
      go_wp2_with (go_at_call 98; refine (is_any t.size t _ _ p (Nat.le_refl _) hl hp (Or.inr rfl)).mono ?_; rintro e w' ⟨rfl, hb⟩)
      go_ret
      exact ⟨rfl, hb⟩
end Go.Proofs.YthhighljfjeooaaDoor
