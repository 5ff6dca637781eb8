/- Posts of calls that only draw. -/
import Derived.Test.YthhighljfjeooaaDoorBase
namespace Go.Proofs.YthhighljfjeooaaDoor
open Go.RowKit

/-- a post that tells the answer, and that only draws were made -/
def Quiet (v : Value) (w : World) (e : Ending) (w' : World) : Prop := e = .returned v ∧ ∃ m, w' = w.drewN m
theorem Quiet.tells {P : Program} {f : FuncId} {args : Array Value} {w : World} {v : Value} (h : Calls P f args w (Quiet v w)) : Calls P f args w (Tells v w) :=
  h.mono fun _ _ ⟨he, m, hw⟩ => ⟨he, by rw [hw]; exact below_drewN (Below.refl _ _) m⟩
theorem quiet_more {w wx : World} (h : ∃ a, wx = w.drewN a) (m : Nat) : ∃ a, wx.drewN m = w.drewN a := by
  obtain ⟨a, rfl⟩ := h
  exact ⟨a + m, by rw [World.drewN_drewN]⟩
/-- for a quiet region: contracts whose post is Quiet -/
theorem Quiet.add {P : Program} {f : FuncId} {args : Array Value} {w : World} {n : Nat} {v : Value} (h : Calls P f args (w.drewN n) (Quiet v (w.drewN n))) :
    Calls P f args (w.drewN n) fun e w'' => e = .returned v ∧ ∃ m, w'' = w.drewN m :=
  h.mono fun _ _ ⟨he, m, hw⟩ => ⟨he, n + m, by rw [hw, World.drewN_drewN]⟩
theorem Quiet.add2 {P : Program} {f : FuncId} {args : Array Value} {w : World} {a n : Nat} {v : Value} (h : Calls P f args (w.drewN (a + n)) (Quiet v (w.drewN (a + n)))) :
    Calls P f args (w.drewN (a + n)) fun e w'' => e = .returned v ∧ ∃ m, w'' = w.drewN (a + m) :=
  h.mono fun _ _ ⟨he, m, hw⟩ => ⟨he, n + m, by rw [hw, World.drewN_drewN, Nat.add_assoc]⟩
end Go.Proofs.YthhighljfjeooaaDoor
