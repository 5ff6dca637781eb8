/- The document's own package of words by its contracts: Bad of an error; Text, Next and Index where Check refuses. -/
import Derived.Test.YthafjbegkifekaaDoorBRefWD
namespace Go.Proofs.YthafjbegkifekaaDoor
open Go.RowKit Go.Extern WordM NatM

theorem bad_no (a b : Value) (w : World) : Calls Tryd.prog 48 #[.agg #[.int .i64 0, a, b]] w (Tells (.bool false) w) := by
  go_enter Tryd.func48, Tryd.ntmps48
  go_wp2_with fail
  go_ret
  exact ⟨rfl, (Below.refl _ _).alloc (Nat.le_refl _) _⟩
theorem bad_yes (k : Int) (hk : k ≠ 0) (a b : Value) (w : World) : Calls Tryd.prog 48 #[.agg #[.int .i64 k, a, b]] w (Tells (.bool true) w) := by
  have hk' : (k != 0) = true := by simpa using hk
  have hk2 : (k == 0) = false := by simpa using hk
  go_enter Tryd.func48, Tryd.ntmps48
  go_wp2_with fail
  go_ret
  exact ⟨rfl, (Below.refl _ _).alloc (Nat.le_refl _) _⟩
theorem chkW_num {k : Int} {l : List Int} {i m : Nat} (h : chkW k l = some (i, m)) : 1 ≤ m ∧ m ≤ 11 := by
  unfold chkW at h
  split at h
  · have h1 := (Prod.mk.inj (Option.some.inj h)).2; omega
  · split at h
    · have h1 := (Prod.mk.inj (Option.some.inj h)).2; omega
    · obtain ⟨j, _, he⟩ := Option.map_eq_some_iff.1 h
      have h1 := (Prod.mk.inj he).2; omega
theorem WantV.next {w w' : World} {po pa : Option Addr} {a b : Nat} {L : List (ByteArray × Int)} (hb : Below w.heap.size w w') (h : WantV w po pa a b L) : WantV w' po pa a b L := h.below hb



end Go.Proofs.YthafjbegkifekaaDoor
