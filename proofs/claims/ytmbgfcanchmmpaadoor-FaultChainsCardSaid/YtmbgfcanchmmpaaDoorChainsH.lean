/- FaultChains, eighth part: the first nodes, at most twelve; the shape of a list of the document's Faults. -/
import Derived.Test.YtmbgfcanchmmpaaDoorChainsF
namespace Go.Proofs.YtmbgfcanchmmpaaDoor
open Go.RowKit Go.Extern.Stop Go.Stop Go.Extern

def FewPost (w : World) (p : Option Addr) (n cap : Nat) (e : Ending) (w' : World) : Prop := ∃ m, m ≤ 12 ∧ m ≤ n ∧ e = .returned (.slice p m cap) ∧ w = w'
theorem few_any (p : Option Addr) (n cap : Nat) (nd : Nat → Nd) (w : World) (hw : Nodes w p n cap nd) (hmax : cap ≤ 9223372036854775807) :
    Calls Tryd.prog 9 #[.slice p n cap] w (FewPost w p n cap) := by
  have hn0 : n ≤ cap := hw.1
  by_cases h : n ≤ 12
  · clear hw
    go_enter Tryd.func9, Tryd.ntmps9
    go_wp2_with fail
    go_ret
    exact ⟨n, h, Nat.le_refl _, rfl, rfl⟩
  · obtain ⟨b, off, hp, _⟩ := hw.2 0 (by omega)
    subst hp
    clear hw
    go_enter Tryd.func9, Tryd.ntmps9
    go_wp2_with fail
    go_ret
    exact ⟨12, by omega, by omega, rfl, rfl⟩

theorem cells2_get : ∀ (l : List (Nat × ByteArray × Int)) (j : Nat) (hj : j < l.length), (cells2 l)[j * 2]? = some (.string l[j].2.1) ∧ (cells2 l)[j * 2 + 1]? = some (.int .i64 l[j].2.2)
  | [], j, hj => absurd hj (Nat.not_lt_zero j)
  | x :: l, 0, _ => by simp [cells2, pair2]
  | x :: l, j + 1, hj => by
    have ih := cells2_get l j (by simpa using hj)
    have e : cells2 (x :: l) = .string x.2.1 :: .int .i64 x.2.2 :: cells2 l := by simp [cells2, pair2]
    rw [e]
    refine ⟨?_, ?_⟩
    · rw [show (j + 1) * 2 = j * 2 + 1 + 1 by omega]
      simpa using ih.1
    · rw [show (j + 1) * 2 + 1 = (j * 2 + 1) + 1 + 1 by omega]
      simpa using ih.2

theorem own_shape2 {w : World} {base : Nat} {e : TypeId} {v : Value} {l : List (Nat × ByteArray × Int)} (h : w.ownsRow base e 2 v l.length (cells2 l)) :
    (v = .slice none 0 0 ∧ l = []) ∨ ∃ g cap, v = .slice (some ⟨g, 0, none⟩) l.length cap ∧ base ≤ g ∧ g < w.heap.size ∧ l.length ≤ cap ∧ cap ≤ maxLen ∧
      ∀ j (hj : j < l.length), w.cell? ⟨g, j * 2, none⟩ = some (.string l[j].2.1) ∧ w.cell? ⟨g, j * 2 + 1, none⟩ = some (.int .i64 l[j].2.2) := by
  have h0 := h
  obtain ⟨hx, h | ⟨g, cap, cur, hv, hg, hh, hc, hm, r⟩⟩ := h
  · obtain ⟨h1, h2⟩ := h
    exact Or.inl ⟨h1, List.eq_nil_of_length_eq_zero (by omega)⟩
  · subst hv
    refine Or.inr ⟨g, cap, rfl, hg, heap_lt hh, hc, hm, fun j hj => ?_⟩
    have hk := cells2_get l j hj
    exact ⟨(h0.cellAt (j * 2) (by omega)).trans hk.1, (h0.cellAt (j * 2 + 1) (by omega)).trans hk.2⟩
end Go.Proofs.YtmbgfcanchmmpaaDoor
