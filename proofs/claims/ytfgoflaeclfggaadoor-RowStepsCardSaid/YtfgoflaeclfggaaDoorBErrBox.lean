/- Errors of the document in boxes: Err in a block, Bad, an Err that is laid into a result. -/
import Derived.Test.YtfgoflaeclfggaaDoorB6
import Derived.Test.YtfgoflaeclfggaaDoorB5
namespace Go.Proofs.YtfgoflaeclfggaaDoor
open Go.RowKit Go.Extern.Stop Go.Stop Go.Extern WordM RuleM NatM

theorem box_err (w : World) (a b c : Value) : ∀ (w0 : World), w0 = w.alloc (.cells #[a, b, c] 33) → Below w.heap.size w w0 ∧ Err3 w0 w.heap.size a b c := fun w0 hw0 =>
  ⟨by rw [hw0]; exact (Below.refl _ _).alloc (Nat.le_refl _) _, by rw [hw0]; exact ⟨heap_newN w _⟩⟩
theorem badG_no (a b : Value) (w : World) : Calls Tryd.prog 34 #[.agg #[.int .i64 0, a, b]] w (Tells (.bool false) w) := by
  go_enter Tryd.func34, Tryd.ntmps34
  go_wp2_with fail
  go_ret
  exact ⟨rfl, (Below.refl _ _).alloc (Nat.le_refl _) _⟩
theorem badG_yes (k : Int) (hk : k ≠ 0) (a b : Value) (w : World) : Calls Tryd.prog 34 #[.agg #[.int .i64 k, a, b]] w (Tells (.bool true) w) := by
  have hk' : (k != 0) = true := by simpa using hk
  have hk2 : (k == 0) = false := by simpa using hk
  go_enter Tryd.func34, Tryd.ntmps34
  go_wp2_with fail
  go_ret
  exact ⟨rfl, (Below.refl _ _).alloc (Nat.le_refl _) _⟩
theorem wantV_put3g {w : World} {g g' h co ca : Nat} {L : List (ByteArray × Int)} (hv : WantV w (some ⟨g, 0, none⟩) (some ⟨g', 0, none⟩) co ca L) (hg : g ≠ h) (hg' : g' ≠ h) (a b c : Value) : WantV (put3 w h a b c) (some ⟨g, 0, none⟩) (some ⟨g', 0, none⟩) co ca L :=
  ⟨fun hn => by
    obtain ⟨b1, o1, e1, l1, c1⟩ := hv.ops hn
    obtain ⟨rfl, rfl⟩ : g = b1 ∧ 0 = o1 := by simpa using e1
    exact ⟨g, 0, rfl, by rw [put3_size]; exact l1, fun j x hx => (put3_cell w h a b c _ hg).trans (c1 j x hx)⟩, fun hn => by
    obtain ⟨b2, o2, e2, l2, c2⟩ := hv.ats hn
    obtain ⟨rfl, rfl⟩ : g' = b2 ∧ 0 = o2 := by simpa using e2
    exact ⟨g', 0, rfl, by rw [put3_size]; exact l2, fun j x hx => (put3_cell w h a b c _ hg').trans (c2 j x hx)⟩, hv.leo, hv.lea, hv.capo, hv.capa⟩
theorem two_boxesG (w : World) (a b c x y z : Value) : ∀ (w0 : World), w0 = (w.alloc (.cells #[a, b, c] 53)).alloc (.cells #[x, y, z] 33) →
    Below w.heap.size w w0 ∧ Rul3 w0 w.heap.size a b c ∧ Err3 w0 (w.heap.size + 1) x y z := fun w0 hw0 => by
  have h1 : Below w.heap.size w (w.alloc (.cells #[a, b, c] 53)) := (Below.refl _ _).alloc (Nat.le_refl _) _
  have h2 : Below (w.alloc (.cells #[a, b, c] 53)).heap.size (w.alloc (.cells #[a, b, c] 53)) w0 := by rw [hw0]; exact (Below.refl _ _).alloc (Nat.le_refl _) _
  have hs : (w.alloc (.cells #[a, b, c] 53)).heap.size = w.heap.size + 1 := by simp
  have h3 : Err3 w0 (w.alloc (.cells #[a, b, c] 53)).heap.size x y z := by rw [hw0]; exact ⟨heap_newN _ _⟩
  rw [hs] at h3
  exact ⟨h1.trans (h2.mono h1.size), (Rul3.new w a b c).next h2, h3⟩
/-- an Err of one package, laid into the result's cells -/
theorem UnderPost.laid {w wx w2 : World} {h g g' : Nat} {op : ByteArray} {pl a : Int} (hb : Below w.heap.size w wx) (hh : w.heap.size ≤ h) (hlt : h < wx.heap.size) (hg : wx.heap.size ≤ g ∧ g < w2.heap.size ∧ wx.heap.size ≤ g' ∧ g' < w2.heap.size)
    (hc : w2.cell? ⟨g, 0, none⟩ = some (.string op)) (hc' : w2.cell? ⟨g', 0, none⟩ = some (.int .i64 pl)) (hb2 : Below wx.heap.size wx w2) (x y z : Value) :
    UnderPost w a [(op, pl)] (.returned (.agg #[.int .i64 a, .slice (some ⟨g, 0, none⟩) 1 1, .slice (some ⟨g', 0, none⟩) 1 1])) (put3 w2 h x y z) := by
  have hs := hb.size
  exact ⟨g, g', 1, 1, rfl, by omega, by omega, WantV.one (by rw [put3_size]; omega) (by rw [put3_size]; omega) ((put3_cell w2 h x y z _ (by show g ≠ h; omega)).trans hc) ((put3_cell w2 h x y z _ (by show g' ≠ h; omega)).trans hc'), put3_below (hb.trans (hb2.mono hs)) hh _ _ _⟩

end Go.Proofs.YtfgoflaeclfggaaDoor
