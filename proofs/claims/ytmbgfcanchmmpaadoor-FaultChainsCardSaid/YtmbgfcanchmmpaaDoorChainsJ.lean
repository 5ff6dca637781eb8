/- FaultChains, tenth part: the argument (a slice of nodes) opened to its cells. -/
import Derived.Test.YtmbgfcanchmmpaaDoorChainsA
import Derived.Test.YtmbgfcanchmmpaaDoorLawPost
import Derived.Deep.Slices
import Derived.ChangeSame
namespace Go.Proofs.YtmbgfcanchmmpaaDoor
open Go.ChangeShapes Go.WideShapes Go.ChangeAt Go.RowKit

theorem cellsInt : Tryd.prog.cellsOf 3 = 1 := by kernel_rfl
theorem cellsStr : Tryd.prog.cellsOf 9 = 1 := by kernel_rfl
theorem cellsNode : Tryd.prog.cellsOf 67 = 6 := by kernel_rfl

theorem six {α : Type} : ∀ {l : List α}, l.length = 6 → ∃ a b c d e f, l = [a, b, c, d, e, f]
  | [a, b, c, d, e, f], _ => ⟨a, b, c, d, e, f, rfl⟩

section
variable {H : Type} {enc : TypeId × Value → H} {w : World} {base : Nat} {spare : Nat → Bool} {held : Bool}
theorem node_int {n : Nat} {c : Value} {y : DataW H × List MemPlace} (h : DataW.trod enc Tryd.prog w base spare held n 3 [c] = some y) : ∃ x : Int, c = .int .i64 x ∧ InI x := by
  obtain ⟨x, hx, _, hw⟩ := DataW.trod_int Tryd.underlying3 h
  exact ⟨x, by simpa using hx, bounds_i64 hw⟩
theorem node_cells {fuel : Nat} {cs : List Value} {y : DataW H × List MemPlace} (h : DataW.trod enc Tryd.prog w base spare held fuel 67 cs = some y) :
    ∃ x : Nd, cs = [.int .i64 x.kind, .int .i64 x.n, .int .i64 x.pl, .int .i64 x.a, .int .i64 x.b, .string x.op] ∧ InI x.kind ∧ InI x.a ∧ InI x.b := by
  obtain ⟨ys, n, _, _, hlen, hyl, hf⟩ := DataW.trod_struct Tryd.underlying67 h
  rw [cellsNode] at hlen
  obtain ⟨c0, c1, c2, c3, c4, c5, rfl⟩ := six hlen
  obtain ⟨y0, y1, y2, y3, y4, y5, rfl⟩ := six (show ys.length = 6 from hyl)
  have k0 : DataW.trod enc Tryd.prog w base spare held n 3 (([c0, c1, c2, c3, c4, c5].drop 0).take (Tryd.prog.cellsOf 3)) = some y0 := hf 0 _ rfl
  have k1 : DataW.trod enc Tryd.prog w base spare held n 3 (([c0, c1, c2, c3, c4, c5].drop 1).take (Tryd.prog.cellsOf 3)) = some y1 := hf 1 _ rfl
  have k2 : DataW.trod enc Tryd.prog w base spare held n 3 (([c0, c1, c2, c3, c4, c5].drop 2).take (Tryd.prog.cellsOf 3)) = some y2 := hf 2 _ rfl
  have k3 : DataW.trod enc Tryd.prog w base spare held n 3 (([c0, c1, c2, c3, c4, c5].drop 3).take (Tryd.prog.cellsOf 3)) = some y3 := hf 3 _ rfl
  have k4 : DataW.trod enc Tryd.prog w base spare held n 3 (([c0, c1, c2, c3, c4, c5].drop 4).take (Tryd.prog.cellsOf 3)) = some y4 := hf 4 _ rfl
  have k5 : DataW.trod enc Tryd.prog w base spare held n 9 (([c0, c1, c2, c3, c4, c5].drop 5).take (Tryd.prog.cellsOf 9)) = some y5 := hf 5 _ rfl
  rw [cellsInt] at k0 k1 k2 k3 k4
  rw [cellsStr] at k5
  obtain ⟨x0, rfl, h0⟩ := node_int (c := c0) k0
  obtain ⟨x1, rfl, h1⟩ := node_int (c := c1) k1
  obtain ⟨x2, rfl, h2⟩ := node_int (c := c2) k2
  obtain ⟨x3, rfl, h3⟩ := node_int (c := c3) k3
  obtain ⟨x4, rfl, h4⟩ := node_int (c := c4) k4
  obtain ⟨s, hs, _⟩ := DataW.trod_string Tryd.underlying9 k5
  have hs : c5 = .string s := by simpa using hs
  subst hs
  exact ⟨⟨x0, x1, x2, x3, x4, s⟩, rfl, h0, h3, h4⟩
end

/-- The argument, a slice of nodes. -/
theorem open_nodes {H : Type} {enc : TypeId × Value → H} {W : World} {v : Value} {d : DataW H} {p : List MemPlace} (hok : ∃ a len cap, v = .slice a len cap)
    (h : DataW.Trod enc Tryd.prog W 0 (fun _ => true) true 22 v d p) (hlt : ∀ x ∈ p, x.block < W.heap.size) :
    ∃ (a : Option Addr) (n cap : Nat) (nd : Nat → Nd), v = .slice a n cap ∧ cap ≤ maxLen ∧ Nodes W a n cap nd := by
  obtain ⟨a0, len, cap, rfl⟩ := hok
  obtain ⟨fuel, hf⟩ := h
  rcases Go.Deep.open_slice Tryd.underlying22 hf with ⟨hcs, hx⟩ | ⟨a, len', cap', m, n, D, Pl, hcs, _, hl, hm, hmm, hx, hi⟩
  · simp [Value.cells] at hcs
    obtain ⟨rfl, rfl, rfl⟩ := hcs
    exact ⟨none, 0, 0, fun _ => ⟨0, 0, 0, 0, 0, .empty⟩, rfl, Nat.zero_le _, Nat.le_refl _, fun j hj => absurd hj (Nat.not_lt_zero j)⟩
  · simp [Value.cells] at hcs
    obtain ⟨rfl, rfl, rfl⟩ := hcs
    simp only [if_true] at hmm
    subst hmm
    rw [cellsNode] at hx hi
    obtain ⟨rfl, rfl⟩ := Prod.mk.inj hx
    have key : ∀ i, i < m → ∃ x : Nd, (∀ j z, [Value.int .i64 x.kind, .int .i64 x.n, .int .i64 x.pl, .int .i64 x.a, .int .i64 x.b, .string x.op][j]? = some z → W.cell? ((a.add (i * 6)).add j) = some z) ∧ InI x.kind ∧ InI x.a ∧ InI x.b := by
      intro i hic
      obtain ⟨cs', hc, ht⟩ := hi i hic
      obtain ⟨x, rfl, h1, h2, h3⟩ := node_cells ht
      obtain ⟨_, hcl, hat⟩ := World.cells?_some hc
      exact ⟨x, fun j z hz => (hat j (by have := (List.getElem?_eq_some_iff.1 hz).1; simpa using this)).trans hz, h1, h2, h3⟩
    obtain ⟨nd, hnd⟩ := @Go.Deep.choose_lt Nd ⟨⟨0, 0, 0, 0, 0, .empty⟩⟩ _ _ key
    refine ⟨some a, _, m, nd, rfl, hm, hl, fun j hj => ?_⟩
    obtain ⟨hc, h1, h2, h3⟩ := hnd j (by omega)
    obtain ⟨b, off, spot⟩ := a
    have hspot : spot = none := by simpa [Addr.add] using World.cell?_spot ((hnd 0 (by omega)).1 0 _ rfl)
    subst hspot
    simp only [add_plain] at hc
    exact ⟨b, off, rfl, hlt (.cell b off) (List.mem_append_left _ (MemPlace.mem_row.2 ⟨0, by omega, by simp⟩)), ⟨hc 0 _ rfl, hc 1 _ rfl, hc 2 _ rfl, hc 3 _ rfl, hc 4 _ rfl, hc 5 _ rfl⟩, h1, h2, h3⟩
end Go.Proofs.YtmbgfcanchmmpaaDoor
