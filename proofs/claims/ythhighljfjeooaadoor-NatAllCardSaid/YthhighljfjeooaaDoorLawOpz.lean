/- plays of edenlaw02: all nine kinds.
NatAll's argument, a slice of ops, opened to its cells. -/
import Derived.Test.YthhighljfjeooaaDoorPlaysP
import Derived.Test.YthhighljfjeooaaDoorPlaysQ
import Derived.Test.YthhighljfjeooaaDoorLawNat
import Derived.Deep.Slices
import Derived.ChangeSame
namespace Go.Proofs.YthhighljfjeooaaDoor
open Go.RowKit Go.Extern NatM

/-- An op's fields. -/
structure Od where
  (k : Int) (p q r : Option Addr) (c e cr : Nat) (l m : List Nat) (x d : Nat) (n : Int) (s : ByteArray) (K : List Nt)
def Od.row (o : Od) : List Value := [.int .i64 o.k, .slice o.p o.l.length o.c, .slice o.q o.m.length o.e, .int .u64 (o.x : Int), .int .u32 (o.d : Int), .int .i64 o.n, .string o.s, .slice o.r o.K.length o.cr]
structure OkOp (w : World) (o : Od) : Prop where
  a : NatV w.heap.size w o.p o.c o.l
  b : NatV w.heap.size w o.q o.e o.m
  L : NatsV w.heap.size w o.r o.cr o.K
  x : o.x < 18446744073709551616
  d : o.d < 4294967296
theorem OkOp.next {w w' : World} {o : Od} (hb : Below w.heap.size w w') (h : OkOp w o) : OkOp w' o := ⟨h.a.next hb, h.b.next hb, h.L.nx hb, h.x, h.d⟩
theorem parseBad_num {l : List Nat} {i j : Nat} (h : parseBad l = some (i, j)) : 1 ≤ j ∧ j ≤ 11 := by
  unfold parseBad at h
  repeat' split at h
  all_goals first
    | (cases h; done)
    | (have h1 := (Prod.mk.inj (Option.some.inj h)).2; omega)
theorem kind_range (k : Int) : 0 ≤ kindOf k ∧ kindOf k < 9 := by
  have h1 : -9 < k.tmod 9 := Int.lt_tmod_of_pos k (by omega)
  refine ⟨?_, Int.tmod_lt_of_pos _ (by omega)⟩
  exact Int.tmod_nonneg _ (by omega)

theorem plays_any (o : Od) (w : World) (A : Nat → Addr) (hr : Roots w A) (hT : TypeVar w) (h : OkOp w o) (hl : o.l.length ≤ 1000) (hm : o.m.length ≤ 1000) (hK : o.K.length ≤ 100) (hKe : ∀ x : Nt, x ∈ o.K → x.2.2.length ≤ 1000) :
    Calls Tryd.prog 13 #[.agg o.row.toArray] w (Tells (.bool true) w) := by
  obtain ⟨k, p, q, r, c, e, cr, l, m, x, d, n, s, K⟩ := o
  have ha : NatV w.heap.size w p c l := h.a
  have hb : NatV w.heap.size w q e m := h.b
  have hL : NatsV w.heap.size w r cr K := h.L
  have hx : x < 18446744073709551616 := h.x
  have hd : d < 4294967296 := h.d
  show Calls Tryd.prog 13 #[.agg #[.int .i64 k, .slice p l.length c, .slice q m.length e, .int .u64 (x : Int), .int .u32 (d : Int), .int .i64 n, .string s, .slice r K.length cr]] w (Tells (.bool true) w)
  by_cases h0 : kindOf k = 0
  · exact plays_0 k _ _ x d n s _ w hx h0
  by_cases h1 : kindOf k = 1
  · exact plays_1 k p q c e l m x d n s _ w ha hb hl hm h1
  by_cases h2 : kindOf k = 2
  · by_cases hlt : V32 l < V32 m
    · exact plays_2_less k p q c e l m x d n s _ w A hr hT ha hb hl hm hlt h2
    · exact plays_2_ok k p q c e l m x d n s _ w A hr hT ha hb hl hm (Nat.le_of_not_lt hlt) h2
  by_cases h3 : kindOf k = 3
  · exact plays_3 k p q c e l m x d n s _ w ha hb hl hm h3
  by_cases h4 : kindOf k = 4
  · by_cases hd0 : d = 0
    · rw [hd0]
      exact plays_4_zero k p c l _ x n s _ w A hr hT h4
    · exact plays_4_ok k p c l _ x n s d _ w A hr hT ha hl (by omega) hd h4
  by_cases h5 : kindOf k = 5
  · by_cases hn : n < 0
    · exact plays_5_neg k _ _ x d n s _ w A hr hT hn h5
    by_cases hn2 : 1024 < n
    · exact plays_5_big k _ _ x d n s _ w A hr hT hn2 h5
    obtain ⟨N, rfl⟩ : ∃ N : Nat, n = (N : Int) := ⟨n.toNat, by omega⟩
    exact plays_5_ok k _ _ x d N s _ w A hr hT hd (by omega) h5
  by_cases h6 : kindOf k = 6
  · exact plays_6 k p c l _ x d n s _ w ha hl h6
  by_cases h7 : kindOf k = 7
  · cases hp : parseBad (bsOf s) with
    | none => exact plays_7_ok k _ _ x d n s _ w A hr hT hp h7
    | some ij =>
      obtain ⟨i, j⟩ := ij
      exact plays_7_bad k _ _ x d n s i j _ w A hr hT hp (parseBad_num hp) h7
  exact plays_8 k _ _ r cr K x d n s w hL hK hKe ⟨h0, h1, h2, h3, h4, h5, h6, h7⟩
end Go.Proofs.YthhighljfjeooaaDoor

namespace Go.Proofs.YthhighljfjeooaaDoor
open Go.ChangeShapes Go.WideShapes Go.ChangeAt Go.RowKit NatM

theorem cellsI1 : Tryd.prog.cellsOf 3 = 1 := by kernel_rfl
theorem cellsS1 : Tryd.prog.cellsOf 9 = 1 := by kernel_rfl
theorem cellsN1 : Tryd.prog.cellsOf 25 = 1 := by kernel_rfl
theorem cellsNs1 : Tryd.prog.cellsOf 28 = 1 := by kernel_rfl
theorem cellsU64 : Tryd.prog.cellsOf 26 = 1 := by kernel_rfl
theorem cellsOp8 : Tryd.prog.cellsOf 30 = 8 := by kernel_rfl
theorem eight {α : Type} : ∀ {l : List α}, l.length = 8 → ∃ a b c d e f g h, l = [a, b, c, d, e, f, g, h]
  | [a, b, c, d, e, f, g, h], _ => ⟨a, b, c, d, e, f, g, h, rfl⟩
theorem NatsV.nothing (w : World) : NatsV w.heap.size w none 0 [] := ⟨Nat.le_refl _, Nat.zero_le _, fun h => absurd rfl h, fun x hx => by cases hx⟩

section
variable {H : Type} {enc : TypeId × Value → H} {W : World}
theorem op_nat {n : Nat} {c : Value} {y : DataW H × List MemPlace} (h : DataW.trod enc Tryd.prog W 0 (fun _ => true) true n 25 [c] = some y) (hlt : ∀ x ∈ y.2, x.block < W.heap.size) :
    ∃ (a : Option Addr) (cap : Nat) (l : List Nat), c = .slice a l.length cap ∧ NatV W.heap.size W a cap l := by
  have hs : ∃ a len cap, c = .slice a len cap := by
    rcases Go.Deep.open_slice Tryd.underlying25 h with ⟨hcs, _⟩ | ⟨a, len, cap, _, _, _, _, hcs, _⟩
    · exact ⟨none, 0, 0, by simpa using hcs⟩
    · exact ⟨some a, len, cap, by simpa using hcs⟩
  refine open_nat (enc := enc) (d := y.1) (p := y.2) hs ⟨n, ?_⟩ hlt
  obtain ⟨a, len, cap, rfl⟩ := hs
  simpa [Value.cells] using h
theorem op_nats {n : Nat} {c : Value} {y : DataW H × List MemPlace} (h : DataW.trod enc Tryd.prog W 0 (fun _ => true) true n 28 [c] = some y) (hlt : ∀ x ∈ y.2, x.block < W.heap.size) :
    ∃ (a : Option Addr) (cap : Nat) (K : List Nt), c = .slice a K.length cap ∧ NatsV W.heap.size W a cap K := by
  rcases Go.Deep.open_slice1 Tryd.underlying28 cellsN1 h with ⟨hcs, _⟩ | ⟨a, len, cap, m, n', V, D, Pl, hcs, _, hl, hm, hmm, hx, hi⟩
  · exact ⟨none, 0, [], by simpa using hcs, NatsV.nothing W⟩
  · simp only [if_true] at hmm
    subst hmm
    subst hx
    have key : ∀ i, i < m → ∃ x : Nt, V i = x.val ∧ NatV W.heap.size W x.1 x.2.1 x.2.2 := by
      intro i hic
      obtain ⟨_, ht⟩ := hi i hic
      obtain ⟨a', cap', l', hv, hn⟩ := op_nat ht (fun x hx => hlt x (List.mem_append_right _ (List.mem_flatMap.2 ⟨i, List.mem_range.2 hic, hx⟩)))
      exact ⟨(a', cap', l'), hv, hn⟩
    obtain ⟨f, hf⟩ := @Go.Deep.choose_lt Nt ⟨(none, 0, [])⟩ _ _ key
    have hlen : ((List.range len).map f).length = len := by simp
    refine ⟨some a, m, (List.range len).map f, by rw [hlen]; simpa using hcs, by rw [hlen]; exact hl, hm, fun hn => ?_, fun x hx => ?_⟩
    · obtain ⟨b, off, spot⟩ := a
      have h0 : 0 < m := by
        have := List.length_pos_iff.2 hn
        rw [hlen] at this
        omega
      have hspot : spot = none := by simpa [Addr.add] using World.cell?_spot (hi 0 h0).1
      subst hspot
      refine ⟨b, off, rfl, hlt (.cell b off) (List.mem_append_left _ (MemPlace.mem_row.2 ⟨0, h0, by simp⟩)), fun j x hx => ?_⟩
      have hj := (List.getElem?_eq_some_iff.1 hx).1
      rw [hlen] at hj
      have e : x = f j := by
        rw [List.getElem?_map, List.getElem?_range hj] at hx
        exact (Option.some.inj hx).symm
      have hc := (hi j (by omega)).1
      rw [add_plain] at hc
      rw [e, ← (hf j (by omega)).1]
      exact hc
    · obtain ⟨j, hj, rfl⟩ := List.mem_map.1 hx
      exact (hf j (by have := List.mem_range.1 hj; omega)).2
theorem op_int {n : Nat} {c : Value} {y : DataW H × List MemPlace} (h : DataW.trod enc Tryd.prog W 0 (fun _ => true) true n 3 [c] = some y) : ∃ x : Int, c = .int .i64 x := by
  obtain ⟨x, hx, _, hw⟩ := DataW.trod_int Tryd.underlying3 h
  exact ⟨x, by simpa using hx⟩
theorem op_cells {fuel : Nat} {cs : List Value} {y : DataW H × List MemPlace} (h : DataW.trod enc Tryd.prog W 0 (fun _ => true) true fuel 30 cs = some y) (hlt : ∀ x ∈ y.2, x.block < W.heap.size) :
    ∃ o : Od, cs = o.row ∧ OkOp W o := by
  obtain ⟨ys, n, _, hy, hlen, hyl, hf⟩ := DataW.trod_struct Tryd.underlying30 h
  rw [cellsOp8] at hlen
  obtain ⟨c0, c1, c2, c3, c4, c5, c6, c7, rfl⟩ := eight hlen
  obtain ⟨y0, y1, y2, y3, y4, y5, y6, y7, rfl⟩ := eight (show ys.length = 8 from hyl)
  have k0 : DataW.trod enc Tryd.prog W 0 (fun _ => true) true n 3 (([c0, c1, c2, c3, c4, c5, c6, c7].drop 0).take (Tryd.prog.cellsOf 3)) = some y0 := hf 0 _ rfl
  have k1 : DataW.trod enc Tryd.prog W 0 (fun _ => true) true n 25 (([c0, c1, c2, c3, c4, c5, c6, c7].drop 1).take (Tryd.prog.cellsOf 25)) = some y1 := hf 1 _ rfl
  have k2 : DataW.trod enc Tryd.prog W 0 (fun _ => true) true n 25 (([c0, c1, c2, c3, c4, c5, c6, c7].drop 2).take (Tryd.prog.cellsOf 25)) = some y2 := hf 2 _ rfl
  have k3 : DataW.trod enc Tryd.prog W 0 (fun _ => true) true n 26 (([c0, c1, c2, c3, c4, c5, c6, c7].drop 3).take (Tryd.prog.cellsOf 26)) = some y3 := hf 3 _ rfl
  have k4 : DataW.trod enc Tryd.prog W 0 (fun _ => true) true n 27 (([c0, c1, c2, c3, c4, c5, c6, c7].drop 4).take (Tryd.prog.cellsOf 27)) = some y4 := hf 4 _ rfl
  have k5 : DataW.trod enc Tryd.prog W 0 (fun _ => true) true n 3 (([c0, c1, c2, c3, c4, c5, c6, c7].drop 5).take (Tryd.prog.cellsOf 3)) = some y5 := hf 5 _ rfl
  have k6 : DataW.trod enc Tryd.prog W 0 (fun _ => true) true n 9 (([c0, c1, c2, c3, c4, c5, c6, c7].drop 6).take (Tryd.prog.cellsOf 9)) = some y6 := hf 6 _ rfl
  have k7 : DataW.trod enc Tryd.prog W 0 (fun _ => true) true n 28 (([c0, c1, c2, c3, c4, c5, c6, c7].drop 7).take (Tryd.prog.cellsOf 28)) = some y7 := hf 7 _ rfl
  rw [cellsI1] at k0 k5
  rw [cellsN1] at k1 k2
  rw [cellsU64] at k3
  rw [cells32_1] at k4
  rw [cellsS1] at k6
  rw [cellsNs1] at k7
  have hin : ∀ z : DataW H × List MemPlace, z ∈ [y0, y1, y2, y3, y4, y5, y6, y7] → ∀ x ∈ z.2, x.block < W.heap.size := fun z hz x hx => hlt x (by rw [hy]; exact List.mem_flatMap.2 ⟨z, hz, hx⟩)
  obtain ⟨x0, rfl⟩ := op_int (c := c0) k0
  obtain ⟨p1, e1, l1, rfl, h1⟩ := op_nat (c := c1) k1 (hin y1 (by simp))
  obtain ⟨p2, e2, l2, rfl, h2⟩ := op_nat (c := c2) k2 (hin y2 (by simp))
  obtain ⟨x3, hx3, _, hw3⟩ := DataW.trod_int Tryd.underlying26 k3
  obtain rfl : c3 = _ := by simpa using hx3
  obtain ⟨x4, hx4, _, hw4⟩ := DataW.trod_int Tryd.underlying27 k4
  obtain rfl : c4 = _ := by simpa using hx4
  obtain ⟨x5, rfl⟩ := op_int (c := c5) k5
  obtain ⟨s, hs, _⟩ := DataW.trod_string Tryd.underlying9 k6
  obtain rfl : c6 = .string s := by simpa using hs
  obtain ⟨p7, e7, K, rfl, h7⟩ := op_nats (c := c7) k7 (hin y7 (by simp))
  have b4 := bounds_u32 hw4
  have b3 := bounds_u64 hw3
  obtain ⟨N3, rfl⟩ : ∃ N : Nat, x3 = (N : Int) := ⟨x3.toNat, by omega⟩
  obtain ⟨N4, rfl⟩ : ∃ N : Nat, x4 = (N : Int) := ⟨x4.toNat, by omega⟩
  exact ⟨⟨x0, p1, p2, p7, e1, e2, e7, l1, l2, N3, N4, x5, s, K⟩, rfl, h1, h2, h7, by simp only []; omega, by simp only []; omega⟩
end
/-- The list of ops in memory. -/
def Ops (w : World) (a : Option Addr) (n cap : Nat) (nd : Nat → Od) : Prop :=
  n ≤ cap ∧ ∀ j, j < n → ∃ b off, a = some ⟨b, off, none⟩ ∧ b < w.heap.size ∧ (∀ i z, (nd j).row[i]? = some z → w.cell? ⟨b, off + j * 8 + i, none⟩ = some z) ∧ OkOp w (nd j)
/-- The argument, a slice of ops. -/
theorem open_ops {H : Type} {enc : TypeId × Value → H} {W : World} {v : Value} {d : DataW H} {p : List MemPlace} (hok : ∃ a len cap, v = .slice a len cap)
    (h : DataW.Trod enc Tryd.prog W 0 (fun _ => true) true 22 v d p) (hlt : ∀ x ∈ p, x.block < W.heap.size) :
    ∃ (a : Option Addr) (n cap : Nat) (nd : Nat → Od), v = .slice a n cap ∧ cap ≤ maxLen ∧ Ops W a n cap nd := by
  obtain ⟨a0, len, cap, rfl⟩ := hok
  obtain ⟨fuel, hf⟩ := h
  rcases Go.Deep.open_slice Tryd.underlying22 hf with ⟨hcs, hx⟩ | ⟨a, len', cap', m, n, D, Pl, hcs, _, hl, hm, hmm, hx, hi⟩
  · simp [Value.cells] at hcs
    obtain ⟨rfl, rfl, rfl⟩ := hcs
    exact ⟨none, 0, 0, fun _ => ⟨0, none, none, none, 0, 0, 0, [], [], 0, 0, 0, .empty, []⟩, rfl, Nat.zero_le _, Nat.le_refl _, fun j hj => absurd hj (Nat.not_lt_zero j)⟩
  · simp [Value.cells] at hcs
    obtain ⟨rfl, rfl, rfl⟩ := hcs
    simp only [if_true] at hmm
    subst hmm
    rw [cellsOp8] at hx hi
    obtain ⟨rfl, rfl⟩ := Prod.mk.inj hx
    have key : ∀ i, i < m → ∃ x : Od, (∀ j z, x.row[j]? = some z → W.cell? ((a.add (i * 8)).add j) = some z) ∧ OkOp W x := by
      intro i hic
      obtain ⟨cs', hc, ht⟩ := hi i hic
      obtain ⟨x, rfl, h1⟩ := op_cells ht (fun x hx => hlt x (List.mem_append_right _ (List.mem_flatMap.2 ⟨i, List.mem_range.2 hic, hx⟩)))
      obtain ⟨_, hcl, hat⟩ := World.cells?_some hc
      exact ⟨x, fun j z hz => (hat j (by have := (List.getElem?_eq_some_iff.1 hz).1; simpa [Od.row] using this)).trans hz, h1⟩
    obtain ⟨nd, hnd⟩ := @Go.Deep.choose_lt Od ⟨⟨0, none, none, none, 0, 0, 0, [], [], 0, 0, 0, .empty, []⟩⟩ _ _ key
    refine ⟨some a, _, m, nd, rfl, hm, hl, fun j hj => ?_⟩
    obtain ⟨hc, h1⟩ := hnd j (by omega)
    obtain ⟨b, off, spot⟩ := a
    have hspot : spot = none := by simpa [Addr.add] using World.cell?_spot ((hnd 0 (by omega)).1 0 _ rfl)
    subst hspot
    simp only [add_plain] at hc
    exact ⟨b, off, rfl, hlt (.cell b off) (List.mem_append_left _ (MemPlace.mem_row.2 ⟨0, by omega, by simp⟩)), hc, h1⟩
end Go.Proofs.YthhighljfjeooaaDoor
