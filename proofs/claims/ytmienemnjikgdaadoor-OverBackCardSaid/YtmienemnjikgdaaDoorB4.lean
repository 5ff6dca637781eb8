/- Package overlap by its contracts: open.
Package overlap by its contracts: slices.Contains of bools; Has.
edenraw.Lent, Kept and Copy, by contracts.
edenraw.Apart: lists that each lie in a block of their own are found apart; nothing below changes.
edenraw.Apart, second part: its walk.
What the statements on new memory share: lists that were lent, lists that were made, one behind the other; edenraw.Apart over them.
Package overlap by its contracts: what a search holds in memory, and what it does to it. -/
import Derived.Test.YtmienemnjikgdaaDoorB3
import Derived.Laws.CopyOwn
import Derived.Laws.AppendOwnNone
import Derived.Test.YtmienemnjikgdaaDoorProg
import Derived.WalkKit
import Derived.WalkSmall
import Derived.Deep.LoopGhost
import Derived.Lib.Hide
import Derived.Outline
import Derived.Laws.AppendOwn
import Derived.Laws.MakeOwn
import Derived.Laws.Rows
import Derived.Maps.AppendAt
import Derived.ArgAppend
import Derived.Deep.DeepAppendRoom
import Derived.OwnWalk
section
namespace Go.Proofs.YtmienemnjikgdaaDoor
open Go.RowKit Go.Shelf Go.Extern.Stop Go.Stop Go.Extern WordM RuleM
attribute [local go_sem] Oper.semAt_some

/-- the table of a word that was opened -/
def opF (K N : Nat) (t l : List Int) (j u : Nat) : Bool := canW K N t (l.drop j) u
/-- open's answer -/
def OpenPost (w : World) (K N m : Nat) (t l : List Int) (e : Ending) (w' : World) : Prop :=
  ∃ g, e = .returned (.slice (some ⟨g, 0, none⟩) (m + 1) (m + 1)) ∧ OpenV w.heap.size w' g m N (opF K N t l) ∧ Below w.heap.size w w'
/-- between two steps: the rule, the table and its box, old memory -/
def OpenS (w : World) (K R : Int) (p : Option Addr) (n c m m1 Bw B6 g N : Nat) (f : Nat → Nat → Bool) (i : Nat) (W : World) : Prop :=
  Rul3 W w.heap.size (.int .i64 K) (.int .i64 R) (.slice p n c) ∧ Boxed W Bw 88 (.slice (some ⟨g, 0, none⟩) m1 m1) ∧ (∃ gs, OpenC Bw B6 W g m N gs f i) ∧ Below w.heap.size w W
theorem OpenS.next {w : World} {K R : Int} {p : Option Addr} {n c m m1 Bw B6 g N : Nat} {f : Nat → Nat → Bool} {i : Nat} {W W' : World} (h : OpenS w K R p n c m m1 Bw B6 g N f i W) (hg : g < W.heap.size) (hb : Below W.heap.size W W') : OpenS w K R p n c m m1 Bw B6 g N f i W' := by
  obtain ⟨h1, h2, ⟨gs, h3⟩, h4⟩ := h
  exact ⟨h1.next hb, (hb.block Bw h2.lt).trans h2, ⟨gs, h3.next hg hb⟩, h4.trans (hb.mono h4.size)⟩
theorem OpenC.last {A : Nat} {w1 wr : World} {g m N : Nat} {gs : Nat → Nat} {f : Nat → Nat → Bool} (h : OpenC A A w1 g m N gs f (m + 1)) (hg : g < w1.heap.size) (hA : A < w1.heap.size) (hb : Below w1.heap.size w1 wr) (b : Nat) (h1 : w1.heap.size ≤ b) (hblk : BlockB wr b (repB N)) :
    OpenC A A (wr.setCell ⟨g, m, Option.none⟩ (.slice (some ⟨b, 0, Option.none⟩) N N)) g m N (fun j => if j = m then b else gs j) (fun j v => if j = m then true else f j v) m :=
  (h.next hg hb).put (Nat.le_refl _) b (fun _ => true) ⟨by omega, by omega, by omega, heap_ltN hblk.eq⟩ (fun j h2 h3 => by omega) fun u hu => ⟨hblk.cell (repB_get hu), frozen_block hblk.eq⟩
/-- between two rounds of the words symbols -/
def OpenI (w : World) (K R : Int) (p q : Option Addr) (n c m d m1 Bw B6 g N : Nat) (f : Nat → Nat → Bool) (k : Nat) (W : World) : Prop :=
  OpenS w K R p n c m m1 Bw B6 g N f (m - k) W ∧ Boxed W B6 22 (.slice q m d)
/-- the new row is laid -/
theorem OpenI.fresh {w W wa : World} {K R : Int} {p q : Option Addr} {n c m d m1 Bw B6 g N k i : Nat} {f : Nat → Nat → Bool} (h : OpenI w K R p q n c m d m1 Bw B6 g N f k W) (hi : m - k = i + 1) (hg : w.heap.size + 1 = g ∧ g + 1 = Bw ∧ g < B6) (hb : Below W.heap.size W wa) :
    OpenS w K R p n c m m1 Bw B6 g N (fun j v => if j = i then false else f j v) i ((wa.alloc (.cells (madeCells #[.bool false] N) 4)).setCell ⟨g, i, none⟩ (.slice (some ⟨wa.heap.size, 0, none⟩) N N)) ∧ Boxed ((wa.alloc (.cells (madeCells #[.bool false] N) 4)).setCell ⟨g, i, none⟩ (.slice (some ⟨wa.heap.size, 0, none⟩) N N)) B6 22 (.slice q m d) := by
  obtain ⟨⟨h1, h2, ⟨gs, h3⟩, h4⟩, h5⟩ := h
  rw [hi] at h3
  have hB := h5.lt
  have hBw := h2.lt
  have hbs := hb.size
  have hgW : g < W.heap.size := by omega
  obtain ⟨wA, hwA⟩ : ∃ x, x = wa.alloc (.cells (madeCells #[.bool false] N) 4) := ⟨_, rfl⟩
  have hbA : Below W.heap.size W wA := by rw [hwA]; exact hb.alloc hbs _
  have far : ∀ b o, b ≠ g → wA.heap[b]? = some o → (wA.setCell ⟨g, i, none⟩ (.slice (some ⟨wa.heap.size, 0, none⟩) N N)).heap[b]? = some o := fun b o hne ho => (Below.heap_setCell wA ⟨g, i, none⟩ _ b hne).trans ho
  have hfr := (h3.next hgW hb).fresh (by omega) (by omega) (by omega) (by omega)
  rw [← hwA] at hfr ⊢
  exact ⟨⟨⟨far _ _ (by omega) (h1.next hbA).heap⟩, far _ _ (by omega) ((hbA.block Bw hBw).trans h2), ⟨_, hfr⟩, (h4.trans (hbA.mono h4.size)).setCell (p := ⟨g, i, none⟩) (by show w.heap.size ≤ g; omega) _⟩, far _ _ (by omega) ((hbA.block B6 hB).trans h5)⟩
theorem OpenS.last {w w1 wr : World} {K R : Int} {p : Option Addr} {n c m m1 Bw g N Kn : Nat} {t l : List Int} {gs : Nat → Nat} (h1 : Rul3 w1 w.heap.size (.int .i64 K) (.int .i64 R) (.slice p n c)) (h2 : Boxed w1 Bw 88 (.slice (some ⟨g, 0, none⟩) m1 m1)) (hC : OpenC Bw Bw w1 g m N gs (opF Kn N t l) (m + 1)) (hB : Below w.heap.size w w1)
    (e : w1.heap.size = Bw + 1 ∧ g + 1 = Bw ∧ w.heap.size + 1 = g) (hml : m = l.length) (hb : Below w1.heap.size w1 wr) (b : Nat) (hbb : w1.heap.size ≤ b) (hblk : BlockB wr b (repB N)) :
    OpenS w K R p n c m m1 Bw Bw g N (opF Kn N t l) m (wr.setCell ⟨g, m, none⟩ (.slice (some ⟨b, 0, none⟩) N N)) := by
  have far : ∀ b' o, b' ≠ g → wr.heap[b']? = some o → (wr.setCell ⟨g, m, none⟩ (.slice (some ⟨b, 0, none⟩) N N)).heap[b']? = some o := fun b' o hne ho => (Below.heap_setCell wr ⟨g, m, none⟩ _ b' hne).trans ho
  refine ⟨⟨far _ _ (by omega) (h1.next hb).heap⟩, far _ _ (by omega) ((hb.block Bw h2.lt).trans h2), ⟨_, (hC.last (by omega) (by omega) hb b hbb hblk).congr fun j v h3 h4 _ => ?_⟩, (hB.trans (hb.mono hB.size)).setCell (p := ⟨g, m, none⟩) (by show w.heap.size ≤ g; omega) _⟩
  obtain rfl : j = m := by omega
  rw [if_pos rfl]
  unfold opF
  rw [List.drop_of_length_le (Nat.le_of_eq hml.symm)]
  rfl
/-- while the row i is filled: the table by F; what was no cells at the round's start lies as it lay -/
def RowS (w W : World) (K R : Int) (p q : Option Addr) (n c m d m1 Bw B6 g N : Nat) (F : Nat → Nat → Bool) (i : Nat) (wx : World) : Prop :=
  OpenS w K R p n c m m1 Bw B6 g N F i wx ∧ Boxed wx B6 22 (.slice q m d) ∧ KeepsOthers W wx
theorem RowS.next {w W wx wy : World} {K R : Int} {p q : Option Addr} {n c m d m1 Bw B6 g N i : Nat} {F : Nat → Nat → Bool} (h : RowS w W K R p q n c m d m1 Bw B6 g N F i wx) (hg : g < wx.heap.size) (hb : Below wx.heap.size wx wy) : RowS w W K R p q n c m d m1 Bw B6 g N F i wy :=
  ⟨h.1.next hg hb, (hb.block B6 h.2.1.lt).trans h.2.1, h.2.2.trans (keeps_below hb)⟩
theorem RowS.congr {w W wx : World} {K R : Int} {p q : Option Addr} {n c m d m1 Bw B6 g N i : Nat} {F F' : Nat → Nat → Bool} (h : RowS w W K R p q n c m d m1 Bw B6 g N F i wx) (he : ∀ j u, i ≤ j → j ≤ m → u < N → F j u = F' j u) : RowS w W K R p q n c m d m1 Bw B6 g N F' i wx := by
  obtain ⟨⟨h1, h2, ⟨gs, h3⟩, h4⟩, h5, h6⟩ := h
  exact ⟨⟨h1, h2, ⟨gs, h3.congr he⟩, h4⟩, h5, h6⟩
theorem RowS.mark {w W wx : World} {K R : Int} {p q : Option Addr} {n c m d m1 Bw B6 g N i u : Nat} {F F' : Nat → Nat → Bool} {gs : Nat → Nat} (h1 : Rul3 wx w.heap.size (.int .i64 K) (.int .i64 R) (.slice p n c)) (h2 : Boxed wx Bw 88 (.slice (some ⟨g, 0, none⟩) m1 m1)) (h3 : OpenC Bw B6 wx g m N gs F i) (h4 : Below w.heap.size w wx) (h5 : Boxed wx B6 22 (.slice q m d)) (h6 : KeepsOthers W wx)
    (hgE : w.heap.size + 1 = g ∧ g + 1 = Bw ∧ g < B6) (hi : i ≤ m) (hu : u < N) (he : ∀ j v, i ≤ j → j ≤ m → v < N → (if j = i ∧ v = u then true else F j v) = F' j v) :
    RowS w W K R p q n c m d m1 Bw B6 g N F' i (wx.setCell ⟨gs i, u, none⟩ (.bool true)) := by
  have hlo := h3.low i (Nat.le_refl _) hi
  have far : ∀ b o, b ≠ gs i → wx.heap[b]? = some o → (wx.setCell ⟨gs i, u, none⟩ (.bool true)).heap[b]? = some o := fun b o hne ho => (Below.heap_setCell wx ⟨gs i, u, none⟩ _ b hne).trans ho
  exact ⟨⟨⟨far _ _ (by omega) h1.heap⟩, far _ _ (by omega) h2, ⟨gs, (h3.store hi u hu).congr he⟩, h4.setCell (p := ⟨gs i, u, none⟩) (by show w.heap.size ≤ gs i; omega) _⟩, far _ _ (Ne.symm hlo.2.1) h5, h6.trans (KeepsOthers.setCell _ _ _)⟩
/-- the row i as far as it was filled: all of the nodes before u, of u by the first s symbols -/
def rowF (K N : Nat) (t l : List Int) (x : Int) (i u s j v : Nat) : Bool := if j = i then (if v < u then opF K N t l i v else if v = u then canTo K N t x (l.drop (i + 1)) u s else false) else opF K N t l j v
theorem rowF_yes {K N : Nat} {t l : List Int} {x : Int} {i u s : Nat} (hx : ent t (u * K + s) = x) (hc : opF K N t l (i + 1) ((u * K + s) % N) = true) (j v : Nat) : (if j = i ∧ v = u then true else rowF K N t l x i u s j v) = rowF K N t l x i u (s + 1) j v := by
  unfold rowF
  by_cases h1 : j = i
  · subst h1
    simp only [true_and, if_true]
    by_cases h2 : v = u
    · subst h2
      unfold opF at hc
      rw [if_pos rfl, if_neg (Nat.lt_irrefl _), if_pos rfl, canTo_succ, hx, hc]
      simp
    · rw [if_neg h2]
      by_cases h3 : v < u
      · rw [if_pos h3, if_pos h3]
      · rw [if_neg h3, if_neg h3, if_neg h2, if_neg h2]
  · rw [if_neg (fun e => h1 e.1), if_neg h1, if_neg h1]
theorem rowF_no {K N : Nat} {t l : List Int} {x : Int} {i u s : Nat} (hc : (decide (ent t (u * K + s) = x) && opF K N t l (i + 1) ((u * K + s) % N)) = false) (j v : Nat) : rowF K N t l x i u s j v = rowF K N t l x i u (s + 1) j v := by
  unfold rowF
  by_cases h1 : j = i
  · subst h1
    rw [if_pos rfl, if_pos rfl]
    unfold opF at hc
    rw [canTo_succ, hc, Bool.or_false]
  · rw [if_neg h1, if_neg h1]
theorem rowF_next {K N : Nat} {t l : List Int} {x : Int} {i u : Nat} (hx : l[i]? = some x) (j v : Nat) : rowF K N t l x i u K j v = rowF K N t l x i (u + 1) 0 j v := by
  unfold rowF
  by_cases h1 : j = i
  · subst h1
    rw [if_pos rfl, if_pos rfl]
    rcases Nat.lt_trichotomy v u with h2 | h2 | h2
    · rw [if_pos h2, if_pos (by omega)]
    · subst h2
      rw [if_neg (Nat.lt_irrefl _), if_pos rfl, if_pos (Nat.lt_succ_self _), canTo_all]
      unfold opF
      have hl : j < l.length := (List.getElem?_eq_some_iff.1 hx).1
      have he : l[j] = x := (List.getElem?_eq_some_iff.1 hx).2
      rw [List.drop_eq_getElem_cons hl, he]
    · rw [if_neg (by omega), if_neg (by omega), if_neg (by omega)]
      by_cases h3 : v = u + 1
      · rw [if_pos h3, canTo_zero]
      · rw [if_neg h3]
  · rw [if_neg h1, if_neg h1]
theorem rowF_start {K N : Nat} {t l : List Int} {x : Int} {i : Nat} (j v : Nat) : (if j = i then false else opF K N t l j v) = rowF K N t l x i 0 0 j v := by
  unfold rowF
  by_cases h1 : j = i
  · rw [if_pos h1, if_pos h1, if_neg (Nat.not_lt_zero _), canTo_zero, ite_self]
  · rw [if_neg h1, if_neg h1]
theorem rowF_end {K N : Nat} {t l : List Int} {x : Int} {i j v : Nat} (hv : v < N) : rowF K N t l x i N 0 j v = opF K N t l j v := by
  unfold rowF
  by_cases h1 : j = i
  · subst h1
    rw [if_pos rfl, if_pos hv]
  · rw [if_neg h1]
def OutR (w W : World) (K R : Int) (p q : Option Addr) (n c m d m1 Bw B6 g N Kn : Nat) (t l : List Int) (x : Int) (i : Nat) (v : Value) (wr : World) : Prop :=
  ∃ u : Nat, u ≤ N ∧ v = .int .i64 (u : Int) ∧ RowS w W K R p q n c m d m1 Bw B6 g N (rowF Kn N t l x i u 0) i wr
def InR (w W : World) (K R : Int) (p q : Option Addr) (n c m d m1 Bw B6 g N Kn : Nat) (t l : List Int) (x : Int) (i u : Nat) (v : Value) (wr : World) : Prop :=
  ∃ s : Nat, s ≤ Kn ∧ v = .int .i64 (s : Int) ∧ RowS w W K R p q n c m d m1 Bw B6 g N (rowF Kn N t l x i u s) i wr
set_option maxRecDepth 100000 in
set_option maxHeartbeats 4000000 in
theorem openO (K R N : Nat) (p q : Option Addr) (n c m d : Nat) (t l : List Int) (w : World) (hn : n = t.length) (hm : m = l.length) (h : IntV w.heap.size w p c t) (h' : IntV w.heap.size w q d l) (ho : OkS K R t) (hN : K ^ (2 * R) = N) (hl : l.length ≤ 4096) :
    Calls Tryd.prog 46 #[.agg #[.int .i64 (K : Int), .int .i64 (R : Int), .slice p n c], .slice q m d] w (OpenPost w K N m t l) := by
  have zm : m ≤ 4096 := by omega
  have zm1 : m < m + 1 := Nat.lt_succ_self m
  obtain ⟨m1, hm1⟩ : ∃ x, m + 1 = x := ⟨_, rfl⟩
  have hmi : (m : Int) + 1 = (m1 : Int) := by omega
  have hmk := makeBB m1 (by omega)
  have zN : N ≤ 256 := by rw [← hN]; exact ho.n256
  have zN1 : 1 ≤ N := by rw [← hN]; exact ho.n1
  have zK4 : K ≤ 4 := ho.ok.k4
  have hnN : n = N * K := by rw [hn, ← hN]; exact nod_len ho.ok
  have hsm : n ≤ 100000 := by have := ho.small; omega
  have cN := fun W => nodesO K (R : Int) p n c N W ho.ok.k1 ho.ok.k4 hnN hsm
  have cF := fun W hW u s hu hs => followO K u s (R : Int) p n c N t W ho.ok.k1 ho.ok.k4 hn hnN hsm hW hu hs
  have HC := Lib.hid (And.intro cN cF)
  have H := Lib.hid (And.intro h (And.intro h' (And.intro hm1 (And.intro hm hnN))))
  have cR := fun b0 W hb hc => repeatB b0 N W hb hc zN1 (by omega)
  have HR := Lib.hid cR
  clear hn hm h h' ho hN hl hm1 hnN hsm cN cF cR
  refine (callsIn_wide (n := 8)).1 ?_
  refine callsIn_of_wp_marks Tryd.func46 rfl trivial ?_ rfl
  simp only [Tryd.ntmps46, List.size_toArray, List.length_cons, List.length_nil, Nat.reduceAdd, Nat.reduceSub, Array.replicate_succ, Array.replicate_zero, List.push_toArray, List.append_toArray, List.nil_append, List.cons_append]
  have ST := Lib.hid (box_ruleO w (.int .i64 (K : Int)) (.int .i64 (R : Int)) (.slice p n c))
  gi_upto_region 1 with fail
  obtain ⟨w0, hw0⟩ : ∃ w0, w0 = w.alloc (.cells #[.int .i64 (K : Int), .int .i64 (R : Int), .slice p n c] 24) := ⟨_, rfl⟩
  rw [← hw0]
  obtain ⟨hb0, hE0⟩ := ST.out w0 hw0
  have hs0 : w0.heap.size = w.heap.size + 1 := by rw [hw0]; simp
  have HE := Lib.hid (And.intro hE0 (And.intro hb0 hs0))
  clear hw0 hE0 hb0 hs0
  have hmk0 := hmk w0
  obtain ⟨wm, hwm⟩ : ∃ x, x = w0.alloc (.cells (madeCells #[.slice none 0 0] m1) 87) := ⟨_, rfl⟩
  have hom : OpenC w0.heap.size w0.heap.size wm w0.heap.size m N (fun _ => 0) (opF K N t l) (m + 1) := by rw [hwm, ← H.out.2.2.1]; exact OpenC.made _ _ w0 m N _
  have hbm : Below w0.heap.size w0 wm := by rw [hwm]; exact (Below.refl _ _).alloc (Nat.le_refl _) _
  have hsm : wm.heap.size = w0.heap.size + 1 := by rw [hwm]; simp
  rw [← hwm] at hmk0
  obtain ⟨g, hg⟩ : ∃ g, w0.heap.size = g := ⟨_, rfl⟩
  rw [hg] at hmk0 hom
  have HM := Lib.hid (And.intro (HE.out.1.next hbm) (And.intro hom (And.intro (HE.out.2.1.trans (hbm.mono HE.out.2.1.size)) (And.intro hsm hg))))
  clear hwm hom hbm hsm hmk hg
  gi_upto_region 2 with fail
  obtain ⟨w1, hw1⟩ : ∃ x, x = wm.alloc (.cells #[.slice (some ⟨g, 0, none⟩) m1 m1] 88) := ⟨_, rfl⟩
  have hb1 : Below wm.heap.size wm w1 := by rw [hw1]; exact (Below.refl _ _).alloc (Nat.le_refl _) _
  have hBw : Boxed w1 wm.heap.size 88 (.slice (some ⟨g, 0, none⟩) m1 m1) := by rw [hw1]; exact Boxed.new _ _ _
  have hs1 : w1.heap.size = wm.heap.size + 1 := by rw [hw1]; simp
  rw [← hw1]
  obtain ⟨Bw, hB⟩ : ∃ x, wm.heap.size = x := ⟨_, rfl⟩
  rw [hB] at hBw hs1 ⊢
  have hgm : g < wm.heap.size := by have := HM.out.2.2.2.1; have := HM.out.2.2.2.2; omega
  have hC1 : OpenC g g w1 g m N (fun _ => 0) (opF K N t l) (m + 1) := HM.out.2.1.next hgm hb1
  have hC1' : OpenC Bw Bw w1 g m N (fun _ => 0) (opF K N t l) (m + 1) := ⟨hC1.nils, hC1.head, hC1.row, hC1.free, fun j h1 h2 => by omega, hC1.ne⟩
  have hgB : g + 1 = Bw ∧ w.heap.size + 1 = g := by have h1 := HM.out.2.2.2.1; have h2 := HM.out.2.2.2.2; have h3 := HE.out.2.2; omega
  have H1 := Lib.hid (And.intro (HM.out.1.next hb1) (And.intro hBw (And.intro hC1' (And.intro (HM.out.2.2.1.trans (hb1.mono HM.out.2.2.1.size)) (And.intro hs1 hgB)))))
  have hcB := hBw.cell
  have hcm : w1.cell? ⟨g, m, none⟩ = some (.slice none 0 0) := hC1.nils m (Nat.lt_succ_self _) (Nat.le_refl _)
  have hfm : w1.frozen? ⟨g, m, none⟩ = false := hC1.free m (Nat.le_refl _)
  clear hw1 hb1 hBw hs1 hmk0 hgm hC1 hC1' hgB hB
  obtain ⟨_, hc0, hc1, hc2⟩ := H1.out.1.facts
  have hmm : m < m1 := by have := H.out.2.2.1; omega
  have hmmi : (m : Int) < (m1 : Int) := by omega
  have hm0i : (0 : Int) ≤ (m : Int) := by omega
  gi_cut [] from 16 (fun wx => OpenS w (K : Int) (R : Int) p n c m m1 Bw Bw g N (opF K N t l) m wx)
  case first =>
    refine wpIn_wide.2 ?_
    have hxA : ∀ wx : World, Below w1.heap.size w1 wx → (wx.cell? ⟨w.heap.size, 0, none⟩ = some (.int .i64 (K : Int)) ∧ wx.cell? ⟨w.heap.size, 1, none⟩ = some (.int .i64 (R : Int)) ∧ wx.cell? ⟨w.heap.size, 2, none⟩ = some (.slice p n c)) ∧ wx.cell? ⟨Bw, 0, none⟩ = some (.slice (some ⟨g, 0, none⟩) m1 m1) := fun wx hb => ⟨(H1.out.1.next hb).facts.2, (hb.cell (p := ⟨Bw, 0, none⟩) H1.out.2.1.lt).trans H1.out.2.1.cell⟩
    have hxF : ∀ wx : World, Below w1.heap.size w1 wx → wx.cell? ⟨g, m, none⟩ = some (.slice none 0 0) ∧ wx.frozen? ⟨g, m, none⟩ = false := fun wx hb => by
      have hgl : g < w1.heap.size := by have := H1.out.2.2.2.2; omega
      have := H1.out.2.2.1.next hgl hb
      exact ⟨this.nils m (Nat.lt_succ_self _) (Nat.le_refl _), this.free m (Nat.le_refl _)⟩
    have hgE := H1.out.2.2.2.2.2
    have hxP : ∀ wx : World, Below w1.heap.size w1 wx → ∀ v : Value, ((wx.setCell ⟨g, m, none⟩ v).cell? ⟨w.heap.size, 0, none⟩ = some (.int .i64 (K : Int)) ∧ (wx.setCell ⟨g, m, none⟩ v).cell? ⟨w.heap.size, 1, none⟩ = some (.int .i64 (R : Int)) ∧ (wx.setCell ⟨g, m, none⟩ v).cell? ⟨w.heap.size, 2, none⟩ = some (.slice p n c)) ∧ (wx.setCell ⟨g, m, none⟩ v).cell? ⟨Bw, 0, none⟩ = some (.slice (some ⟨g, 0, none⟩) m1 m1) := fun wx hb v => by
      have hx := hxA wx hb
      have far : ∀ b o, b ≠ g → (wx.setCell ⟨g, m, none⟩ v).cell? ⟨b, o, none⟩ = wx.cell? ⟨b, o, none⟩ := fun b o hn => World.cell?_setCell_far wx ⟨g, m, none⟩ ⟨b, o, none⟩ v (fun e => hn e.symm)
      exact ⟨⟨(far _ _ (by omega)).trans hx.1.1, (far _ _ (by omega)).trans hx.1.2.1, (far _ _ (by omega)).trans hx.1.2.2⟩, (far _ _ (by omega)).trans hx.2⟩
    have HGE := Lib.hid hgE
    clear hgE
    have hdr : Below w1.heap.size w1 w1.drew := (Below.refl _ _).drew
    have hlt : Below w1.heap.size w1 (w1.alloc (.cells #[.bool true] 4)).drew := ((Below.refl _ _).alloc (Nat.le_refl _) _).drew
    have hl1 : w1.heap.size < (w1.alloc (.cells #[.bool true] 4)).drew.heap.size := by show w1.heap.size < (w1.alloc _).heap.size; simp
    have hl2 : (w1.alloc (.cells #[.bool true] 4)).drew.cell? ⟨w1.heap.size, 0, none⟩ = some (.bool true) := cell_alloc_row w1 _ _ 0
    clear hc0 hc1 hc2 hcB hcm hfm
    obtain ⟨⟨ha0, ha1, ha2⟩, ha3⟩ := hxA _ (Below.refl _ _)
    go_region_held3 (fun wx => (wx.cell? ⟨w.heap.size, 0, none⟩ = some (.int .i64 (K : Int)) ∧ wx.cell? ⟨w.heap.size, 1, none⟩ = some (.int .i64 (R : Int)) ∧ wx.cell? ⟨w.heap.size, 2, none⟩ = some (.slice p n c)) ∧ wx.cell? ⟨Bw, 0, none⟩ = some (.slice (some ⟨g, 0, none⟩) m1 m1)) (first | exact hxA _ (by assumption) | exact hxA _ (Below.refl _ _) | exact hxA _ hdr | exact hxA _ hlt | exact hxP _ (by assumption) _ | go_keep) (first
      | (go_at_call 30; refine (HC.out.1 _).mono ?_; rintro e1 wa ⟨rfl, hba⟩; have hBa : Below w1.heap.size w1 wa := (by first | exact hba | exact hdr.trans (hba.mono hdr.size) | exact hlt.trans (hba.mono hlt.size)))
      | (go_at_call 70; refine (HR.out _ _ (by first | exact Nat.lt_of_lt_of_le hl1 hba.size | simp) (by first | exact (hba.cell hl1).trans hl2 | simp)).mono ?_; rintro e2 wr ⟨rfl, hblk, hbr⟩; have hBr : Below w1.heap.size w1 wr := (by first | exact hBa.trans (hbr.mono hBa.size) | exact (hBa.alloc hBa.size _).trans (hbr.mono (hBa.alloc hBa.size _).size)); obtain ⟨hcm, hfm⟩ := hxF _ hBr))
    all_goals
      go_wp2_with fail
      go_meet
      have hL := H1.out.1
      exact OpenS.last hL H1.out.2.1 H1.out.2.2.1 H1.out.2.2.2.1 H1.out.2.2.2.2 H.out.2.2.2.1 hBr _ (by have := hBa.size; omega) (by first | exact hblk | (rw [World.size_alloc] at hblk; exact hblk))
  case rest =>
    have HW := Lib.hid hcut
    have hgw : g < wc.heap.size := by
      have h1 := HW.out.2.1.lt
      have h2 := H1.out.2.2.2.2
      omega
    have hwS1 : w1.heap.size ≤ wc.heap.size := by
      have h1 := HW.out.2.1.lt
      have h2 := H1.out.2.2.2.2
      omega
    clear hcut hc0 hc1 hc2 hcB hcm hfm
    gi_wp2_with (refine ⟨trivial, ?_⟩; gi_at_call 71; refine (callsIn_wide.2 (backwardI _ _ _ _)).mono ?_; rintro e w' ⟨rfl, rfl⟩)
    obtain ⟨w3, hw3⟩ : ∃ x, x = wc.alloc (.cells #[.slice q m d] 22) := ⟨_, rfl⟩
    have hb3 : Below wc.heap.size wc w3 := by rw [hw3]; exact (Below.refl _ _).alloc (Nat.le_refl _) _
    have hB6 : Boxed w3 wc.heap.size 22 (.slice q m d) := by rw [hw3]; exact Boxed.new _ _ _
    rw [← hw3]
    have hI0 : OpenI w (K : Int) (R : Int) p q n c m d m1 Bw wc.heap.size g N (opF K N t l) 0 w3 := by
      obtain ⟨h1, h2, ⟨gs, h3⟩, h4⟩ := HW.out
      exact ⟨⟨h1.next hb3, (hb3.block Bw h2.lt).trans h2, ⟨gs, (h3.other (Nat.le_refl _)).next hgw hb3⟩, h4.trans (hb3.mono h4.size)⟩, hB6⟩
    have hs3 : w.heap.size ≤ w3.heap.size := hI0.1.2.2.2.size
    have hB6l : wc.heap.size < w3.heap.size := hB6.lt
    obtain ⟨B6, hB'⟩ : ∃ x, wc.heap.size = x := ⟨_, rfl⟩
    rw [hB'] at hI0 hgw hB6l ⊢
    have hD : ∀ k V, k ≤ m → OpenI w (K : Int) (R : Int) p q n c m d m1 Bw B6 g N (opF K N t l) k V → BackD B6 q m d (fun k => ent l (m - 1 - k)) k V := fun k V hk hi => by
      refine ⟨hi.2.cell, fun hlt => ?_⟩
      have hml := H.out.2.2.2.1
      obtain ⟨b, off, hq, hb, hc⟩ := H.out.2.1.cell (by rintro rfl; simp at hml; omega)
      exact ⟨b, off, hq, (hi.1.2.2.2.cell (p := ⟨b, off + (m - 1 - k), none⟩) hb).trans (hc _ _ (ent_get (by omega)))⟩
    have hmd : m ≤ d := by have := H.out.2.1.le; have := H.out.2.2.2.1; omega
    have HI := Lib.hid (And.intro hgw hB6l)
    have HBW := Lib.hid (show w1.heap.size ≤ B6 from hB' ▸ hwS1)
    clear hw3 hb3 hB6 hB' hgw hB6l hwS1
    refine range_all (n := 8) (gf := 81) (lb := #[.pointer (some ⟨B6, 0, none⟩)]) rfl (enters_of Tryd.func81 (by kernel_rfl) rfl) (enc := BackE m (fun k => ent l (m - 1 - k))) (by omega) (fun _ => rfl) (backward_all 7 B6 q m d (fun k => ent l (m - 1 - k)) (by omega) (by omega) hmd) (OpenI w (K : Int) (R : Int) p q n c m d m1 Bw B6 g N (opF K N t l))
      (fun k A B row hs hg' hr => ⟨⟨rul_turned hs.1.1 hg' (fun r e => (hr r e).2), box_turned hs.1.2.1 hg' (fun r e => (hr r e).2), (by obtain ⟨gs, h3⟩ := hs.1.2.2.1; exact ⟨gs, h3.turned hg' (fun r e => (hr r e).2)⟩), hs.1.2.2.2.grown hg' hs.1.2.2.2.size (fun k e => Nat.le_trans hs3 (hr k e).1)⟩, box_turned hs.2 hg' (fun r e => (hr r e).2)⟩)
      hI0 hD
      (fun k => { tmps := List.toArray ((Value.agg #[.int .i64 (K : Int), .int .i64 (R : Int), .slice p n c]) :: (Value.slice q m d) :: (Value.pointer (some ⟨w.heap.size, 0, none⟩)) :: undef :: (Value.slice none 0 0) :: (Value.pointer (some ⟨Bw, 0, none⟩)) :: (Value.int .i64 ((m - 1 - k : Nat) : Int)) :: (Value.int .i64 (ent l (m - 1 - k))) :: undef :: undef :: undef :: undef :: (Value.slice q m d) :: (Value.int .i64 (m : Int)) :: (Value.int .i64 (m1 : Int)) :: (Value.slice (some ⟨g, 0, none⟩) m1 m1) :: u16 :: u17 :: u18 :: u19 :: u20 :: u21 :: u22 :: u23 :: (Value.slice q m d) :: (Value.func (.func 81) #[] #[.pointer (some ⟨B6, 0, none⟩)]) :: (Value.int .i64 ((m - 1 - k : Nat) : Int)) :: (Value.int .i64 (ent l (m - 1 - k))) :: u28 :: u29 :: u30 :: u31 :: u32 :: u33 :: u34 :: u35 :: u36 :: u37 :: u38 :: u39 :: u40 :: u41 :: u42 :: u43 :: u44 :: u45 :: u46 :: u47 :: u48 :: u49 :: u50 :: u51 :: u52 :: u53 :: u54 :: u55 :: u56 :: u57 :: u58 :: u59 :: u60 :: u61 :: u62 :: u63 :: u64 :: u65 :: u66 :: u67 :: u68 :: u69 :: u70 :: u71 :: u72 :: []), defers := [] }) ?assign ?body ?done
    case assign =>
      intro l' k W K' hK
      unfold BackE
      gi_wp2
      exact hK
    case body =>
      intro l' k W hk hi
      obtain ⟨i, hiE⟩ : ∃ i, m - 1 - k = i := ⟨_, rfl⟩
      rw [hiE]
      obtain ⟨x, hx⟩ : ∃ x, ent l i = x := ⟨_, rfl⟩
      rw [hx]
      have hik : m - k = i + 1 := by omega
      have him : i < m := by omega
      have hgE : w.heap.size + 1 = g ∧ g + 1 = Bw ∧ g < B6 := by
        have h1 := H1.out.2.2.2.2
        have h2 := HI.out
        have h3 := hi.1.2.1.lt
        have h4 := HBW.out
        omega
      have hgW : g < W.heap.size := by have h1 := hi.2.lt; omega
      have hcB := hi.1.2.1.cell
      obtain ⟨_, hr0, hr1, hr2⟩ := hi.1.1.facts
      have hxF : ∀ wx : World, Below W.heap.size W wx → (wx.cell? ⟨g, i, none⟩ = some (.slice none 0 0) ∧ wx.frozen? ⟨g, i, none⟩ = false) ∧ wx.cell? ⟨Bw, 0, none⟩ = some (.slice (some ⟨g, 0, none⟩) m1 m1) := fun wx hb => by
        obtain ⟨gs, h3⟩ := hi.1.2.2.1
        have h4 := h3.next hgW hb
        exact ⟨⟨h4.nils i (by omega) (by omega), h4.free i (by omega)⟩, (hb.cell (p := ⟨Bw, 0, none⟩) hi.1.2.1.lt).trans hi.1.2.1.cell⟩
      have him1 : (i : Int) < (m1 : Int) := by omega
      have him2 : i < m1 := by omega
      have hi0 : (0 : Int) ≤ (i : Int) := by omega
      have hmkN := makeB N (by omega)
      have hmx : Tryd.prog.follows .mixedOrders = true := by kernel_rfl
      have HK := Lib.hid (And.intro hi (And.intro hik (And.intro hgE (And.intro hiE hx))))
      have hdr : Below W.heap.size W W.drew := (Below.refl _ _).drew
      clear hi hik hgE hiE hx
      gi_upto_region 6 with fail
      gi_cut [] from 28 (fun wx => OpenS w (K : Int) (R : Int) p n c m m1 Bw B6 g N (fun j v => if j = i then false else opF K N t l j v) i wx ∧ Boxed wx B6 22 (.slice q m d) ∧ KeepsOthers W wx)
      case first =>
        gi_region_with_o (refine ⟨trivial, ?_⟩; gi_at_call 30; refine (CallsIn.inRound l' (callsIn_wide.2 (HC.out.1 _))).mono ?_; rintro e1 wa ⟨rfl, hba⟩; have hBa : Below W.heap.size W wa := (by first | exact hba | exact hdr.trans (hba.mono hdr.size)); have hcBa := (hxF _ hBa).2; obtain ⟨⟨hga, hfa⟩, hcBm⟩ := hxF _ (hBa.alloc hBa.size (.cells (madeCells #[.bool false] N) 4)))
        all_goals gi_wp2
        all_goals gi_meet
        all_goals
          have hf := HK.out.1.fresh HK.out.2.1 HK.out.2.2.1 hBa
          exact ⟨hf.1, hf.2, (keeps_below hBa).trans ((KeepsOthers.alloc _ _).trans (KeepsOthers.setCell _ _ _))⟩
      case rest =>
        clear hxF hmkN hcB hr0 hr1 hr2
        have hS0 : RowS w W (K : Int) (R : Int) p q n c m d m1 Bw B6 g N (rowF K N t l x i 0 0) i wc := RowS.congr hcut fun j v _ _ _ => rowF_start j v
        have hgl : ∀ (F : Nat → Nat → Bool) (wx : World), RowS w W (K : Int) (R : Int) p q n c m d m1 Bw B6 g N F i wx → g < wx.heap.size := fun F wx h => by
          have h1 := h.2.1.lt
          have h2 := HK.out.2.2.1
          omega
        have HGL := Lib.hid hgl
        have HS := Lib.hid hS0
        obtain ⟨_, hr0, hr1, hr2⟩ := hS0.1.1.facts
        clear hcut hS0 hgl
        gi_wp2_with (refine ⟨trivial, ?_⟩; gi_at_call 30; refine (CallsIn.inRound l' (callsIn_wide.2 (HC.out.1 _))).mono ?_; rintro e1 wn ⟨rfl, hbn⟩; have HN := Lib.hid (HS.out.next (HGL.out _ _ HS.out) hbn); clear hbn hr0 hr1 hr2)
        gi_loopw [36] (fun v36 wr => OutR w W (K : Int) (R : Int) p q n c m d m1 Bw B6 g N K t l x i v36 wr) (fun v _ => N - (intOf v).toNat)
        case atStart => exact ⟨0, Nat.zero_le _, rfl, HN.out⟩
        case round =>
          obtain ⟨u, hu, rfl, hS⟩ := hrel
          have HU := Lib.hid hS
          obtain ⟨_, hr0, hr1, hr2⟩ := hS.1.1.facts
          clear hS
          by_cases hun : u < N
          · have hun2 : (u : Int) < (N : Int) := by omega
            gi_wp2
            gi_loopw [41] (fun v41 wr => InR w W (K : Int) (R : Int) p q n c m d m1 Bw B6 g N K t l x i u v41 wr) (fun v _ => K - (intOf v).toNat)
            case atStart => exact ⟨0, Nat.zero_le _, rfl, HU.out⟩
            case round =>
              obtain ⟨s, hs, rfl, hS⟩ := hrel
              obtain ⟨wq, hwq⟩ : ∃ x, x = wr := ⟨_, rfl⟩
              subst hwq
              clear hr0 hr1 hr2
              by_cases hsk : s < K
              · have hsk2 : (s : Int) < (K : Int) := by omega
                have HZ := Lib.hid hS
                have hgw := HGL.out _ _ hS
                obtain ⟨⟨h1, h2, ⟨gs, h3⟩, h4⟩, h5, h6⟩ := hS
                have hcf := HC.out.2 wq (H.out.1.next h4) u s hun hsk
                obtain ⟨T, hT⟩ : ∃ T, (u * K + s) % N = T := ⟨_, rfl⟩
                obtain ⟨L, hL⟩ : ∃ L, ent t (u * K + s) = L := ⟨_, rfl⟩
                rw [hT, hL] at hcf
                have hTN : T < N := by rw [← hT]; exact Nat.mod_lt _ zN1
                have hTN2 : (T : Int) < (N : Int) := by omega
                have hT0 : (0 : Int) ≤ (T : Int) := by omega
                have hu0 : (0 : Int) ≤ (u : Int) := by omega
                have hHi : rowF K N t l x i u s (i + 1) T = opF K N t l (i + 1) T := by unfold rowF; rw [if_neg (by omega)]
                obtain ⟨bv, hbv⟩ : ∃ bv, opF K N t l (i + 1) T = bv := ⟨_, rfl⟩
                have hxW : ∀ wx : World, Below wq.heap.size wq wx → (wx.cell? ⟨Bw, 0, none⟩ = some (.slice (some ⟨g, 0, none⟩) m1 m1) ∧ wx.cell? ⟨g, i + 1, none⟩ = some (.slice (some ⟨gs (i + 1), 0, none⟩) N N)) ∧ wx.cell? ⟨gs (i + 1), T, none⟩ = some (.bool bv) ∧ wx.cell? ⟨g, i, none⟩ = some (.slice (some ⟨gs i, 0, none⟩) N N) ∧ wx.cell? ⟨gs i, u, none⟩ = some (.bool (rowF K N t l x i u s i u)) ∧ wx.frozen? ⟨gs i, u, none⟩ = false := fun wx hb => by
                  have k3 := h3.next hgw hb
                  refine ⟨⟨(hb.cell (p := ⟨Bw, 0, none⟩) h2.lt).trans h2.cell, k3.head (i + 1) (Nat.le_succ _) (by omega)⟩, ?_, k3.head i (Nat.le_refl _) (by omega), k3.row i (Nat.le_refl _) (by omega) u hun⟩
                  rw [(k3.row (i + 1) (Nat.le_succ _) (by omega) T hTN).1, hHi, hbv]
                have hi1 : (i : Int) + 1 < (m1 : Int) := by have := H.out.2.2.1; omega
                have hi10 : (0 : Int) ≤ (i : Int) + 1 := by omega
                have HQ := Lib.hid hcf
                have HW2 := Lib.hid hxW
                have HV := Lib.hid (And.intro hT (And.intro hL (And.intro hbv (And.intro h3 hgw))))
                obtain ⟨_, hq0, hq1, hq2⟩ := h1.facts
                clear h1 h2 h3 h4 h5 h6 hcf hT hL hHi hbv hxW hgw
                by_cases hLx : L = x
                · subst hLx
                  cases bv with
                  | false =>
                    gi_wp2_with (refine ⟨trivial, ?_⟩; gi_at_call 35; refine (CallsIn.inRound l' (callsIn_wide.2 HQ.out)).mono ?_; rintro e1 wf ⟨rfl, hbf⟩; have HF := Lib.hid (HZ.out.next (HGL.out _ _ HZ.out) hbf); have HB := Lib.hid hbf; obtain ⟨⟨hx0, hx1⟩, hx2, hx3, hx4, hx5⟩ := HW2.out wf hbf; clear hbf hq0 hq1 hq2)
                    go_roundw
                    case rel => exact ⟨s + 1, hsk, by go_num, HF.out.congr fun j v _ _ _ => rowF_no (by rw [HV.out.1, HV.out.2.2.1]; simp) j v⟩
                    case measure => simp [intOf]; omega
                  | true =>
                    gi_wp2_with (refine ⟨trivial, ?_⟩; gi_at_call 35; refine (CallsIn.inRound l' (callsIn_wide.2 HQ.out)).mono ?_; rintro e1 wf ⟨rfl, hbf⟩; have HF := Lib.hid (HZ.out.next (HGL.out _ _ HZ.out) hbf); have HB := Lib.hid hbf; obtain ⟨⟨hx0, hx1⟩, hx2, hx3, hx4, hx5⟩ := HW2.out wf hbf; clear hbf hq0 hq1 hq2)
                    go_roundw
                    case rel =>
                      obtain ⟨⟨k1, k2, _, k4⟩, k5, k6⟩ := HF.out
                      exact ⟨s + 1, hsk, by go_num, RowS.mark k1 k2 (HV.out.2.2.2.1.next HV.out.2.2.2.2 HB.out) k4 k5 k6 HK.out.2.2.1 (by omega) hun fun j v _ _ _ => rowF_yes HV.out.2.1 (by rw [HV.out.1]; exact HV.out.2.2.1) j v⟩
                    case measure => simp [intOf]; omega
                · have hLx2 : (L == x) = false := by simpa using hLx
                  gi_wp2_with (refine ⟨trivial, ?_⟩; gi_at_call 35; refine (CallsIn.inRound l' (callsIn_wide.2 HQ.out)).mono ?_; rintro e1 wf ⟨rfl, hbf⟩; have HF := Lib.hid (HZ.out.next (HGL.out _ _ HZ.out) hbf); have HB := Lib.hid hbf; clear hbf hq0 hq1 hq2)
                  go_roundw
                  case rel => exact ⟨s + 1, hsk, by go_num, HF.out.congr fun j v _ _ _ => rowF_no (by rw [HV.out.2.1]; simp [hLx]) j v⟩
                  case measure => simp [intOf]; omega
              · obtain rfl : s = K := by omega
                have hsk2 : ¬ (s : Int) < (s : Int) := by omega
                gi_wp2
                go_roundw
                case rel => exact ⟨u + 1, hun, by go_num, hS.congr fun j v _ _ _ => rowF_next (by rw [← HK.out.2.2.2.2]; exact ent_get (by have := H.out.2.2.2.1; omega)) j v⟩
                case measure => simp [intOf]; omega
          · obtain rfl : u = N := by omega
            have hun2 : ¬ (u : Int) < (u : Int) := by omega
            gi_wp2
            refine ⟨HU.out.2.2, ?_⟩
            have hF := HU.out.congr fun j v _ _ hv => rowF_end hv
            refine ⟨?_, hF.2.1⟩
            rw [show m - (k + 1) = i by have := HK.out.2.1; omega]
            exact hF.1
    case done =>
      intro D W hDl hi hK
      obtain ⟨⟨h1, h2, ⟨gs, h3⟩, h4⟩, h5⟩ := hi
      rw [Nat.sub_self] at h3
      have hcB := h2.cell
      have hgl : g < W.heap.size := Nat.lt_of_lt_of_le HI.out.1 (Nat.le_of_lt h5.lt)
      have HF := Lib.hid (And.intro h3 (And.intro h4 (And.intro hgl hDl)))
      clear h1 h2 h3 h4 h5 hgl
      gi_wp2
      refine ⟨by simp, .inl ⟨_, _, rfl, run_takeDeferred hK, ?_⟩⟩
      exact ⟨_, results_tmp rfl _ _ _, g, by rw [H.out.2.2.1]; rfl, (HF.out.1.turned (grownBy_putObj' _ D _) (fun r e => by cases e; exact ⟨_, hK, rfl⟩)).toV (by have h1 := H1.out.2.2.2.2.2; omega) ⟨by have h1 := H1.out.2.2.2.2.2; omega, by rw [World.putObj_size]; exact HF.out.2.2.1⟩, HF.out.2.1.trans (belowK_b (w := w) (Nat.le_refl _) W D _ _ (Nat.le_trans hs3 HF.out.2.2.2) hK rfl rfl)⟩
end Go.Proofs.YtmienemnjikgdaaDoor
end
section
namespace Go.Proofs.YtmienemnjikgdaaDoor
open Go.RowKit Go.Shelf Go.Extern.Stop Go.Stop Go.Extern WordM RuleM

/-- the first place below n where f is true; n, where there is none -/
def firstB (f : Nat → Bool) : Nat → Nat
  | 0 => 0
  | n + 1 => if f 0 then 0 else firstB (fun i => f (i + 1)) n + 1
theorem firstB_spec : ∀ (f : Nat → Bool) (n : Nat), (firstB f n = n ∧ ∀ i, i < n → f i = false) ∨ (firstB f n < n ∧ f (firstB f n) = true ∧ ∀ i, i < firstB f n → f i = false)
  | f, 0 => Or.inl ⟨rfl, fun i h => absurd h (Nat.not_lt_zero _)⟩
  | f, n + 1 => by
    unfold firstB
    by_cases h0 : f 0 = true
    · rw [if_pos h0]
      exact Or.inr ⟨Nat.succ_pos _, h0, fun i h => absurd h (Nat.not_lt_zero _)⟩
    · rw [if_neg h0]
      rcases firstB_spec (fun i => f (i + 1)) n with ⟨h1, h2⟩ | ⟨h1, h2, h3⟩
      · refine Or.inl ⟨by rw [h1], fun i hi => ?_⟩
        cases i with
        | zero => simpa using h0
        | succ i => exact h2 i (by omega)
      · refine Or.inr ⟨by omega, h2, fun i hi => ?_⟩
        cases i with
        | zero => simpa using h0
        | succ i => exact h3 i (by omega)
/-- a row of bools in memory -/
def RowB (w : World) (b n : Nat) (f : Nat → Bool) : Prop := b < w.heap.size ∧ ∀ u, u < n → w.cell? ⟨b, u, none⟩ = some (.bool (f u))
set_option maxRecDepth 100000 in
set_option maxHeartbeats 4000000 in
theorem indexB (b n : Nat) (f : Nat → Bool) (w : World) (h : RowB w b n f) (hn : n ≤ 100000) :
    Calls Tryd.prog 69 #[.slice (some ⟨b, 0, none⟩) n n, .bool true] w fun e w' => e = .returned (.int .i64 (if firstB f n < n then (firstB f n : Int) else -1)) ∧ w = w' := by
  obtain ⟨z, hz⟩ : ∃ z, firstB f n = z := ⟨_, rfl⟩
  have hsp := firstB_spec f n
  rw [hz] at hsp ⊢
  have hzn : z ≤ n := by rcases hsp with ⟨h1, _⟩ | ⟨h1, _⟩ <;> omega
  obtain ⟨Z, hZ⟩ : ∃ Z : Int, (if z < n then (z : Int) else -1) = Z := ⟨_, rfl⟩
  rw [hZ]
  have H := Lib.hid (And.intro h.2 (And.intro hsp hZ))
  clear h hz hsp hZ
  go_enter Tryd.func69, Tryd.ntmps69
  go_wp2_with fail
  go_loop [8] (fun v => ∃ j : Nat, j ≤ z ∧ v = .int .i64 (j : Int)) (fun v => n - (intOf v).toNat)
  case atStart => exact ⟨0, Nat.zero_le _, rfl⟩
  case round =>
    obtain ⟨j, hj, rfl⟩ := hrel
    by_cases hlt : j < n
    · have hlt2 : (j : Int) < (n : Int) := by omega
      have hcx := H.out.1 j hlt
      by_cases hjz : j < z
      · have hfj : f j = false := by
          rcases H.out.2.1 with ⟨_, h2⟩ | ⟨_, _, h2⟩
          · exact h2 j hlt
          · exact h2 j hjz
        rw [hfj] at hcx
        clear hfj
        go_wp2_with fail
        go_round
        case rel => exact ⟨j + 1, by omega, by go_num⟩
        case measure => simp [intOf]; omega
      · obtain rfl : j = z := by omega
        have hfj : f j = true := by
          rcases H.out.2.1 with ⟨h1, _⟩ | ⟨_, h2, _⟩
          · omega
          · exact h2
        rw [hfj] at hcx
        clear hfj
        go_wp2_with fail
        go_ret
        exact ⟨by rw [← H.out.2.2, if_pos hlt]; rfl, rfl⟩
    · obtain rfl : j = n := by omega
      have hlt2 : ¬ (j : Int) < (j : Int) := by omega
      go_wp2_with fail
      go_ret
      exact ⟨by rw [← H.out.2.2, if_neg (by omega)]; rfl, rfl⟩
theorem first_any (f : Nat → Bool) (n : Nat) : decide ((0 : Int) ≤ (if firstB f n < n then (firstB f n : Int) else -1)) = (List.range n).any f := by
  rcases firstB_spec f n with ⟨h1, h2⟩ | ⟨h1, h2, _⟩
  · rw [if_neg (by omega)]
    have : (List.range n).any f = false := by
      rw [List.any_eq_false]
      intro i hi
      simp [h2 i (List.mem_range.1 hi)]
    rw [this]; rfl
  · rw [if_pos h1]
    have : (List.range n).any f = true := List.any_eq_true.2 ⟨firstB f n, List.mem_range.2 h1, h2⟩
    rw [this]
    exact decide_eq_true (Int.natCast_nonneg _)
set_option maxRecDepth 100000 in
set_option maxHeartbeats 4000000 in
theorem containsB (b n : Nat) (f : Nat → Bool) (w : World) (h : RowB w b n f) (hn : n ≤ 100000) :
    Calls Tryd.prog 45 #[.slice (some ⟨b, 0, none⟩) n n, .bool true] w fun e w' => e = .returned (.bool ((List.range n).any f)) ∧ w = w' := by
  have hi := indexB b n f w h hn
  rw [← first_any]
  obtain ⟨Z, hZ⟩ : ∃ Z : Int, (if firstB f n < n then (firstB f n : Int) else -1) = Z := ⟨_, rfl⟩
  rw [hZ] at hi ⊢
  have H := Lib.hid hi
  clear hi hZ h
  by_cases h0 : 0 ≤ Z
  · rw [decide_eq_true h0]
    go_enter Tryd.func45, Tryd.ntmps45
    go_wp2_with fail
    refine H.out.mono ?_
    rintro e w1 ⟨rfl, rfl⟩
    go_wp2_with fail
    go_ret
    constructor
    · simp
    · rfl
  · rw [decide_eq_false h0]
    go_enter Tryd.func45, Tryd.ntmps45
    go_wp2_with fail
    refine H.out.mono ?_
    rintro e w1 ⟨rfl, rfl⟩
    go_wp2_with fail
    go_ret
    exact ⟨by simp [h0], rfl⟩

set_option maxRecDepth 100000 in
set_option maxHeartbeats 8000000 in
theorem oHas_ok (K R : Nat) (p q : Option Addr) (n c m d : Nat) (t l : List Int) (w : World) (hn : n = t.length) (hm : m = l.length) (h : IntV w.heap.size w p c t) (h' : IntV w.heap.size w q d l) (ho : OkS K R t) (hl : l.length ≤ 256) (hw : okW K l) :
    Calls Tryd.prog 19 #[.agg #[.int .i64 (K : Int), .int .i64 (R : Int), .slice p n c], .slice q m d] w (Tells (.tuple #[.bool (hasW K R t l), .nilIface]) w) := by
  have ST := Lib.hid (box_ruleO w (.int .i64 (K : Int)) (.int .i64 (R : Int)) (.slice p n c))
  have cC := fun W a b => ckWord_ok K R p q n c m d 256 t l W hn hm a b ho hl hw (by decide)
  have cO := fun W a b => openO K R (K ^ (2 * R)) p q n c m d t l W hn hm a b ho rfl (by omega)
  have cI := fun b W hb => containsB b (K ^ (2 * R)) (opF K (K ^ (2 * R)) t l 0) W hb (by have := ho.n256; omega)
  have hm0 : 0 < m + 1 := Nat.succ_pos _
  obtain ⟨m1, hm1⟩ : ∃ x, m + 1 = x := ⟨_, rfl⟩
  unfold OpenPost at cO
  simp only [hm1] at cO
  rw [hm1] at hm0
  obtain ⟨N, hN⟩ : ∃ N, K ^ (2 * R) = N := ⟨_, rfl⟩
  have hh : hasW K R t l = (List.range N).any (opF K N t l 0) := by unfold hasW; rw [hN]; rfl
  rw [hh]
  simp only [hN] at cO cI
  obtain ⟨B, hB⟩ : ∃ B, (List.range N).any (opF K N t l 0) = B := ⟨_, rfl⟩
  rw [hB]
  simp only [hB] at cI
  have hm0i : (0 : Int) < (m1 : Int) := by omega
  have HC := Lib.hid (And.intro cC (And.intro cO cI))
  have H := Lib.hid (And.intro h h')
  clear cC cO cI h h' ho hl hw hN hh hB hm1 hn hm
  go_enter Tryd.func19, Tryd.ntmps19
  go_upto_region 1 with fail
  obtain ⟨w0, hw0⟩ : ∃ w0, w0 = w.alloc (.cells #[.int .i64 (K : Int), .int .i64 (R : Int), .slice p n c] 24) := ⟨_, rfl⟩
  rw [← hw0]
  obtain ⟨hb0, hE0⟩ := ST.out w0 hw0
  have HE := Lib.hid (And.intro hE0 hb0)
  obtain ⟨_, hc0, hc1, hc2⟩ := hE0.facts
  clear hw0 hE0 hb0
  go_wp2_with fail
  refine (HC.out.1 w0 (H.out.1.next HE.out.2) (H.out.2.next HE.out.2)).mono ?_
  rintro e w1 ⟨rfl, hb1⟩
  have H1 := Lib.hid (And.intro (HE.out.1.next hb1) (HE.out.2.trans (hb1.mono HE.out.2.size)))
  clear hb1 hc0 hc1 hc2
  obtain ⟨_, hc0, hc1, hc2⟩ := H1.out.1.facts
  go_wp2_with fail
  refine (HC.out.2.1 w1 (H.out.1.next H1.out.2) (H.out.2.next H1.out.2)).mono ?_
  rintro e w2 ⟨g, rfl, hv, hb2⟩
  obtain ⟨b, _, hbl, hcg, hcr⟩ := hv.at_ 0 (Nat.zero_le _)
  have H2 := Lib.hid (And.intro (H1.out.2.trans (hb2.mono H1.out.2.size)) (show RowB w2 b N (opF K N t l 0) from ⟨hbl, hcr⟩))
  clear hv hb2 hbl hcr hc0 hc1 hc2
  go_wp2_with fail
  refine (HC.out.2.2 b w2 H2.out.2).mono ?_
  rintro e w3 ⟨rfl, rfl⟩
  clear hcg
  go_wp2_with fail
  go_ret2
  exact ⟨rfl, H2.out.1⟩
set_option maxRecDepth 100000 in
set_option maxHeartbeats 8000000 in
theorem oHas_bad (k r : Int) (p q : Option Addr) (n c m d : Nat) (t l : List Int) (w : World) (A : Nat → Addr) (hr : Roots w A) (hn : n = t.length) (hm : m = l.length) (h : IntV w.heap.size w p c t) (h' : IntV w.heap.size w q d l) (L : List (ByteArray × Int)) (M : Nat) (hc : chkV k r t l 256 = some (L, M)) :
    Calls Tryd.prog 19 #[.agg #[.int .i64 k, .int .i64 r, .slice p n c], .slice q m d] w (FErr2 w A L M (.bool false)) := by
  have ST := Lib.hid (box_ruleO w (.int .i64 k) (.int .i64 r) (.slice p n c))
  have HC := Lib.hid (fun W hr a b => ckWord_none k r p q n c m d 256 t l W A hr hn hm a b (by decide) L M hc)
  have H := Lib.hid (And.intro h (And.intro h' hr))
  clear h h' hr hc hn hm
  go_enter Tryd.func19, Tryd.ntmps19
  go_upto_region 1 with fail
  obtain ⟨w0, hw0⟩ : ∃ w0, w0 = w.alloc (.cells #[.int .i64 k, .int .i64 r, .slice p n c] 24) := ⟨_, rfl⟩
  rw [← hw0]
  obtain ⟨hb0, hE0⟩ := ST.out w0 hw0
  have HE := Lib.hid (And.intro hE0 hb0)
  obtain ⟨_, hc0, hc1, hc2⟩ := hE0.facts
  clear hw0 hE0 hb0
  go_wp2_with fail
  refine (HC.out w0 (H.out.2.2.below HE.out.2) (H.out.1.next HE.out.2) (H.out.2.1.next HE.out.2)).mono ?_
  rintro e w1 ⟨b, rfl, hl1, hb1⟩
  have H1 := Lib.hid (And.intro hl1 (HE.out.2.trans (hb1.mono HE.out.2.size)))
  clear hl1 hb1 hc0 hc1 hc2
  go_wp2_with fail
  go_ret2
  exact ⟨b, rfl, H1.out.1, H1.out.2⟩
end Go.Proofs.YtmienemnjikgdaaDoor
end
section
namespace Go.Proofs.YtmienemnjikgdaaDoor
open Go.RowKit

/-- a lent list: its block holds it, and the two marks behind -/
def LentI (w : World) (g : Nat) (l : List Int) : Prop := w.heap[g]? = some (.cells (cI (l ++ [7001, 7002])).toArray 3 (0, 0))
theorem LentI.lt {w : World} {g : Nat} {l : List Int} (h : LentI w g l) : g < w.heap.size := heap_ltN h
theorem LentI.cell {w : World} {g : Nat} {l : List Int} (h : LentI w g l) {j : Nat} {x : Int} (hx : (l ++ [7001, 7002])[j]? = some x) : w.cell? ⟨g, j, none⟩ = some (.int .i64 x) := by
  rw [cell_of_row w g j _ _ _ h, List.getElem?_toArray]
  exact cI_get hx
theorem LentI.block {w w' : World} {g : Nat} {l : List Int} (hb : w'.heap[g]? = w.heap[g]?) (h : LentI w g l) : LentI w' g l := hb.trans h
theorem LentI.below {w w' : World} {g : Nat} {l : List Int} (hb : Below w.heap.size w w') (h : LentI w g l) : LentI w' g l := h.block (hb.block g h.lt)
theorem LentI.own {w : World} {g base : Nat} {l : List Int} (hB : base ≤ g) (hl : l.length ≤ 17592186043904) (h : LentI w g l) : IntO base w (some ⟨g, 0, none⟩) (l.length + 2) l := by
  refine ⟨by rw [cI_length, Nat.mul_one], Or.inr ⟨g, l.length + 2, _, rfl, hB, h, by omega, by unfold maxLen; omega, by simp [cI], ?_⟩⟩
  rw [List.toList_toArray, Nat.mul_one]
  unfold cI
  rw [List.map_append, List.take_left' (by simp)]
theorem LentI.of_own {w : World} {g base : Nat} {l : List Int} (h : IntO base w (some ⟨g, 0, none⟩) l.length l) (hfull : ∃ m, l = m ++ [7001, 7002]) : ∃ m, l = m ++ [7001, 7002] ∧ LentI w g m := by
  obtain ⟨m, rfl⟩ := hfull
  refine ⟨m, rfl, ?_⟩
  obtain ⟨hx, h1 | ⟨g', cap, cur, hv, hg, hh, hc, hm, hs, ht⟩⟩ := h
  · simp at h1
  · obtain ⟨rfl, rfl⟩ : g = g' ∧ (m ++ [7001, 7002]).length = cap := by simpa using hv
    unfold LentI
    rw [hh]
    congr 2
    rw [← Array.toList_inj, List.toList_toArray, ← ht, Nat.mul_one, List.take_of_length_le (by rw [Array.length_toList]; omega)]

def LentPostI (w : World) (l : List Int) (e : Ending) (w' : World) : Prop :=
  e = .returned (.slice (some ⟨w.heap.size, 0, none⟩) l.length (l.length + 2)) ∧ LentI w' w.heap.size l ∧ Below w.heap.size w w'
theorem splice_zeroI (cs : List Value) (n : Nat) (v : Value) : splice (List.replicate n v) 0 cs = cs ++ List.replicate (n - cs.length) v := by
  unfold splice
  simp

set_option maxRecDepth 100000 in
set_option maxHeartbeats 1000000 in
theorem lentI_any (p : Option Addr) (cap : Nat) (l : List Int) (w : World) (h : IntV w.heap.size w p cap l) (hl : l.length ≤ 17592186043904) :
    Calls Tryd.prog 16 #[.slice p l.length cap] w (LentPostI w l) := by
  obtain ⟨n, hn⟩ : ∃ n, n = l.length + 2 := ⟨_, rfl⟩
  have hmk := makeI n (by omega)
  have hn2 : (l.length : Int) + 2 = (n : Int) := by omega
  have H := Lib.hid (And.intro h hn)
  have hln : l.length < n := by omega
  have hln1 : l.length + 1 < n := by omega
  have hnb : n ≤ 17592186043906 := by omega
  clear h hn
  go_enter Tryd.func16, Tryd.ntmps16
  have hB1 : Below w.heap.size w (w.alloc (.cells (madeCells #[.int .i64 0] n) 3)) := (Below.refl _ _).alloc (Nat.le_refl _) _
  have HB1 := Lib.hid hB1
  have hh : (w.alloc (.cells (madeCells #[.int .i64 0] n) 3)).heap[w.heap.size]? = some (.cells (List.replicate n (Value.int .i64 0)).toArray 3 (0, 0)) := by
    rw [heap_newN, ← madeI_list]
  have HHH := Lib.hid hh
  clear hB1 hh
  go_wp2_with (with_reducible refine wpList_copy_splice rfl (.tmp 8) (.tmp 9) 22 22 rfl 3 Tryd.underlying22 sizeI (some ⟨w.heap.size, 0, none⟩) p n n l.length cap rfl rfl w.heap.size 0 (List.replicate n (Value.int .i64 0)) 3 HHH.out (cI l) ?k1 ?k2 ?k3 ?k4 w.heap.size w HB1.out (Nat.le_refl _) ?_)
  case k1 => rw [cI_length]; exact (Nat.min_eq_left (by omega)).symm
  case k2 =>
    intro hpos
    rw [cI_length] at hpos
    obtain ⟨b, off, rfl, hb, hc⟩ := H.out.1.cell (List.length_pos_iff.1 hpos)
    refine ⟨_, rfl, fun j v hv => ?_⟩
    rw [add_off]
    unfold cI at hv
    rw [List.getElem?_map] at hv
    obtain ⟨x, hx, rfl⟩ := Option.map_eq_some_iff.1 hv
    exact (HB1.out.cell (p := ⟨b, off + j, none⟩) hb).trans (hc j x hx)
  case k3 => rw [cI_length, List.length_replicate]; omega
  case k4 =>
    intro v hv
    unfold cI at hv
    obtain ⟨x, _, rfl⟩ := List.mem_map.1 hv
    rfl
  intro w1 hw1 hb1
  have hn0 : n = l.length + 2 := H.out.2
  have hw2 : w1.heap[w.heap.size]? = some (.cells (cI l ++ [Value.int .i64 0, Value.int .i64 0]).toArray 3 (0, 0)) := by
    have h := hw1.out
    rw [splice_zeroI, cI_length, show n - l.length = 2 by omega] at h
    exact h
  have hc1 : w1.cell? ⟨w.heap.size, l.length, none⟩ = some (.int .i64 0) := by
    rw [cell_of_row w1 _ _ _ _ _ hw2, List.getElem?_toArray, List.getElem?_append_right (by rw [cI_length]; exact Nat.le_refl _), cI_length, Nat.sub_self]
    rfl
  have hc2 : w1.cell? ⟨w.heap.size, l.length + 1, none⟩ = some (.int .i64 0) := by
    rw [cell_of_row w1 _ _ _ _ _ hw2, List.getElem?_toArray, List.getElem?_append_right (by rw [cI_length]; omega), cI_length, show l.length + 1 - l.length = 1 by omega]
    rfl
  have hf1 : ∀ j, w1.frozen? ⟨w.heap.size, j, none⟩ = false := fun j => frozen_of_row w1 w.heap.size j _ _ hw2
  have hff1 := hf1 l.length
  have hff2 := hf1 (l.length + 1)
  have hnn : n ≤ l.length + 2 := by omega
  have hB2 : Below w.heap.size w ((w1.setCell ⟨w.heap.size, l.length, none⟩ (.int .i64 7001)).setCell ⟨w.heap.size, l.length + 1, none⟩ (.int .i64 7002)) := (hb1.setCell (p := ⟨w.heap.size, l.length, none⟩) (Nat.le_refl _) _).setCell (p := ⟨w.heap.size, l.length + 1, none⟩) (Nat.le_refl _) _
  have hL : LentI ((w1.setCell ⟨w.heap.size, l.length, none⟩ (.int .i64 7001)).setCell ⟨w.heap.size, l.length + 1, none⟩ (.int .i64 7002)) w.heap.size l := by
    unfold LentI
    rw [heap_setCell_same _ w.heap.size (l.length + 1) _ _ _ (heap_setCell_same w1 w.heap.size l.length _ _ _ hw2)]
    congr 2
    rw [← Array.toList_inj]
    simp only [Array.toList_setIfInBounds]
    rw [List.set_append_right _ _ (by rw [cI_length]; exact Nat.le_refl _), List.set_append_right _ _ (by rw [cI_length]; omega), cI_length, Nat.sub_self, show l.length + 1 - l.length = 1 by omega]
    simp [cI]
  have HF := Lib.hid (And.intro hL hB2)
  clear hw1 hb1 hw2 hf1 hn0 hL hB2 hmk HB1 HHH
  go_wp2_with fail
  go_ret
  exact ⟨by rw [H.out.2]; rfl, HF.out.1, HF.out.2⟩
set_option maxRecDepth 100000 in
set_option maxHeartbeats 1000000 in
theorem keptI_any (g : Nat) (p : Option Addr) (n m c : Nat) (l : List Int) (w : World) (hg : LentI w g l) (h : IntV w.heap.size w p c l) (hl : l.length ≤ 17592186043904) (hn : n = l.length) (hm : m = l.length + 2) :
    Calls Tryd.prog 22 #[.slice (some ⟨g, 0, none⟩) n m, .slice p l.length c] w (Tells (.bool true) w) := by
  subst hn hm
  have hcap := h.cap
  unfold maxLen at hcap
  have hle := h.le
  have hsame := ints_any (some ⟨g, 0, none⟩) p l.length l.length (l.length + 2) c l l w rfl rfl ((LentI.own (base := 0) (Nat.zero_le _) (by omega) hg).toV) h
  rw [sameI_self] at hsame
  have HG := Lib.hid hg
  clear hg h
  go_enter Tryd.func22, Tryd.ntmps22
  go_wp2_with fail
  refine hsame.mono ?_
  clear hsame
  rintro e w1 ⟨rfl, hb1⟩
  have hc1 : w1.cell? ⟨g, l.length, none⟩ = some (.int .i64 7001) := (HG.out.below hb1).cell (by simp)
  have hc2 : w1.cell? ⟨g, l.length + 1, none⟩ = some (.int .i64 7002) := (HG.out.below hb1).cell (by rw [List.getElem?_append_right (by omega), show l.length + 1 - l.length = 1 by omega]; rfl)
  have HB := Lib.hid hb1
  clear hb1
  go_wp2_with fail
  go_ret
  exact ⟨rfl, HB.out⟩

def CopyPostI (w : World) (l : List Int) (e : Ending) (w' : World) : Prop :=
  ∃ p c, e = .returned (.slice p l.length c) ∧ IntO w.heap.size w' p c l ∧ Below w.heap.size w w'
set_option maxRecDepth 100000 in
set_option maxHeartbeats 1000000 in
theorem copyI_any (p : Option Addr) (n cap : Nat) (l : List Int) (w : World) (hn : n = l.length) (h : IntV w.heap.size w p cap l) (hl : l.length ≤ 17592186043904) :
    Calls Tryd.prog 74 #[.slice p n cap] w (CopyPostI w l) := by
  subst hn
  obtain ⟨i0, hi, hz0, hz1, hz2⟩ := info_parts infoI
  have H := Lib.hid h
  have hle := h.le
  rcases p with _ | a
  · have hc := h.nil rfl
    subst hc
    obtain rfl : l = [] := List.eq_nil_of_length_eq_zero (by omega)
    clear h
    show Calls Tryd.prog 74 #[.slice none 0 0] w (CopyPostI w [])
    go_enter Tryd.func74, Tryd.ntmps74
    go_wp2_with (at_builtin; refine wpList_append_own_none rfl _ _ 22 rfl w.heap.size 3 i0 1 Tryd.underlying22 hi _ 0 [] rfl (World.ownsRow_made w #[] 0 (Nat.le_refl _) (Nat.zero_le _) rfl) rfl ?_)
    go_ret
    have ho : IntO w.heap.size (w.alloc (.cells #[] 3)) (some ⟨w.heap.size, 0, none⟩) 0 [] := IntO.of_block (l := []) (Nat.le_refl _) (Nat.zero_le _) (heap_newN _ _)
    exact ⟨_, _, rfl, ho, (Below.refl _ _).alloc (Nat.le_refl _) _⟩
  rcases Nat.eq_zero_or_pos l.length with hl0 | hl0
  · obtain rfl : l = [] := List.eq_nil_of_length_eq_zero hl0
    clear h
    show Calls Tryd.prog 74 #[.slice (some a) 0 cap] w (CopyPostI w [])
    go_enter Tryd.func74, Tryd.ntmps74
    go_wp2_with (at_builtin; refine wpList_append_own _ rfl _ _ 22 rfl w.heap.size 3 i0 (.int .i64 0) 1 8 Tryd.underlying22 hi hz0 hz1 hz2 rfl (by decide) _ 0 [] rfl (World.ownsRow_made w #[] 0 (Nat.le_refl _) (Nat.zero_le _) rfl) a 0 cap [] rfl rfl ?c1 ?c2 ?c3 ?c4 ?c5 ?_)
    case c1 => intro j u hj; simp at hj
    case c2 => intro u hu; simp at hu
    case c3 => unfold maxLen; omega
    case c4 => omega
    case c5 => simp
    intro v' w1 hown' hgrow _
    obtain ⟨p1, c1, rfl, ho1⟩ := IntO.slice_own (l := []) hown'
    have hb1 : Below w.heap.size w w1 := ((Below.refl _ _).alloc (Nat.le_refl _) _).grown hgrow (by simp) (fun j hj => by have := Option.some.inj hj; simp at this; omega)
    have HO := Lib.hid (And.intro ho1 hb1)
    clear hown' hgrow ho1 hb1
    go_wp2_with fail
    go_ret
    exact ⟨p1, c1, rfl, HO.out.1, HO.out.2⟩
  · obtain ⟨b, off, ha, hb, hc⟩ := h.cell (List.length_pos_iff.1 hl0)
    obtain rfl : a = ⟨b, off, none⟩ := by simpa using ha
    have HC := Lib.hid hc
    clear h hc ha
    go_enter Tryd.func74, Tryd.ntmps74
    go_wp2_with (at_builtin; refine wpList_append_own _ rfl _ _ 22 rfl w.heap.size 3 i0 (.int .i64 0) 1 8 Tryd.underlying22 hi hz0 hz1 hz2 rfl (by decide) _ 0 [] rfl (World.ownsRow_made w #[] 0 (Nat.le_refl _) (Nat.zero_le _) rfl) ⟨b, off, none⟩ l.length cap (cI l) rfl ?d0 ?d1 ?d2 ?d3 ?d4 ?d5 ?_)
    case d0 => simp [cI]
    case d1 =>
      intro j u hj
      unfold cI at hj
      rw [List.getElem?_map] at hj
      obtain ⟨x, hx, rfl⟩ := Option.map_eq_some_iff.1 hj
      rw [add_off]
      exact (((Below.refl w.heap.size w).alloc (Nat.le_refl _) _).cell (p := ⟨b, off + j, none⟩) hb).trans (HC.out j x hx)
    case d2 =>
      intro u hu
      unfold cI at hu
      obtain ⟨x, _, rfl⟩ := List.mem_map.1 hu
      rfl
    case d3 => unfold maxLen; omega
    case d4 => omega
    case d5 => simp
    intro v' w1 hown' hgrow _
    obtain ⟨p1, c1, rfl, ho1⟩ := IntO.slice_own (l := l) (by simpa using hown')
    have hb1 : Below w.heap.size w w1 := ((Below.refl _ _).alloc (Nat.le_refl _) _).grown hgrow (by simp) (fun j hj => by have := Option.some.inj hj; simp at this; omega)
    have HO := Lib.hid (And.intro ho1 hb1)
    clear hown' hgrow ho1 hb1
    go_wp2_with fail
    go_ret
    exact ⟨p1, c1, by simp, HO.out.1, HO.out.2⟩
end Go.Proofs.YtmienemnjikgdaaDoor
end
section
namespace Go.Proofs.YtmienemnjikgdaaDoor.apartI
open Go.RowKit

abbrev E : TypeId := 3
theorem infoE : (Tryd.prog.info? 3).map (fun i => (i.zero, i.size, i.bytes)) = some (some (.int .i64 0), 1, 8) := by kernel_rfl
theorem infoS : (Tryd.prog.info? 22).map (fun i => (i.zero, i.size, i.bytes)) = some (some (.slice none 0 0), 1, 24) := by kernel_rfl
/-- the marks -/
def m1 (i : Nat) : Value := .int .i64 (-2 * (i : Int) - 1)
def m2 (i : Nat) : Value := .int .i64 (-2 * (i : Int) - 2)

/-- A list: its address, its capacity, its length. -/
abbrev Rw := Option Addr × Nat × Nat
def Rw.val (x : Rw) : Value := .slice x.1 x.2.2 x.2.1

/-! ### rows -/
theorem shape {w : World} {B : Nat} {e : TypeId} {a : Option Addr} {n c : Nat} {xs : List Value} (h : w.ownsRow B e 1 (.slice a n c) n xs) :
    (a = none ∧ n = 0 ∧ c = 0 ∧ xs = []) ∨ ∃ g, a = some ⟨g, 0, none⟩ ∧ B ≤ g ∧ g < w.heap.size ∧ n ≤ c ∧ c ≤ maxLen ∧ xs.length = n ∧ (∀ j, j < n → w.cell? ⟨g, j, none⟩ = xs[j]?) ∧ ∀ j, w.frozen? ⟨g, j, none⟩ = false := by
  have h0 := h
  obtain ⟨hx, h | ⟨g, cap, cur, hv, hg, hh, hc, hm, r⟩⟩ := h
  · obtain ⟨h1, h2⟩ := h
    simp only [Value.slice.injEq] at h1
    exact Or.inl ⟨h1.1, h2, h1.2.2, List.eq_nil_of_length_eq_zero (by omega)⟩
  · simp only [Value.slice.injEq] at hv
    obtain ⟨rfl, _, rfl⟩ := hv
    have hlt : g < w.heap.size := by
      rcases Nat.lt_or_ge g w.heap.size with k | k
      · exact k
      · simp [Array.getElem?_eq_none k] at hh
    exact Or.inr ⟨g, rfl, hg, hlt, hc, hm, by omega, fun j hj => h0.cellAt j (by omega), fun j => h0.frozenAt j⟩
theorem prefix_own {w : World} {B : Nat} {e : TypeId} {g n c k : Nat} {xs : List Value} (h : w.ownsRow B e 1 (.slice (some ⟨g, 0, none⟩) n c) n xs) (hk : k ≤ n) : w.ownsRow B e 1 (.slice (some ⟨g, 0, none⟩) k c) k (xs.take k) := by
  obtain ⟨hx, h | ⟨g', cap, cur, hv, hg, hh, hc, hm, hs, ht⟩⟩ := h
  · simp at h
  · simp only [Value.slice.injEq, Option.some.injEq, Addr.mk.injEq, and_true, true_and] at hv
    obtain ⟨rfl, rfl⟩ := hv
    refine ⟨by rw [List.length_take]; omega, Or.inr ⟨g, c, cur, rfl, hg, hh, by omega, hm, hs, ?_⟩⟩
    rw [← ht, List.take_take]
    congr 1
    omega
theorem same_cap {w : World} {B B' : Nat} {e e' : TypeId} {g n n' c c' : Nat} {xs xs' : List Value} (h : w.ownsRow B e 1 (.slice (some ⟨g, 0, none⟩) n c) n xs) (h' : w.ownsRow B' e' 1 (.slice (some ⟨g, 0, none⟩) n' c') n' xs') : c = c' := by
  obtain ⟨_, h | ⟨g1, c1, cur, hv, _, hh, _, _, hs, _⟩⟩ := h
  · simp at h
  obtain ⟨_, h' | ⟨g2, c2, cur', hv', _, hh', _, _, hs', _⟩⟩ := h'
  · simp at h'
  simp only [Value.slice.injEq, Option.some.injEq, Addr.mk.injEq, and_true, true_and] at hv hv'
  obtain ⟨rfl, rfl⟩ := hv
  obtain ⟨rfl, rfl⟩ := hv'
  rw [hh] at hh'
  injection hh' with hh'
  injection hh' with hcur
  subst hcur
  omega
theorem other_type {w : World} {b b' : Nat} {e e' : TypeId} {v v' : Value} {n n' : Nat} {xs xs' : List Value} (h : w.ownsRow b e 1 v n xs) (h' : w.ownsRow b' e' 1 v' n' xs') (hne : e ≠ e') : v.ownBlock = none ∨ v.ownBlock ≠ v'.ownBlock := by
  rcases h.2 with ⟨rfl, _⟩ | ⟨g, cap, cur, rfl, _, hh, _⟩
  · exact Or.inl rfl
  · right
    rcases h'.2 with ⟨rfl, _⟩ | ⟨g', cap', cur', rfl, _, hh', _⟩
    · simp [Value.ownBlock]
    · intro hq
      have : g = g' := by simpa [Value.ownBlock] using hq
      subst this
      rw [hh] at hh'
      injection hh' with hh'
      injection hh' with _ ht
      exact hne ht
theorem below_lt {w : World} {B : Nat} {e : TypeId} {v : Value} {n : Nat} {xs : List Value} (h : w.ownsRow B e 1 v n xs) : v.ownBlock = none ∨ ∃ b, v.ownBlock = some b ∧ B ≤ b ∧ b < w.heap.size := by
  cases hv : v.ownBlock with
  | none => exact Or.inl rfl
  | some b => exact Or.inr ⟨b, rfl, h.lt b hv⟩
theorem set_take {l : List Value} {k : Nat} {u : Value} (h : k < l.length) : (l.set k u).take (k + 1) = l.take k ++ [u] := by
  rw [List.take_succ_eq_append_getElem (by simpa using h), List.take_set_of_le (Nat.le_refl _)]
  simp

/-! ### the lists, and where they stand -/
def OwnAll (B : Nat) (w : World) (L : List Rw) (C : Nat → List Value) : Prop := ∀ (k : Nat) (x : Rw), L[k]? = some x → w.ownsRow B E 1 x.val x.2.2 (C k)
structure Sit (w : World) (Q qo : Nat) (L : List Rw) : Prop where
  lt : Q < w.heap.size
  cell : ∀ (j : Nat) (x : Rw), L[j]? = some x → w.cell? ⟨Q, qo + j, none⟩ = some x.val
structure Parts (L : List Rw) (Q : Nat) : Prop where
  two : ∀ (k k' : Nat) (x x' : Rw), L[k]? = some x → L[k']? = some x' → k ≠ k' → x.val.ownBlock = none ∨ x.val.ownBlock ≠ x'.val.ownBlock
  q : ∀ (k : Nat) (x : Rw), L[k]? = some x → x.val.ownBlock ≠ some Q
theorem Sit.kept {w w' : World} {Q qo : Nat} {L : List Rw} (h : Sit w Q qo L) {row : Option Nat} (hg : w.grownBy w' row) (hne : row ≠ some Q) : Sit w' Q qo L :=
  ⟨Nat.lt_of_lt_of_le h.lt hg.size, fun j x hx => (World.cell?_of_block (hg.block Q h.lt (Ne.symm hne))).trans (h.cell j x hx)⟩
theorem OwnAll.kept {B : Nat} {w w' : World} {L : List Rw} {C : Nat → List Value} (h : OwnAll B w L C) {row : Option Nat} (hg : w.grownBy w' row) (hne : ∀ (k : Nat) (x : Rw), L[k]? = some x → x.val.ownBlock = none ∨ x.val.ownBlock ≠ row) : OwnAll B w' L C :=
  fun k x hx => (h k x hx).kept hg (hne k x hx)
theorem val_some {x : Rw} {g : Nat} (h : x.1 = some ⟨g, 0, none⟩) : x.val.ownBlock = some g := by unfold Rw.val; rw [h]; rfl
/-- a mark is laid -/
theorem OwnAll.store {B : Nat} {w : World} {L : List Rw} {C : Nat → List Value} {Q : Nat} (hP : Parts L Q) (h : OwnAll B w L C) {i : Nat} {x : Rw} (hx : L[i]? = some x) {g : Nat} (hg : x.1 = some ⟨g, 0, none⟩) (j : Nat) (u : Value) :
    OwnAll B (w.setCell ⟨g, j, none⟩ u) L (fun k => if k = i then (C i).set j u else C k) ∧ w.grownBy (w.setCell ⟨g, j, none⟩ u) (some g) := by
  have ho := h i x hx
  unfold Rw.val at ho
  rw [hg] at ho
  obtain ⟨s1, s2⟩ := ho.stored j u
  refine ⟨fun k y hy => ?_, s2⟩
  by_cases hk : k = i
  · subst hk
    rw [hx] at hy
    obtain rfl := Option.some.inj hy
    simp only [if_true]
    unfold Rw.val
    rw [hg]
    exact s1
  · simp only [if_neg hk]
    refine (h k y hy).kept s2 ?_
    have := hP.two k i y x hy hx hk
    rwa [val_some hg] at this

theorem other_rows {B : Nat} {w : World} {L : List Rw} {C : Nat → List Value} (h : OwnAll B w L C) {b : Nat} {e : TypeId} {v : Value} {n : Nat} {xs : List Value} (hv : w.ownsRow b e 1 v n xs) (hne : E ≠ e) : ∀ (k : Nat) (x : Rw), L[k]? = some x → x.val.ownBlock = none ∨ x.val.ownBlock ≠ v.ownBlock :=
  fun k x hx => other_type (h k x hx) hv hne

/-- Nothing has changed but what is new, and the lists' own blocks. -/
structure Fr (L : List Rw) (w w' : World) : Prop where
  os : w'.os = w.os
  tape : w'.tape = w.tape
  output : w'.output = w.output
  size : w.heap.size ≤ w'.heap.size
  block : ∀ b, b < w.heap.size → (∀ (k : Nat) (x : Rw), L[k]? = some x → x.val.ownBlock ≠ some b) → w'.heap[b]? = w.heap[b]?
theorem Fr.refl (L : List Rw) (w : World) : Fr L w w := ⟨rfl, rfl, rfl, Nat.le_refl _, fun _ _ _ => rfl⟩
theorem Fr.step {L : List Rw} {w a b : World} (h : Fr L w a) {row : Option Nat} (hg : a.grownBy b row) (hr : ∀ k, row = some k → (∃ (i : Nat) (x : Rw), L[i]? = some x ∧ x.val.ownBlock = some k) ∨ w.heap.size ≤ k) : Fr L w b :=
  ⟨hg.os.trans h.os, hg.tape.trans h.tape, hg.output.trans h.output, Nat.le_trans h.size hg.size, fun k hk hno => (hg.block k (Nat.lt_of_lt_of_le hk h.size) (fun e => by
    rcases hr k e.symm with ⟨i, x, hx, hb⟩ | h1
    · exact hno i x hx hb
    · omega)).trans (h.block k hk hno)⟩
theorem Fr.below {L : List Rw} {w w' : World} (h : Fr L w w') {B : Nat} (hB : B ≤ w.heap.size) (hL : ∀ (k : Nat) (x : Rw), L[k]? = some x → x.val.ownBlock = none ∨ ∃ b, x.val.ownBlock = some b ∧ B ≤ b) : Below B w w' :=
  ⟨h.os, h.tape, h.output, h.size, fun k hk => h.block k (by omega) (fun i x hx e => by
    rcases hL i x hx with h1 | ⟨b, h1, h2⟩
    · rw [h1] at e; cases e
    · rw [h1] at e
      have := Option.some.inj e
      omega)⟩

def Rel1 (B : Nat) (w : World) (L : List Rw) (Q qo : Nat) (v3 : Value) (wr : World) : Prop :=
  ∃ (i : Nat) (C : Nat → List Value), i ≤ L.length ∧ v3 = .int .i64 (i : Int) ∧ OwnAll B wr L C ∧ (∀ (k : Nat) (x : Rw), k < i → L[k]? = some x → C k = List.replicate x.2.2 (m1 k)) ∧ Sit wr Q qo L ∧ Fr L w wr
def Rel2 (B : Nat) (w : World) (L : List Rw) (Q qo i n : Nat) (v4 : Value) (wr : World) : Prop :=
  ∃ (j : Nat) (C : Nat → List Value), j ≤ n ∧ v4 = .int .i64 (j : Int) ∧ OwnAll B wr L C ∧ (∀ (k : Nat) (x : Rw), k < i → L[k]? = some x → C k = List.replicate x.2.2 (m1 k)) ∧ (C i).take j = List.replicate j (m1 i) ∧ Sit wr Q qo L ∧ Fr L w wr
/-- The lists, marked. -/
def Marked (B : Nat) (w : World) (L : List Rw) : Prop := ∀ (k : Nat) (x : Rw), L[k]? = some x → w.ownsRow B E 1 x.val x.2.2 (List.replicate x.2.2 (m1 k))
/-- A list grown by forty. -/
def Full (B : Nat) (w : World) (L : List Rw) (k : Nat) (x : Rw) (v : Value) : Prop :=
  ∃ y c, v = .slice y (x.2.2 + 40) c ∧ w.ownsRow B E 1 (.slice y (x.2.2 + 40) c) (x.2.2 + 40) (List.replicate x.2.2 (m1 k) ++ List.replicate 40 (m2 k)) ∧
    ∀ (k' : Nat) (x' : Rw), k' ≠ k → L[k']? = some x' → (Value.slice y (x.2.2 + 40) c).ownBlock = none ∨ (Value.slice y (x.2.2 + 40) c).ownBlock ≠ x'.val.ownBlock
structure Got (B : Nat) (w wr : World) (L : List Rw) (Q qo G i : Nat) (gv : List Value) : Prop where
  marked : Marked B wr L
  row : wr.ownsRow B 22 1 (.slice (some ⟨G, 0, none⟩) L.length L.length) L.length gv
  full : ∀ (k : Nat) (x : Rw), k < i → L[k]? = some x → ∃ v, gv[k]? = some v ∧ Full B wr L k x v
  sit : Sit wr Q qo L
  below : Fr L w wr
def Rel3 (B : Nat) (w : World) (L : List Rw) (Q qo G : Nat) (v6 : Value) (wr : World) : Prop :=
  ∃ (i : Nat) (gv : List Value), i ≤ L.length ∧ v6 = .int .i64 (i : Int) ∧ Got B w wr L Q qo G i gv
/-- The list that is being grown: in its own old block, or in one made since H. -/
def Rel4 (B : Nat) (w : World) (L : List Rw) (Q qo G i H : Nat) (x : Rw) (gv : List Value) (v7 v8 : Value) (wr : World) : Prop :=
  ∃ (j : Nat) (y : Option Addr) (c : Nat), j ≤ 40 ∧ v8 = .int .i64 (j : Int) ∧ v7 = .slice y (x.2.2 + j) c ∧ wr.ownsRow B E 1 (.slice y (x.2.2 + j) c) (x.2.2 + j) (List.replicate x.2.2 (m1 i) ++ List.replicate j (m2 i)) ∧
    ((Value.slice y (x.2.2 + j) c).ownBlock = x.val.ownBlock ∨ ∃ b, (Value.slice y (x.2.2 + j) c).ownBlock = some b ∧ H ≤ b) ∧ H ≤ wr.heap.size ∧ Got B w wr L Q qo G i gv

/-- What was there before H, and is of no list i, stays. -/
structure Old (L : List Rw) (Q G i H : Nat) (x : Rw) (gv : List Value) : Prop where
  lists : ∀ (k : Nat) (z : Rw), L[k]? = some z → z.val.ownBlock = none ∨ ∃ b, z.val.ownBlock = some b ∧ b < H
  apart : ∀ (k : Nat) (z : Rw), k ≠ i → L[k]? = some z → z.val.ownBlock = none ∨ z.val.ownBlock ≠ x.val.ownBlock
  grown : ∀ (k : Nat) (v : Value), k < i → gv[k]? = some v → (v.ownBlock = none ∨ ∃ b, v.ownBlock = some b ∧ b < H) ∧ (v.ownBlock = none ∨ v.ownBlock ≠ x.val.ownBlock)
  g : G < H
  q : Q < H
  xq : x.val.ownBlock ≠ some Q
  xg : x.val.ownBlock ≠ some G
theorem Full.kept {B : Nat} {w w' : World} {L : List Rw} {k : Nat} {x : Rw} {v : Value} (h : Full B w L k x v) {row : Option Nat} (hg : w.grownBy w' row) (hne : v.ownBlock = none ∨ v.ownBlock ≠ row) : Full B w' L k x v := by
  obtain ⟨y, c, rfl, ho, ha⟩ := h
  exact ⟨y, c, rfl, ho.kept hg hne, ha⟩
/-- an alien block is written, or none -/
theorem Got.kept {B : Nat} {w wr w' : World} {L : List Rw} {Q qo G i : Nat} {gv : List Value} (h : Got B w wr L Q qo G i gv) {row : Option Nat} (hg : wr.grownBy w' row)
    (h1 : ∀ (k : Nat) (z : Rw), L[k]? = some z → z.val.ownBlock = none ∨ z.val.ownBlock ≠ row) (h2 : ∀ (k : Nat) (v : Value), k < i → gv[k]? = some v → v.ownBlock = none ∨ v.ownBlock ≠ row) (h3 : row ≠ some G) (h4 : row ≠ some Q) (h5 : ∀ k, row = some k → (∃ (i : Nat) (x : Rw), L[i]? = some x ∧ x.val.ownBlock = some k) ∨ w.heap.size ≤ k) : Got B w w' L Q qo G i gv :=
  ⟨fun k z hz => (h.marked k z hz).kept hg (h1 k z hz), h.row.kept hg (Or.inr (by simpa [Value.ownBlock] using fun e => h3 e.symm)), fun k z hk hz => by
    obtain ⟨v, hv, hf⟩ := h.full k z hk hz
    exact ⟨v, hv, hf.kept hg (h2 k v hk hv)⟩, h.sit.kept hg h4, h.below.step hg h5⟩
/-- nothing old is written -/
theorem Got.fresh {B : Nat} {w wr w' : World} {L : List Rw} {Q qo G i : Nat} {gv : List Value} (h : Got B w wr L Q qo G i gv) (hg : wr.grownBy w' none) : Got B w w' L Q qo G i gv :=
  h.kept hg (fun k z hz => by
    rcases below_lt (h.marked k z hz) with h1 | ⟨b, h1, _⟩
    · exact Or.inl h1
    · exact Or.inr (by rw [h1]; simp)) (fun k v hk hv => by
    cases hb : v.ownBlock with
    | none => exact Or.inl rfl
    | some b => exact Or.inr (by simp)) (by simp) (by simp) (fun k hk => by cases hk)
/-- the list that grows is written within its room -/
theorem Got.room {B : Nat} {w wr w' : World} {L : List Rw} {Q qo G i H : Nat} {x : Rw} {gv : List Value} (hO : Old L Q G i H x gv) (hx : L[i]? = some x) (h : Got B w wr L Q qo G i gv) (hH : w.heap.size ≤ H) {y n c : Nat} (hcase : some y = x.val.ownBlock ∨ H ≤ y)
    (hg : wr.grownBy w' (some y)) {ys : List Value} (hn : x.2.2 ≤ n) (hold : wr.ownsRow B E 1 (.slice (some ⟨y, 0, none⟩) n c) n ys) {ys' : List Value} (hnew : w'.ownsRow B E 1 (.slice (some ⟨y, 0, none⟩) (n + 1) c) (n + 1) (List.replicate x.2.2 (m1 i) ++ ys')) : Got B w w' L Q qo G i gv := by
  have hL : ∀ (k : Nat) (z : Rw), k ≠ i → L[k]? = some z → z.val.ownBlock = none ∨ z.val.ownBlock ≠ some y := fun k z hk hz => by
    rcases hcase with e | e
    · rw [e]; exact hO.apart k z hk hz
    · rcases hO.lists k z hz with h1 | ⟨b, h1, h2⟩
      · exact Or.inl h1
      · exact Or.inr (by rw [h1]; simp; omega)
  have hm : Marked B w' L := fun k z hz => by
    by_cases hk : k = i
    · subst hk
      rw [hx] at hz
      obtain rfl := Option.some.inj hz
      by_cases he : x.val.ownBlock = some y
      · have hmi := h.marked k x hx
        unfold Rw.val at hmi he ⊢
        rcases shape hmi with ⟨h1, _⟩ | ⟨g, h1, _⟩
        · rw [h1] at he; simp [Value.ownBlock] at he
        · rw [h1] at he hmi ⊢
          obtain rfl : g = y := by simpa [Value.ownBlock] using he
          obtain rfl := same_cap hmi hold
          have hp := prefix_own hnew (k := x.2.2) (by omega)
          rwa [List.take_left' (by simp)] at hp
      · exact (h.marked k x hx).kept hg (Or.inr he)
    · exact (h.marked k z hz).kept hg (hL k z hk hz)
  refine ⟨hm, h.row.kept hg (Or.inr ?_), fun k z hk hz => ?_, h.sit.kept hg ?_, h.below.step hg (fun k hk => by
    obtain rfl : y = k := Option.some.inj hk
    rcases hcase with e | e
    · exact Or.inl ⟨i, x, hx, e.symm⟩
    · exact Or.inr (Nat.le_trans hH e))⟩
  · have : (Value.slice (some ⟨G, 0, none⟩) L.length L.length).ownBlock = some G := rfl
    rw [this]
    rcases hcase with e | e
    · rw [e]; exact fun h => hO.xg h.symm
    · have := hO.g; simp; omega
  · obtain ⟨v, hv, hf⟩ := h.full k z hk hz
    obtain ⟨h1, h2⟩ := hO.grown k v hk hv
    refine ⟨v, hv, hf.kept hg ?_⟩
    rcases hcase with e | e
    · rw [e]; exact h2
    · rcases h1 with h1 | ⟨b, h1, h3⟩
      · exact Or.inl h1
      · exact Or.inr (by rw [h1]; simp; omega)
  · rcases hcase with e | e
    · rw [e]; exact hO.xq
    · have := hO.q; simp; omega
theorem cell_new (w : World) (v : Value) (t : TypeId) : ∀ j u, [v][j]? = some u → (w.alloc (.cells #[v] t)).cell? ((⟨w.heap.size, 0, none⟩ : Addr).add j) = some u := by
  intro j u hj
  match j, hj with
  | 0, hj => simp at hj; subst hj; simp [Addr.add]
theorem make_rows (n : Nat) (hn : n ≤ 1000000) (w : World) :
    (Instr.makeSlice 56 (.int .i64 (n : Int)) (.int .i64 (n : Int))).run Tryd.prog w = .ok (.slice (some ⟨w.heap.size, 0, none⟩) n n) (w.alloc (.cells (madeCells #[.slice none 0 0] n) 22)) := by
  obtain ⟨i0, hi, hz0, hz1, hz2⟩ := info_parts infoS
  have h := run_make (P := Tryd.prog) w 56 22 i0 (.slice none 0 0) Tryd.underlying56 hi hz0 .i64 .i64 n n (by omega) (by omega) (by rw [hz2]; omega) (by omega)
  rw [hz1] at h
  simpa [Value.cells] using h
theorem rows_made (B : Nat) (w : World) (n : Nat) (hB : B ≤ w.heap.size) (hn : n ≤ 1000000) : (w.alloc (.cells (madeCells #[.slice none 0 0] n) 22)).ownsRow B 22 1 (.slice (some ⟨w.heap.size, 0, none⟩) n n) n (List.replicate n (.slice none 0 0)) := by
  refine ⟨by simp, Or.inr ⟨w.heap.size, n, madeCells #[.slice none 0 0] n, rfl, hB, ?_, Nat.le_refl _, by unfold maxLen; omega, by rw [size_madeCells, Nat.mul_one], ?_⟩⟩
  · show (w.heap.push _)[w.heap.size]? = _
    simp
  · rw [Nat.mul_one, toList_madeCells_one, List.take_of_length_le (by simp)]

def TruePost (L : List Rw) (w : World) (e : Ending) (w' : World) : Prop := e = .returned (.bool true) ∧ Fr L w w'
end Go.Proofs.YtmienemnjikgdaaDoor.apartI
end
section
namespace Go.Proofs.YtmienemnjikgdaaDoor.apartI
open Go.RowKit

set_option maxRecDepth 100000 in
set_option maxHeartbeats 8000000 in
theorem apart_any (B : Nat) (L : List Rw) (Q qo cap : Nat) (w : World) (hB : B ≤ w.heap.size) (hP : Parts L Q) (C0 : Nat → List Value) (hO : OwnAll B w L C0) (hS : Sit w Q qo L) (hl : L.length ≤ 1000) (hlen : ∀ x ∈ L, x.2.2 ≤ 100000) (hc : L.length ≤ cap) (hcm : cap ≤ 9223372036854775807) :
    Calls Tryd.prog 28 #[.slice (some ⟨Q, qo, none⟩) L.length cap] w (TruePost L w) := by
  obtain ⟨i0, hi, hz0, hz1, hz2⟩ := info_parts infoE
  have hmk := make_rows L.length (by omega)
  have HP := Lib.hid (And.intro hP (And.intro hO (And.intro hS hlen)))
  have hQ := hS.lt
  clear hP hO hS hlen
  go_enter Tryd.func28, Tryd.ntmps28
  go_wp2_with fail
  go_loopw [3] (fun v3 wr => Rel1 B w L Q qo v3 wr) (fun v _ => L.length - (intOf v).toNat)
  case atStart => exact ⟨0, C0, Nat.zero_le _, rfl, HP.out.2.1, fun k x hk => absurd hk (Nat.not_lt_zero k), HP.out.2.2.1, Fr.refl _ _⟩
  case round =>
    obtain ⟨i, C, hin, rfl, hO, hD, hS, hb⟩ := hrel
    have HR := Lib.hid (And.intro hO (And.intro hD (And.intro hS hb)))
    obtain ⟨wo, rfl⟩ : ∃ wo : World, wo = wr := ⟨_, rfl⟩
    by_cases hlt : i < L.length
    · obtain ⟨x, hx⟩ : ∃ x, L[i]? = some x := ⟨_, List.getElem?_eq_getElem hlt⟩
      have hxm : x ∈ L := List.mem_of_getElem? hx
      have hxl := HP.out.2.2.2 x hxm
      obtain ⟨xa, xc, xn⟩ := x
      replace hxl : xn ≤ 100000 := hxl
      have HX := Lib.hid hx
      clear hO hD hS hb hx hxm hmk
      go_wp2_with fail
      go_loopw [4] (fun v4 wr => Rel2 B w L Q qo i xn v4 wr) (fun v _ => xn - (intOf v).toNat)
      case atStart => exact ⟨0, C, Nat.zero_le _, rfl, HR.out.1, HR.out.2.1, rfl, HR.out.2.2.1, HR.out.2.2.2⟩
      case round =>
        obtain ⟨j, C, hj, rfl, hO, hD, hT, hS, hb⟩ := hrel
        have hcell : wr.cell? ⟨Q, qo + i, none⟩ = some (.slice xa xn xc) := hS.cell i _ HX.out
        have hown : wr.ownsRow B E 1 (.slice xa xn xc) xn (C i) := hO i _ HX.out
        have HI := Lib.hid (And.intro hO (And.intro hD (And.intro hT (And.intro hS hb))))
        by_cases hjl : j < xn
        · rcases shape hown with ⟨_, h0, _⟩ | ⟨g, rfl, hgB, hgl, hnc, hcmx, hCl, hcells, hfz⟩
          · omega
          obtain ⟨v0, hv0⟩ : ∃ v0, (C i)[j]? = some v0 := ⟨_, List.getElem?_eq_getElem (by omega)⟩
          have hcj : wr.cell? ⟨g, j, none⟩ = some v0 := (hcells j hjl).trans hv0
          have hfj := hfz j
          have hmod : i ≤ 1000 := by omega
          obtain ⟨s1, s2⟩ := hO.store HP.out.1 HX.out rfl j (m1 i)
          have hgQ : (some g : Option Nat) ≠ some Q := HP.out.1.q i _ HX.out
          have hT2 : ((C i).set j (m1 i)).take (j + 1) = List.replicate (j + 1) (m1 i) := by
            rw [set_take (by omega), hT, ← List.replicate_succ']
          have HN := Lib.hid (And.intro s1 (And.intro hT2 (And.intro (hS.kept s2 hgQ) (hb.step s2 (fun k hk => Or.inl ⟨i, _, HX.out, hk⟩)))))
          clear hO hD hT hS hb hown hcells hfz hv0 s1 s2 hgQ hT2 hCl
          go_wp2_with fail
          go_roundw
          case rel =>
            refine ⟨j + 1, _, by omega, by go_num, HN.out.1, fun k y hk hy => ?_, ?_, HN.out.2.2.1, HN.out.2.2.2⟩
            · simp only [if_neg (Nat.ne_of_lt hk)]
              exact HI.out.2.1 k y hk hy
            · simp only [if_true]
              exact HN.out.2.1
          case measure => simp [intOf]; omega
        · obtain rfl : j = xn := by omega
          have hCi : C i = List.replicate j (m1 i) := by
            have h1 : (C i).length = j := by rw [hown.1, Nat.mul_one]
            rw [← hT, List.take_of_length_le (by omega)]
          have HC := Lib.hid hCi
          clear hO hD hT hS hb hown hCi
          go_wp2_with fail
          go_roundw
          case rel =>
            refine ⟨i + 1, C, by omega, by go_num, HI.out.1, fun k y hk hy => ?_, HI.out.2.2.2.1, HI.out.2.2.2.2⟩
            rcases Nat.lt_or_ge k i with h | h
            · exact HI.out.2.1 k y h hy
            · obtain rfl : k = i := by omega
              rw [HX.out] at hy
              obtain rfl := Option.some.inj hy
              exact HC.out
          case measure => simp [intOf]; omega
    · obtain rfl : i = L.length := by omega
      have hM : Marked B wo L := fun k x hx => by
        have h := hO k x hx
        have hk : k < L.length := (List.getElem?_eq_some_iff.1 hx).1
        rwa [hD k x hk hx] at h
      have hwB : B ≤ wo.heap.size := Nat.le_trans hB hb.size
      have hrow := rows_made B wo L.length hwB (by omega)
      have hMa : Marked B (wo.alloc (.cells (madeCells #[.slice none 0 0] L.length) 22)) L := fun k x hx => (hM k x hx).alloc _
      have hG : Got B w (wo.alloc (.cells (madeCells #[.slice none 0 0] L.length) 22)) L Q qo wo.heap.size 0 (List.replicate L.length (.slice none 0 0)) :=
        ⟨hMa, hrow, fun k x hk => absurd hk (Nat.not_lt_zero k), hS.kept (World.grownBy_alloc wo _ none) (by simp), hb.step (World.grownBy_alloc wo _ none) (fun k hk => by cases hk)⟩
      obtain ⟨G, hGs⟩ : ∃ G, wo.heap.size = G := ⟨_, rfl⟩
      rw [hGs] at hG
      have hQG : Q < G := by rw [← hGs]; exact hS.lt
      have hBG : B ≤ G := by omega
      have hwG : w.heap.size ≤ G := by have := hb.size; omega
      have HGs := Lib.hid hGs
      have HLG := Lib.hid (show ∀ (k : Nat) (z : Rw), L[k]? = some z → z.val.ownBlock = none ∨ ∃ b, z.val.ownBlock = some b ∧ b < G from fun k z hz => by
        rcases below_lt (hM k z hz) with h | ⟨b, h1, _, h2⟩
        · exact Or.inl h
        · exact Or.inr ⟨b, h1, by omega⟩)
      have HG := Lib.hid hG
      clear hO hD hS hb hM hrow hMa hG hlt HR
      go_wp2_with fail
      clear hmk hGs
      go_loopw [6] (fun v6 wr => Rel3 B w L Q qo G v6 wr) (fun v _ => L.length - (intOf v).toNat)
      case atStart => exact ⟨0, _, Nat.zero_le _, rfl, HG.out⟩
      case round =>
        obtain ⟨i, gv, hin, rfl, hG⟩ := hrel
        obtain ⟨wp, rfl⟩ : ∃ wp : World, wp = wr := ⟨_, rfl⟩
        have hwB : B ≤ wp.heap.size := Nat.le_trans hB hG.below.size
        have hgl : gv.length = L.length := by have := hG.row.1; omega
        have HGG := Lib.hid hG
        have hGw : G < wp.heap.size := by rcases shape hG.row with ⟨h, _⟩ | ⟨g, h, _, h2, _⟩
                                          · cases h
                                          · obtain rfl : G = g := by simpa using h
                                            exact h2
        by_cases hlt : i < L.length
        · obtain ⟨x, hx⟩ : ∃ x, L[i]? = some x := ⟨_, List.getElem?_eq_getElem hlt⟩
          have hxl := HP.out.2.2.2 x (List.mem_of_getElem? hx)
          have hcell := hG.sit.cell i x hx
          have hmx := hG.marked i x hx
          have hOld : Old L Q G i wp.heap.size x gv := ⟨fun k z hz => by
              rcases HLG.out k z hz with h | ⟨b, h1, h2⟩
              · exact Or.inl h
              · exact Or.inr ⟨b, h1, by omega⟩, fun k z hk hz => HP.out.1.two k i z x hz hx hk, fun k v hk hv => by
              obtain ⟨z, hz⟩ : ∃ z, L[k]? = some z := ⟨_, List.getElem?_eq_getElem (by omega)⟩
              obtain ⟨v', hv', y, c, rfl, ho, ha⟩ := hG.full k z hk hz
              rw [hv] at hv'
              obtain rfl := Option.some.inj hv'
              refine ⟨?_, ha i x (by omega) hx⟩
              rcases below_lt ho with h | ⟨b, h1, _, h2⟩
              · exact Or.inl h
              · exact Or.inr ⟨b, h1, h2⟩, hGw, by omega, HP.out.1.q i x hx, by
              rcases HLG.out i x hx with h | ⟨b, h1, h2⟩
              · rw [h]; simp
              · rw [h1]; simp; omega⟩
          obtain ⟨xa, xc, xn⟩ := x
          replace hxl : xn ≤ 100000 := hxl
          replace hcell : wp.cell? ⟨Q, qo + i, none⟩ = some (.slice xa xn xc) := hcell
          replace hmx : wp.ownsRow B E 1 (.slice xa xn xc) xn (List.replicate xn (m1 i)) := hmx
          have HX := Lib.hid (And.intro hx (And.intro hOld hmx))
          obtain ⟨H, hH⟩ : ∃ H, wp.heap.size = H := ⟨_, rfl⟩
          have HH := Lib.hid hH
          have hHG : G < H := by omega
          have hHW : w.heap.size ≤ H := by have := HGG.out.below.size; omega
          clear hx hOld hmx hG hGw hH
          go_wp2_with fail
          go_loopw [7, 8] (fun v7 v8 wr => Rel4 B w L Q qo G i H (xa, xc, xn) gv v7 v8 wr) (fun _ v _ => 40 - (intOf v).toNat)
          case atStart =>
            refine ⟨0, xa, xc, by omega, rfl, rfl, ?_, Or.inl rfl, by rw [HH.out]; exact Nat.le_refl _, HGG.out⟩
            rw [List.replicate_zero, List.append_nil]
            exact HX.out.2.2
          case round =>
            obtain ⟨j, y, c, hj, rfl, rfl, ho, hcase, hHw, hG⟩ := hrel
            replace ho : wr.ownsRow B E 1 (.slice y (xn + j) c) (xn + j) (List.replicate xn (m1 i) ++ List.replicate j (m2 i)) := ho
            have hwB : B ≤ wr.heap.size := Nat.le_trans hB hG.below.size
            have HI := Lib.hid (And.intro ho (And.intro hcase hG))
            have hOl : Old L Q G i H (xa, xc, xn) gv := by have := HX.out.2.1; rwa [HH.out] at this
            have HO := Lib.hid hOl
            have hxlen : (List.replicate xn (m1 i) ++ List.replicate j (m2 i)).length = xn + j := by simp
            have HXL := Lib.hid hxlen
            clear hOl hxlen
            by_cases hj40 : j < 40
            · have hmod : i ≤ 1000 := by omega
              rcases shape ho with ⟨hy0, h00, hc0, hxs0⟩ | ⟨g, rfl, hgB, hgl2, hnc, hcmx, hCl, hcells, hfz⟩
              · -- a nil list: it grows
                subst hy0 hc0
                have hxn0 : xn = 0 := by omega
                have hj0 : j = 0 := by omega
                subst hxn0 hj0
                clear hcase hG hxs0 h00
                go_wp2_with (at_builtin; refine wpList_append_grows _ rfl _ _ 22 rfl E i0 (.int .i64 0) 1 8 Tryd.underlying22 hi hz0 hz1 hz2 rfl (by decide) none 0 0 [] rfl ?g0 ?g1 ?g2 ⟨wr.heap.size, 0, none⟩ 1 1 [m2 i] rfl rfl (cell_new _ _ _) ?g3 (by omega) ?g4 ?g5 ?_)
                case g3 => first | rfl | (intro u hu; simp at hu; subst hu; rfl)
                case g4 => unfold maxLen; omega
                intro v' w6 hown' hgrow
                have hG6 := (HI.out.2.2.fresh (World.grownBy_alloc wr _ none)).fresh hgrow
                have hfr : ∃ y' c', v' = .slice y' 1 c' ∧ ∃ b, v'.ownBlock = some b ∧ H ≤ b := by
                  obtain ⟨hx1, h | ⟨g', cap', cur, hv, hg', _⟩⟩ := hown'
                  · omega
                  · exact ⟨_, _, hv, g', by rw [hv]; rfl, by first | omega | (simp at hg'; omega)⟩
                obtain ⟨y', c', rfl, hfr⟩ := hfr
                have hown2 : w6.ownsRow B E 1 (.slice y' 1 c') 1 [m2 i] := by
                  obtain ⟨hx1, h | ⟨g', cap', cur, hv, hg', r⟩⟩ := hown'
                  · omega
                  · exact ⟨hx1, Or.inr ⟨g', cap', cur, hv, by first | omega | (simp at hg'; omega), r⟩⟩
                have HF := Lib.hid (And.intro hown2 (And.intro hfr (And.intro hG6 (show H ≤ w6.heap.size by have := hgrow.size; simp at this; omega))))
                clear hown' hgrow hG6 hfr hown2 ho
                go_wp2_with fail
                go_roundw
                case rel => exact ⟨1, y', c', by omega, by go_num, rfl, HF.out.1, Or.inr HF.out.2.1, HF.out.2.2.2, HF.out.2.2.1⟩
                case measure => simp [intOf]
              · have hyc : some g = (Rw.val (xa, xc, xn)).ownBlock ∨ H ≤ g := by
                  rcases hcase with h | ⟨b, h1, h2⟩
                  · exact Or.inl h
                  · right
                    have : g = b := by simpa [Value.ownBlock] using h1
                    omega
                have HY := Lib.hid hyc
                clear hcase hG hyc hfz
                by_cases hroom : xn + j + 1 ≤ c
                · clear hcells
                  go_wp2_with (at_builtin; refine wpList_append_own_spare _ rfl _ _ 22 rfl B E i0 1 Tryd.underlying22 hi hz1 g (xn + j) c _ rfl (ho.alloc _) ⟨wr.heap.size, 0, none⟩ 1 1 [m2 i] rfl rfl (cell_new _ _ _) ?e2 (by omega) ?_)
                  case e2 => first | rfl | (intro u hu; simp at hu; subst hu; rfl)
                  intro w6 hown' hgrow
                  try rw [List.append_assoc] at hown'
                  rw [← List.replicate_succ'] at hown'
                  have hGa := HI.out.2.2.fresh (World.grownBy_alloc wr (.cells #[m2 i] E) none)
                  have hG6 := hGa.room HO.out HX.out.1 hHW HY.out hgrow (by show xn ≤ xn + j; omega) (ho.alloc _) hown'
                  have HF := Lib.hid (And.intro hown' (And.intro hG6 (show H ≤ w6.heap.size by have := hgrow.size; simp at this; omega)))
                  clear hown' hgrow hG6 hGa ho
                  go_wp2_with fail
                  go_roundw
                  case rel =>
                    refine ⟨j + 1, some ⟨g, 0, none⟩, c, by omega, by go_num, rfl, HF.out.1, ?_, HF.out.2.2, HF.out.2.1⟩
                    rcases HY.out with h | h
                    · exact Or.inl h
                    · exact Or.inr ⟨g, rfl, h⟩
                  case measure => simp [intOf]; omega
                · clear hcells hCl
                  have HOLD := Lib.hid ((ho.alloc (.cells #[m2 i] E)).cells (g := g) rfl)
                  go_wp2_with (at_builtin; refine wpList_append_grows _ rfl _ _ 22 rfl E i0 (.int .i64 0) 1 8 Tryd.underlying22 hi hz0 hz1 hz2 rfl (by decide) (some ⟨g, 0, none⟩) (xn + j) c (List.replicate xn (m1 i) ++ List.replicate j (m2 i)) rfl ?h0 ?h1 (fun b hb => by cases hb; exact HOLD.out) ⟨wr.heap.size, 0, none⟩ 1 1 [m2 i] rfl rfl (cell_new _ _ _) ?h3 (by omega) ?h4 ?h5 ?_)
                  case h3 => first | rfl | (intro u hu; simp at hu; subst hu; rfl)
                  case h4 => unfold maxLen; omega
                  case h5 => omega
                  intro v' w6 hown' hgrow
                  try rw [List.append_assoc] at hown'
                  rw [← List.replicate_succ'] at hown'
                  have hG6 := (HI.out.2.2.fresh (World.grownBy_alloc wr _ none)).fresh hgrow
                  have hfr : ∃ y' c', v' = .slice y' (xn + j + 1) c' ∧ (∃ b, v'.ownBlock = some b ∧ H ≤ b) ∧ w6.ownsRow B E 1 (.slice y' (xn + j + 1) c') (xn + j + 1) (List.replicate xn (m1 i) ++ List.replicate (j + 1) (m2 i)) := by
                    obtain ⟨hx1, h | ⟨g', cap', cur, hv, hg', r⟩⟩ := hown'
                    · omega
                    · subst hv
                      exact ⟨_, _, rfl, ⟨g', rfl, by first | omega | (simp at hg'; omega)⟩, hx1, Or.inr ⟨g', cap', cur, rfl, by first | omega | (simp at hg'; omega), r⟩⟩
                  obtain ⟨y', c', rfl, hfr, hown2⟩ := hfr
                  have HF := Lib.hid (And.intro hown2 (And.intro hfr (And.intro hG6 (show H ≤ w6.heap.size by have := hgrow.size; simp at this; omega))))
                  clear hown' hgrow hG6 hfr hown2 ho
                  go_wp2_with fail
                  go_roundw
                  case rel => exact ⟨j + 1, y', c', by omega, by go_num, rfl, HF.out.1, Or.inr HF.out.2.1, HF.out.2.2.2, HF.out.2.2.1⟩
                  case measure => simp [intOf]; omega
            · obtain rfl : j = 40 := by omega
              have hgl2 : gv.length = L.length := hgl
              obtain ⟨v0, hv0⟩ : ∃ v0, gv[i]? = some v0 := ⟨_, List.getElem?_eq_getElem (by omega)⟩
              have hcg : wr.cell? ⟨G, i, none⟩ = some v0 := (hG.row.cellAt i (by omega)).trans hv0
              have hfg : wr.frozen? ⟨G, i, none⟩ = false := hG.row.frozenAt i
              obtain ⟨s1, s2⟩ := hG.row.stored i (.slice y (xn + 40) c)
              have hEG : ∀ {b n : Nat} {v : Value} {xs : List Value}, wr.ownsRow b E 1 v n xs → v.ownBlock = none ∨ v.ownBlock ≠ some G := fun {b n v xs} h => other_type h hG.row (by decide)
              have hBo : y = none ∨ ∃ b, (Value.slice y (xn + 40) c).ownBlock = some b := by
                cases y with
                | none => exact Or.inl rfl
                | some a => exact Or.inr ⟨_, rfl⟩
              have hnew : Got B w (wr.setCell ⟨G, i, none⟩ (.slice y (xn + 40) c)) L Q qo G (i + 1) (gv.set i (.slice y (xn + 40) c)) := by
                refine ⟨fun k z hz => (hG.marked k z hz).kept s2 (hEG (hG.marked k z hz)), s1, fun k z hk hz => ?_, hG.sit.kept s2 (by simp; omega), hG.below.step s2 (fun k hk => Or.inr (by have := Option.some.inj hk; omega))⟩
                by_cases hki : k = i
                · subst hki
                  have hz' : z = (xa, xc, xn) := Option.some.inj (hz.symm.trans HX.out.1)
                  subst hz'
                  refine ⟨_, List.getElem?_set_self (by omega), y, c, rfl, ho.kept s2 (hEG ho), fun k' x' hk' hx' => ?_⟩
                  rcases hcase with h | ⟨b, h1, h2⟩
                  · rw [h]
                    exact HP.out.1.two k k' _ x' HX.out.1 hx' (Ne.symm hk')
                  · right
                    rw [h1]
                    rcases HO.out.lists k' x' hx' with h3 | ⟨b', h3, h4⟩
                    · rw [h3]; simp
                    · rw [h3]; simp; omega
                · obtain ⟨v, hv, hf⟩ := hG.full k z (by omega) hz
                  refine ⟨v, by rw [List.getElem?_set_ne (Ne.symm hki)]; exact hv, hf.kept s2 ?_⟩
                  obtain ⟨y', c', rfl, ho', _⟩ := hf
                  exact hEG ho'
              have HN := Lib.hid hnew
              have hiL : i < L.length := (List.getElem?_eq_some_iff.1 HX.out.1).1
              clear hnew s1 s2 hEG hBo hv0 hG ho hcase
              go_wp2_with fail
              go_roundw
              case rel => exact ⟨i + 1, _, by omega, by go_num, HN.out⟩
              case measure => simp [intOf]; omega
        · obtain rfl : i = L.length := by omega
          have HF := Lib.hid hG
          clear hG hlt HGG
          go_wp2_with fail
          go_loop [9] (fun v => ∃ i : Nat, i ≤ L.length ∧ v = .int .i64 (i : Int)) (fun v => L.length - (intOf v).toNat)
          case atStart => exact ⟨0, Nat.zero_le _, rfl⟩
          case round =>
            obtain ⟨i, hi2, rfl⟩ := hrel
            by_cases hlt : i < L.length
            · obtain ⟨x, hx⟩ : ∃ x, L[i]? = some x := ⟨_, List.getElem?_eq_getElem hlt⟩
              have hxl := HP.out.2.2.2 x (List.mem_of_getElem? hx)
              have hcell := HF.out.sit.cell i x hx
              have hmx := HF.out.marked i x hx
              obtain ⟨v, hv, y, c, rfl, ho, _⟩ := HF.out.full i x hlt hx
              obtain ⟨xa, xc, xn⟩ := x
              replace hxl : xn ≤ 100000 := hxl
              replace hcell : wp.cell? ⟨Q, qo + i, none⟩ = some (.slice xa xn xc) := hcell
              replace hmx : wp.ownsRow B E 1 (.slice xa xn xc) xn (List.replicate xn (m1 i)) := hmx
              replace ho : wp.ownsRow B E 1 (.slice y (xn + 40) c) (xn + 40) (List.replicate xn (m1 i) ++ List.replicate 40 (m2 i)) := ho
              have hcg : wp.cell? ⟨G, i, none⟩ = some (.slice y (xn + 40) c) := (HF.out.row.cellAt i (by omega)).trans hv
              rcases shape ho with ⟨_, h0, _⟩ | ⟨g, rfl, hgB, hgl3, hnc, hcmx, hCl, hcells, _⟩
              · omega
              have HM := Lib.hid (And.intro hmx hcells)
              clear hx hv ho hmx hcells hCl
              go_wp2_with fail
              go_loop [11] (fun v => ∃ j : Nat, j ≤ xn + 40 ∧ v = .int .i64 (j : Int)) (fun v => xn + 40 - (intOf v).toNat)
              case atStart => exact ⟨0, Nat.zero_le _, rfl⟩
              case round =>
                obtain ⟨j, hj, rfl⟩ := hrel
                by_cases hjl : j < xn + 40
                · have hcj := HM.out.2 j hjl
                  have hmod : i ≤ 1000 := by omega
                  have hmod2 : i ≤ 1000 := by omega
                  by_cases hjn : j < xn
                  · rw [List.getElem?_append_left (by simpa using hjn), List.getElem?_replicate, if_pos hjn] at hcj
                    rcases shape HM.out.1 with ⟨_, h0, _⟩ | ⟨g2, rfl, _, _, hnc2, hcmx2, _, hcells2, _⟩
                    · omega
                    have hcj2 := hcells2 j hjn
                    rw [List.getElem?_replicate, if_pos hjn] at hcj2
                    unfold m1 at hcj hcj2
                    clear hcells2
                    go_wp2_with fail
                    go_round
                    case rel => exact ⟨j + 1, by omega, by go_num⟩
                    case measure => simp [intOf]; omega
                  · rw [List.getElem?_append_right (by simp; omega), List.getElem?_replicate, if_pos (by simp; omega)] at hcj
                    unfold m2 at hcj
                    go_wp2_with fail
                    go_round
                    case rel => exact ⟨j + 1, by omega, by go_num⟩
                    case measure => simp [intOf]; omega
                · obtain rfl : j = xn + 40 := by omega
                  go_wp2_with fail
                  go_round
                  case rel => exact ⟨i + 1, by omega, by go_num⟩
                  case measure => simp [intOf]; omega
            · obtain rfl : i = L.length := by omega
              go_wp2_with fail
              go_ret
              exact ⟨rfl, HF.out.below⟩
end Go.Proofs.YtmienemnjikgdaaDoor.apartI
end
section
namespace Go.Proofs.YtmienemnjikgdaaDoor
open Go.RowKit

/-- A list that was made: between two sizes of the heap lies its block. -/
abbrev MkI := Sl × Nat × Nat
/-- What a law knows on its way: the lent lists (below B), and the lists that were made (from B on), the newest first. -/
structure Kq (w wx : World) (B : Nat) (Ls : List (Nat × List Int)) (Lo : List MkI) : Prop where
  below : Below w.heap.size w wx
  lent : ∀ (i : Nat) (x : Nat × List Int), Ls[i]? = some x → LentI wx x.1 x.2 ∧ w.heap.size ≤ x.1 ∧ x.1 < B
  nd : ∀ (i j : Nat) (x y : Nat × List Int), Ls[i]? = some x → Ls[j]? = some y → i ≠ j → x.1 ≠ y.1
  base : B ≤ wx.heap.size
  low : w.heap.size ≤ B
  own : ∀ (i : Nat) (e : MkI), Lo[i]? = some e → IntO e.2.1 wx e.1.1 e.1.2.1 e.1.2.2 ∧ B ≤ e.2.1 ∧ (∀ k, (Sl.val e.1).ownBlock = some k → k < e.2.2) ∧ e.2.2 ≤ wx.heap.size
  apart : ∀ (i j : Nat) (e f : MkI), i < j → Lo[i]? = some e → Lo[j]? = some f → f.2.2 ≤ e.2.1
theorem Kq.next {w wx w' : World} {B : Nat} {Ls : List (Nat × List Int)} {Lo : List MkI} (K : Kq w wx B Ls Lo) (hb : Below wx.heap.size wx w') : Kq w w' B Ls Lo :=
  ⟨K.below.trans (hb.mono K.below.size), fun i x hx => ⟨(K.lent i x hx).1.below hb, (K.lent i x hx).2⟩, K.nd, Nat.le_trans K.base hb.size, K.low, fun i e he => by
    obtain ⟨h1, h2, h3, h4⟩ := K.own i e he
    exact ⟨h1.next hb, h2, h3, Nat.le_trans h4 hb.size⟩, K.apart⟩
theorem Kq.alloc {w wx : World} {B : Nat} {Ls : List (Nat × List Int)} {Lo : List MkI} (K : Kq w wx B Ls Lo) (o : Obj) : Kq w (wx.alloc o) B Ls Lo := K.next ((Below.refl _ _).alloc (Nat.le_refl _) _)
theorem IntO.lt {base : Nat} {w : World} {p : Option Addr} {c : Nat} {l : List Int} (h : IntO base w p c l) : ∀ k, (Sl.val (p, c, l)).ownBlock = some k → base ≤ k ∧ k < w.heap.size := fun k hk => World.ownsRow.lt h k hk
theorem Kq.push {w wx w' : World} {B : Nat} {Ls : List (Nat × List Int)} {Lo : List MkI} (K : Kq w wx B Ls Lo) (hb : Below wx.heap.size wx w') {p : Option Addr} {c : Nat} {l : List Int} (ho : IntO wx.heap.size w' p c l) : Kq w w' B Ls (((p, c, l), wx.heap.size, w'.heap.size) :: Lo) := by
  have K' := K.next hb
  refine ⟨K'.below, K'.lent, K'.nd, K'.base, K'.low, fun i e he => ?_, fun i j e f hij he hf => ?_⟩
  · cases i with
    | zero =>
      obtain rfl := Option.some.inj he
      exact ⟨ho, K.base, fun k hk => (ho.lt k hk).2, Nat.le_refl _⟩
    | succ i => exact K'.own i e he
  · cases j with
    | zero => omega
    | succ j =>
      cases i with
      | zero =>
        obtain rfl := Option.some.inj he
        exact (K.own j f hf).2.2.2
      | succ i => exact K'.apart i j e f (by omega) he hf
theorem Kq.get {w wx : World} {B : Nat} {Ls : List (Nat × List Int)} {Lo : List MkI} (K : Kq w wx B Ls Lo) (i : Nat) {p : Option Addr} {c lo hi : Nat} {l : List Int} (h : Lo[i]? = some ((p, c, l), lo, hi)) : IntV wx.heap.size wx p c l := (K.own i _ h).1.toV
theorem LentI.vn {w : World} {g m : Nat} {l : List Int} (h : LentI w g l) (hn : m = l.length + 2) (hl : l.length ≤ 17592186043904) : IntV w.heap.size w (some ⟨g, 0, none⟩) m l := by
  subst hn
  exact (LentI.own (base := 0) (Nat.zero_le _) hl h).toV
theorem Kq.old {w wx : World} {B : Nat} {Ls : List (Nat × List Int)} {Lo : List MkI} (K : Kq w wx B Ls Lo) {p : Option Addr} {c : Nat} {l : List Int} (h : IntV w.heap.size w p c l) : IntV wx.heap.size wx p c l := h.next K.below
/-- a lent list is written -/
theorem Kq.setx {w wx : World} {B : Nat} {Ls : List (Nat × List Int)} {Lo : List MkI} (K : Kq w wx B Ls Lo) (k g : Nat) (l : List Int) (hk : Ls[k]? = some (g, l)) (i : Nat) (v : Int) (hi : i < l.length) : Kq w (wx.setCell ⟨g, i, none⟩ (.int .i64 v)) B (Ls.set k (g, l.set i v)) Lo := by
  have hs : (wx.setCell ⟨g, i, none⟩ (.int .i64 v)).heap.size = wx.heap.size := by simp [World.setCell]
  have hg : wx.grownBy (wx.setCell ⟨g, i, none⟩ (.int .i64 v)) (some g) := ⟨rfl, rfl, rfl, by rw [hs]; exact Nat.le_refl _, fun k _ hne => Below.heap_setCell wx ⟨g, i, none⟩ _ k (fun e => hne (by rw [e]))⟩
  obtain ⟨hx, hx1, hx2⟩ := K.lent k _ hk
  have hset : ∀ (j : Nat) (x : Nat × List Int), (Ls.set k (g, l.set i v))[j]? = some x → (j = k ∧ x = (g, l.set i v)) ∨ (j ≠ k ∧ Ls[j]? = some x) := fun j x hj => by
    by_cases e : j = k
    · subst e
      rw [List.getElem?_set_self (List.getElem?_eq_some_iff.1 hk).1] at hj
      exact Or.inl ⟨rfl, (Option.some.inj hj).symm⟩
    · rw [List.getElem?_set_ne (Ne.symm e)] at hj
      exact Or.inr ⟨e, hj⟩
  refine ⟨K.below.setCell (p := ⟨g, i, none⟩) hx1 _, fun j x hj => ?_, fun j j' x y hj hj' hne => ?_, by rw [hs]; exact K.base, K.low, fun j e he => ?_, K.apart⟩
  · rcases hset j x hj with ⟨_, rfl⟩ | ⟨hne, hj⟩
    · refine ⟨?_, hx1, hx2⟩
      unfold LentI
      rw [heap_setCell_same _ g i _ _ _ hx]
      congr 2
      rw [← Array.toList_inj]
      simp only [Array.toList_setIfInBounds]
      rw [← cI_set, List.set_append_left _ _ hi]
    · obtain ⟨h1, h2, h3⟩ := K.lent j x hj
      have hxg : x.1 ≠ g := K.nd j k x _ hj hk hne
      exact ⟨h1.block (hg.block x.1 h1.lt (by simpa using hxg)), h2, h3⟩
  · rcases hset j x hj with ⟨a1, a2⟩ | ⟨a1, a2⟩
    · rcases hset j' y hj' with ⟨b1, b2⟩ | ⟨b1, b2⟩
      · exact absurd (a1.trans b1.symm) hne
      · rw [a2]
        exact K.nd k j' (g, l) y hk b2 (Ne.symm b1)
    · rcases hset j' y hj' with ⟨b1, b2⟩ | ⟨b1, b2⟩
      · rw [b2]
        exact K.nd j k x (g, l) a2 hk a1
      · exact K.nd j j' x y a2 b2 hne
  · obtain ⟨h1, h2, h3, h4⟩ := K.own j e he
    refine ⟨World.ownsRow.kept h1 hg ?_, h2, h3, by rw [hs]; exact h4⟩
    cases hb : (Sl.val e.1).ownBlock with
    | none => exact Or.inl hb
    | some z =>
      right
      have h5 := (IntO.lt h1 z hb).1
      have h7 : (Value.slice e.1.1 e.1.2.2.length e.1.2.1).ownBlock = some z := hb
      rw [h7]
      simp
      omega
def rwOf (Lo : List MkI) (i : Nat) : apartI.Rw := match Lo[i]? with
  | some e => (e.1.1, e.1.2.1, e.1.2.2.length)
  | none => (none, 0, 0)
theorem rwOf_some {Lo : List MkI} {i : Nat} {e : MkI} (h : Lo[i]? = some e) : rwOf Lo i = (e.1.1, e.1.2.1, e.1.2.2.length) := by unfold rwOf; rw [h]
theorem own_chooseI {B : Nat} {w : World} {L : List apartI.Rw} (h : ∀ (k : Nat) (x : apartI.Rw), L[k]? = some x → ∃ xs, w.ownsRow B apartI.E 1 x.val x.2.2 xs) : ∃ C, apartI.OwnAll B w L C := by
  have key : ∀ k : Nat, ∃ xs : List Value, ∀ x : apartI.Rw, L[k]? = some x → w.ownsRow B apartI.E 1 x.val x.2.2 xs := fun k => by
    cases hk : L[k]? with
    | none => exact ⟨[], fun x hx => by cases hx⟩
    | some y =>
      obtain ⟨xs, hxs⟩ := h k y hk
      exact ⟨xs, fun x hx => by obtain rfl := Option.some.inj hx; exact hxs⟩
  exact ⟨fun k => Classical.choose (key k), fun k x hx => Classical.choose_spec (key k) x hx⟩
theorem IntO.toV_of {base : Nat} {w w' : World} {p : Option Addr} {c : Nat} {l : List Int} (h : IntO base w p c l) (hs : w.heap.size ≤ w'.heap.size) (hb : ∀ z, base ≤ z → z < w.heap.size → (Sl.val (p, c, l)).ownBlock = some z → w'.heap[z]? = w.heap[z]?) : IntV w'.heap.size w' p c l := by
  have hv := h.toV
  refine ⟨hv.le, hv.cap, hv.nil, fun hn => ?_⟩
  rcases own_shape h with ⟨hv', h0, _⟩ | ⟨g, cap, hv', hg, hgl, hc, hm, hcl, _⟩
  · exact absurd (List.eq_nil_of_length_eq_zero h0) hn
  · obtain ⟨rfl, rfl⟩ : p = some ⟨g, 0, none⟩ ∧ c = cap := by simpa using hv'
    exact ⟨g, 0, rfl, by omega, fun j x hx => by rw [Nat.zero_add]; exact (World.cell?_of_block (hb g hg hgl rfl)).trans ((hcl j (ltI hx)).trans (cI_get hx))⟩
/-- what is left when lists were found apart: the lent ones, and the made ones that were not asked -/
def ApartPost (w : World) (Ls : List (Nat × List Int)) (Lo : List MkI) (Ks : List Nat) (e : Ending) (w' : World) : Prop :=
  e = .returned (.bool true) ∧ Below w.heap.size w w' ∧ (∀ (i : Nat) (x : Nat × List Int), Ls[i]? = some x → LentI w' x.1 x.2) ∧ ∀ (i : Nat) (f : MkI), Lo[i]? = some f → i ∉ Ks → IntV w'.heap.size w' f.1.1 f.1.2.1 f.1.2.2
theorem Kq.apart_call {w wx : World} {B : Nat} {Ls : List (Nat × List Int)} {Lo : List MkI} (K : Kq w wx B Ls Lo) (Ks : List Nat) (hK : Ks.Nodup) (cs : Array Value) (t : TypeId) (n : Nat) (hn : n = Ks.length) (hn2 : n ≤ 1000)
    (hall : ∀ (k i : Nat), Ks[k]? = some i → ∃ e : MkI, Lo[i]? = some e ∧ cs[k]? = some (Sl.val e.1) ∧ e.1.2.2.length ≤ 100000) :
    Calls Tryd.prog 28 #[.slice (some ⟨wx.heap.size, 0, none⟩) n n] (wx.alloc (.cells cs t)) (ApartPost w Ls Lo Ks) := by
  subst hn
  have hL : ∀ (k : Nat) (x : apartI.Rw), (Ks.map (rwOf Lo))[k]? = some x → ∃ (i : Nat) (e : MkI), Ks[k]? = some i ∧ Lo[i]? = some e ∧ x = (e.1.1, e.1.2.1, e.1.2.2.length) ∧ cs[k]? = some (Sl.val e.1) ∧ e.1.2.2.length ≤ 100000 := fun k x hx => by
    rw [List.getElem?_map] at hx
    obtain ⟨i, hi, rfl⟩ := Option.map_eq_some_iff.1 hx
    obtain ⟨e, he, hc, hl⟩ := hall k i hi
    exact ⟨i, e, hi, he, rwOf_some he, hc, hl⟩
  have hval : ∀ e : MkI, apartI.Rw.val (e.1.1, e.1.2.1, e.1.2.2.length) = Sl.val e.1 := fun e => rfl
  have key : ∀ (i : Nat) (e : MkI), Lo[i]? = some e → (Sl.val e.1).ownBlock = none ∨ ∃ z, (Sl.val e.1).ownBlock = some z ∧ e.2.1 ≤ z ∧ z < e.2.2 := fun i e he => by
    cases hb : (Sl.val e.1).ownBlock with
    | none => exact Or.inl rfl
    | some z => exact Or.inr ⟨z, rfl, (IntO.lt (K.own i e he).1 z hb).1, (K.own i e he).2.2.1 z hb⟩
  have hsz : wx.heap.size < (wx.alloc (.cells cs t)).heap.size := by simp
  have hP : apartI.Parts (Ks.map (rwOf Lo)) wx.heap.size := by
    refine ⟨fun k k' x x' hx hx' hne => ?_, fun k x hx => ?_⟩
    · obtain ⟨i, e, hi, he, rfl, _⟩ := hL k x hx
      obtain ⟨j, f, hj, hf, rfl, _⟩ := hL k' x' hx'
      have hij : i ≠ j := by
        rintro rfl
        obtain ⟨h1, h2⟩ := List.getElem?_eq_some_iff.1 hi
        obtain ⟨h3, h4⟩ := List.getElem?_eq_some_iff.1 hj
        have hp := List.pairwise_iff_getElem.1 hK
        rcases Nat.lt_or_gt_of_ne hne with h | h
        · exact hp k k' h1 h3 h (h2.trans h4.symm)
        · exact hp k' k h3 h1 h (h4.trans h2.symm)
      rw [hval, hval]
      rcases key i e he with h | ⟨z, h1, h2, h3⟩
      · exact Or.inl h
      · right
        rcases key j f hf with h | ⟨z', h4, h5, h6⟩
        · rw [h1, h]; intro e'; cases e'
        · intro e'
          rw [h1, h4] at e'
          have e3 := Option.some.inj e'
          rcases Nat.lt_or_gt_of_ne hij with h | h
          · have := K.apart i j e f h he hf; omega
          · have := K.apart j i f e h hf he; omega
    · obtain ⟨i, e, hi, he, rfl, _⟩ := hL k x hx
      rw [hval]
      intro e'
      have h1 := (K.own i e he).2.2.1 _ e'
      have h2 := (K.own i e he).2.2.2
      omega
  obtain ⟨C0, hC0⟩ := own_chooseI (B := B) (w := wx.alloc (.cells cs t)) (L := Ks.map (rwOf Lo)) (fun k x hx => by
    obtain ⟨i, e, _, he, rfl, _⟩ := hL k x hx
    obtain ⟨h1, h2, _, _⟩ := K.own i e he
    exact ⟨_, World.ownsRow.alloc (h1.base h2) _⟩)
  have hS : apartI.Sit (wx.alloc (.cells cs t)) wx.heap.size 0 (Ks.map (rwOf Lo)) := ⟨hsz, fun j x hx => by
    obtain ⟨i, e, _, he, rfl, hc, _⟩ := hL j x hx
    rw [Nat.zero_add, cell_alloc_row, hval, hc]⟩
  have hlen : ∀ x ∈ Ks.map (rwOf Lo), x.2.2 ≤ 100000 := fun x hx => by
    obtain ⟨k, hk⟩ := List.getElem?_of_mem hx
    obtain ⟨i, e, _, _, rfl, _, hl⟩ := hL k x hk
    exact hl
  have h := apartI.apart_any B (Ks.map (rwOf Lo)) wx.heap.size 0 Ks.length (wx.alloc (.cells cs t)) (Nat.le_trans K.base (Nat.le_of_lt hsz)) hP C0 hC0 hS (by rw [List.length_map]; exact hn2) hlen (by rw [List.length_map]; exact Nat.le_refl _) (by omega)
  rw [List.length_map] at h
  refine h.mono ?_
  rintro e w' ⟨rfl, hfr⟩
  have hblk : ∀ z, z < wx.heap.size → (∀ (k i : Nat) (e : MkI), Ks[k]? = some i → Lo[i]? = some e → (Sl.val e.1).ownBlock ≠ some z) → w'.heap[z]? = wx.heap[z]? := fun z hz hno => by
    rw [hfr.block z (Nat.lt_trans hz hsz) (fun k x hx => by
      obtain ⟨i, e, hi, he, rfl, _⟩ := hL k x hx
      rw [hval]
      exact hno k i e hi he)]
    exact Below.heap_alloc _ _ _ hz
  have hlow : ∀ z, z < B → w'.heap[z]? = wx.heap[z]? := fun z hz => hblk z (Nat.lt_of_lt_of_le hz K.base) (fun k i e _ he h => by
    have h1 := (IntO.lt (K.own i e he).1 z h).1
    have h2 := (K.own i e he).2.1
    omega)
  have hBl : ∀ z, z < w.heap.size → w'.heap[z]? = wx.heap[z]? := fun z hz => hlow z (Nat.lt_of_lt_of_le hz K.low)
  refine ⟨rfl, K.below.trans ⟨hfr.os, hfr.tape, hfr.output, by have := hfr.size; have := K.below.size; omega, fun k hk => hBl k hk⟩, fun i x hx => ?_, fun i f hf hni => ?_⟩
  · obtain ⟨h1, _, h3⟩ := K.lent i x hx
    exact h1.block (hlow x.1 h3)
  · obtain ⟨h1, h2, h3, h4⟩ := K.own i f hf
    refine IntO.toV_of h1 (by have := hfr.size; omega) (fun z hz1 hz2 hzo => hblk z hz2 (fun k j e hj he hze => ?_))
    have hij : i ≠ j := by rintro rfl; exact hni (List.mem_of_getElem? hj)
    have e1 := (IntO.lt (K.own j e he).1 z hze).1
    have e2 := (K.own j e he).2.2.1 z hze
    have e3 := h3 z hzo
    rcases Nat.lt_or_gt_of_ne hij with h | h
    · have := K.apart i j f e h hf he; omega
    · have := K.apart j i e f h he hf; omega
end Go.Proofs.YtmienemnjikgdaaDoor
end
section
namespace Go.Proofs.YtmienemnjikgdaaDoor
open Go.RowKit Go.Shelf Go.Extern.Stop Go.Stop Go.Extern WordM RuleM

theorem row_block {W : World} {base : Nat} {e : TypeId} {v : Value} {n : Nat} {xs : List Value} (h : W.ownsRow base e 1 v n xs) {b : Nat} (hb : v.ownBlock = some b) : base ≤ b ∧ ∃ cur, W.heap[b]? = some (.cells cur e (0, 0)) := by
  rcases h.2 with ⟨hv, _⟩ | ⟨g, cap, cur, hv, hg, hh, _⟩
  · rw [hv] at hb; cases hb
  · rw [hv] at hb
    obtain rfl : g = b := by simpa [Value.ownBlock] using hb
    exact ⟨hg, cur, hh⟩
theorem row_same {W W' : World} {base : Nat} {e : TypeId} {v : Value} {n : Nat} {xs : List Value} (h : W.ownsRow base e 1 v n xs) (hb : ∀ g, v.ownBlock = some g → W'.heap[g]? = W.heap[g]?) : W'.ownsRow base e 1 v n xs := by
  refine ⟨h.1, ?_⟩
  rcases h.2 with hn | ⟨g, cap, cur, hv, hg, hh, rest⟩
  · exact Or.inl hn
  · refine Or.inr ⟨g, cap, cur, hv, hg, ?_, rest⟩
    rw [hb g (by rw [hv]; rfl)]
    exact hh
/-- A list of own lists that the call owns: its row, and each of its lists between two sizes of the heap. -/
structure LstO (B : Nat) (W : World) (p : Option Addr) (c : Nat) (Es : List MkI) : Prop where
  row : W.ownsRow B 22 1 (.slice p Es.length c) Es.length (Es.map fun e => Sl.val e.1)
  own : ∀ (i : Nat) (e : MkI), Es[i]? = some e → IntO e.2.1 W e.1.1 e.1.2.1 e.1.2.2 ∧ B ≤ e.2.1 ∧ (∀ k, (Sl.val e.1).ownBlock = some k → k < e.2.2) ∧ e.2.2 ≤ W.heap.size
  apart : ∀ (i j : Nat) (e f : MkI), i < j → Es[i]? = some e → Es[j]? = some f → e.2.2 ≤ f.2.1
def lists (Es : List MkI) : List (List Int) := Es.map fun e => e.1.2.2
theorem lists_length (Es : List MkI) : (lists Es).length = Es.length := by simp [lists]
theorem LstO.kept {B : Nat} {W W' : World} {p : Option Addr} {c : Nat} {Es : List MkI} (h : LstO B W p c Es) (hs : W.heap.size ≤ W'.heap.size) (hr : ∀ g, (Value.slice p Es.length c).ownBlock = some g → W'.heap[g]? = W.heap[g]?) (he : ∀ (i : Nat) (e : MkI) (g : Nat), Es[i]? = some e → (Sl.val e.1).ownBlock = some g → W'.heap[g]? = W.heap[g]?) : LstO B W' p c Es :=
  ⟨row_same h.row hr, fun i e hi => by
    obtain ⟨h1, h2, h3, h4⟩ := h.own i e hi
    exact ⟨row_same h1 fun g hg => he i e g hi hg, h2, h3, Nat.le_trans h4 hs⟩, h.apart⟩
theorem LstO.nothing (B : Nat) (W : World) : LstO B W none 0 [] :=
  ⟨World.ownsRow_nil _ _ _ _, fun i e h => by simp at h, fun i j e f _ h => by simp at h⟩
/-- the search: its box, its list -/
structure SrchI (τ : TypeId) (B h : Nat) (K R : Int) (p q : Option Addr) (n c m d g m1 most : Nat) (W : World) (p6 : Option Addr) (c6 : Nat) (Es : List MkI) (more : Bool) : Prop where
  box : W.heap[h]? = some (.cells #[.int .i64 K, .int .i64 R, .slice p n c, .slice q m d, .slice (some ⟨g, 0, none⟩) m1 m1, .int .i64 (most : Int), .slice p6 Es.length c6, .bool more] τ (0, 0))
  lst : LstO B W p6 c6 Es
  low : B ≤ W.heap.size
/-- old memory stays but for one block -/
structure BelX (B h : Nat) (W W' : World) : Prop where
  os : W'.os = W.os
  tape : W'.tape = W.tape
  output : W'.output = W.output
  size : W.heap.size ≤ W'.heap.size
  block : ∀ k, k < B → k ≠ h → W'.heap[k]? = W.heap[k]?
theorem BelX.refl (B h : Nat) (W : World) : BelX B h W W := ⟨rfl, rfl, rfl, Nat.le_refl _, fun _ _ _ => rfl⟩
theorem BelX.trans {B h : Nat} {a b c : World} (h1 : BelX B h a b) (h2 : BelX B h b c) : BelX B h a c := ⟨h2.os.trans h1.os, h2.tape.trans h1.tape, h2.output.trans h1.output, Nat.le_trans h1.size h2.size, fun k hk hn => (h2.block k hk hn).trans (h1.block k hk hn)⟩
theorem BelX.of {B h N : Nat} {W W' : World} (hb : Below N W W') (hB : B ≤ N) : BelX B h W W' := ⟨hb.os, hb.tape, hb.output, hb.size, fun k hk _ => hb.block k (by omega)⟩
theorem BelX.to {B h N : Nat} {W W' : World} (hb : BelX B h W W') (hB : N ≤ B) (hh : N ≤ h) : Below N W W' := ⟨hb.os, hb.tape, hb.output, hb.size, fun k hk => hb.block k (by omega) (by omega)⟩
theorem BelX.set {B h : Nat} {W W' : World} (hb : BelX B h W W') (j : Nat) (v : Value) : BelX B h W (W'.setCell ⟨h, j, none⟩ v) := ⟨hb.os, hb.tape, hb.output, by rw [show (W'.setCell ⟨h, j, none⟩ v).heap.size = W'.heap.size by simp [World.setCell]]; exact hb.size, fun k hk hn => (Below.heap_setCell W' ⟨h, j, none⟩ v k hn).trans (hb.block k hk hn)⟩
theorem SrchI.facts {τ : TypeId} {B h : Nat} {K R : Int} {p q : Option Addr} {n c m d g m1 most : Nat} {W : World} {p6 : Option Addr} {c6 : Nat} {Es : List MkI} {more : Bool} (s : SrchI τ B h K R p q n c m d g m1 most W p6 c6 Es more) :
    (W.cell? ⟨h, 0, none⟩ = some (.int .i64 K) ∧ W.cell? ⟨h, 1, none⟩ = some (.int .i64 R) ∧ W.cell? ⟨h, 2, none⟩ = some (.slice p n c)) ∧ W.cell? ⟨h, 3, none⟩ = some (.slice q m d) ∧ W.cell? ⟨h, 4, none⟩ = some (.slice (some ⟨g, 0, none⟩) m1 m1) ∧ W.cell? ⟨h, 5, none⟩ = some (.int .i64 (most : Int)) ∧ W.cell? ⟨h, 6, none⟩ = some (.slice p6 Es.length c6) ∧ W.cell? ⟨h, 7, none⟩ = some (.bool more) ∧ W.frozen? ⟨h, 6, none⟩ = false ∧ W.frozen? ⟨h, 7, none⟩ = false :=
  ⟨⟨cell_of_row W h 0 _ _ _ s.box, cell_of_row W h 1 _ _ _ s.box, cell_of_row W h 2 _ _ _ s.box⟩, cell_of_row W h 3 _ _ _ s.box, cell_of_row W h 4 _ _ _ s.box, cell_of_row W h 5 _ _ _ s.box, cell_of_row W h 6 _ _ _ s.box, cell_of_row W h 7 _ _ _ s.box, frozen_block s.box, frozen_block s.box⟩
theorem ne_of_types {W : World} {a b : Nat} {ca cb : Array Value} {s t : TypeId} (ha : W.heap[a]? = some (.cells ca s (0, 0))) (hb : W.heap[b]? = some (.cells cb t (0, 0))) (hst : s ≠ t) : a ≠ b := by
  rintro rfl
  rw [ha] at hb
  injection hb with hb
  injection hb with _ h2 _
  exact hst h2
/-- what a step did, from W to W': by the words L that were found on its way -/
def ExtQ (τ : TypeId) (B h : Nat) (K R : Int) (p q : Option Addr) (n c m d g m1 most : Nat) (xb : Nat) (W : World) (p6 : Option Addr) (c6 : Nat) (Es : List MkI) (more : Bool) (L : List (List Int)) (W' : World) : Prop :=
  ∃ p6' c6' Es', SrchI τ B h K R p q n c m d g m1 most W' p6' c6' Es' (updB most (lists Es) L more) ∧ lists Es' = updL most (lists Es) L ∧ BelX B h W W' ∧
    (∀ b, b < W.heap.size → b ≠ h → b ≠ xb → (Value.slice p6 Es.length c6).ownBlock ≠ some b → W'.heap[b]? = W.heap[b]?) ∧
    (∀ (i : Nat) (e : MkI), Es'[i]? = some e → (∃ j : Nat, Es[j]? = some e) ∨ W.heap.size ≤ e.2.1) ∧
    ((Value.slice p6' Es'.length c6').ownBlock = (Value.slice p6 Es.length c6).ownBlock ∨ ∀ b, (Value.slice p6' Es'.length c6').ownBlock = some b → W.heap.size ≤ b)
theorem SrchI.most_le {τ : TypeId} {B h : Nat} {K R : Int} {p q : Option Addr} {n c m d g m1 most : Nat} {W : World} {p6 : Option Addr} {c6 : Nat} {Es : List MkI} {more : Bool} (s : SrchI τ B h K R p q n c m d g m1 most W p6 c6 Es more) : h < W.heap.size := heap_ltN s.box
theorem ExtQ.refl {τ : TypeId} {B h : Nat} {K R : Int} {p q : Option Addr} {n c m d g m1 most xb : Nat} {W : World} {p6 : Option Addr} {c6 : Nat} {Es : List MkI} {more : Bool} (s : SrchI τ B h K R p q n c m d g m1 most W p6 c6 Es more) (hl : Es.length ≤ most) : ExtQ τ B h K R p q n c m d g m1 most xb W p6 c6 Es more [] W := by
  obtain ⟨h1, h2⟩ := upd_nil (m := most) (A := lists Es) (by rw [lists_length]; exact hl) more
  exact ⟨p6, c6, Es, by rw [h2]; exact s, h1.symm, BelX.refl _ _ _, fun _ _ _ _ _ => rfl, fun i e he => Or.inl ⟨i, he⟩, Or.inl rfl⟩
/-- the own block of a row of the search lies neither in its box nor in a row of another type -/
theorem SrchI.row_ne {τ : TypeId} {B h : Nat} {K R : Int} {p q : Option Addr} {n c m d g m1 most : Nat} {W : World} {p6 : Option Addr} {c6 : Nat} {Es : List MkI} {more : Bool} (s : SrchI τ B h K R p q n c m d g m1 most W p6 c6 Es more) (hτ : τ ≠ 22) : (Value.slice p6 Es.length c6).ownBlock ≠ some h := fun e => by
  obtain ⟨_, cur, hh⟩ := row_block s.lst.row e
  exact ne_of_types s.box hh hτ rfl
theorem SrchI.own_ne {τ : TypeId} {B h : Nat} {K R : Int} {p q : Option Addr} {n c m d g m1 most : Nat} {W : World} {p6 : Option Addr} {c6 : Nat} {Es : List MkI} {more : Bool} (s : SrchI τ B h K R p q n c m d g m1 most W p6 c6 Es more) (hτ : τ ≠ 3) (i : Nat) (e : MkI) (he : Es[i]? = some e) : (Sl.val e.1).ownBlock ≠ some h ∧ ∀ b, (Value.slice p6 Es.length c6).ownBlock = some b → (Sl.val e.1).ownBlock ≠ some b := by
  have h1 := (s.lst.own i e he).1
  refine ⟨fun e' => ?_, fun b hb e' => ?_⟩
  · obtain ⟨_, cur, hh⟩ := row_block h1 e'
    exact ne_of_types s.box hh hτ rfl
  · obtain ⟨_, cur, hh⟩ := row_block h1 e'
    obtain ⟨_, cur2, hh2⟩ := row_block s.lst.row hb
    exact ne_of_types hh2 hh (by decide) rfl
/-- a step that leaves the search alone: whatever is neither xb nor new lies as it lay -/
theorem SrchI.past {τ : TypeId} {B h : Nat} {K R : Int} {p q : Option Addr} {n c m d g m1 most xb : Nat} {W W1 : World} {p6 : Option Addr} {c6 : Nat} {Es : List MkI} {more : Bool} (s : SrchI τ B h K R p q n c m d g m1 most W p6 c6 Es more)
    (hs : W.heap.size ≤ W1.heap.size) (hf : ∀ b, b < W.heap.size → b ≠ xb → W1.heap[b]? = W.heap[b]?) (hxh : xb ≠ h) (hxr : (Value.slice p6 Es.length c6).ownBlock ≠ some xb) (hxe : ∀ (i : Nat) (e : MkI), Es[i]? = some e → (Sl.val e.1).ownBlock ≠ some xb) : SrchI τ B h K R p q n c m d g m1 most W1 p6 c6 Es more :=
  ⟨(hf h s.most_le (Ne.symm hxh)).trans s.box, s.lst.kept hs (fun b hb => hf b ((row_block s.lst.row hb).2.elim fun _ hh => heap_ltN hh) (fun e => hxr (e ▸ hb))) (fun i e b hi hb => hf b ((row_block (s.lst.own i e hi).1 hb).2.elim fun _ hh => heap_ltN hh) (fun e' => hxe i e hi (e' ▸ hb))), Nat.le_trans s.low hs⟩
/-- one step behind another -/
theorem ExtQ.cat {τ : TypeId} {B h : Nat} {K R : Int} {p q : Option Addr} {n c m d g m1 most xb xb' : Nat} {W wr w1 w' : World} {p6 : Option Addr} {c6 : Nat} {Es : List MkI} {more : Bool} {p6' : Option Addr} {c6' : Nat} {Es' : List MkI} {L1 L2 : List (List Int)}
    (ha2 : lists Es' = updL most (lists Es) L1) (ha3 : BelX B h W wr) (ha4 : ∀ b, b < W.heap.size → b ≠ h → b ≠ xb → (Value.slice p6 Es.length c6).ownBlock ≠ some b → wr.heap[b]? = W.heap[b]?)
    (ha5 : ∀ (i : Nat) (e : MkI), Es'[i]? = some e → (∃ j : Nat, Es[j]? = some e) ∨ W.heap.size ≤ e.2.1) (ha6 : (Value.slice p6' Es'.length c6').ownBlock = (Value.slice p6 Es.length c6).ownBlock ∨ ∀ b, (Value.slice p6' Es'.length c6').ownBlock = some b → W.heap.size ≤ b)
    (hw : BelX B h wr w1) (hf : ∀ b, b < wr.heap.size → b ≠ xb → w1.heap[b]? = wr.heap[b]?) (hxb : xb' = xb ∨ wr.heap.size ≤ xb')
    (hq : ExtQ τ B h K R p q n c m d g m1 most xb' w1 p6' c6' Es' (updB most (lists Es) L1 more) L2 w') : ExtQ τ B h K R p q n c m d g m1 most xb W p6 c6 Es more (L1 ++ L2) w' := by
  obtain ⟨p7, c7, Es7, q1, q2, q3, q4, q5, q6⟩ := hq
  obtain ⟨u1, u2⟩ := upd_app (m := most) (A := lists Es) L1 L2 more
  rw [ha2] at q1 q2
  rw [u2] at q1
  rw [u1] at q2
  have s1 := ha3.size
  have s2 := hw.size
  refine ⟨p7, c7, Es7, q1, q2, ha3.trans (hw.trans q3), fun b hb hbh hbx hbr => ?_, fun i e he => ?_, ?_⟩
  · rw [q4 b (by omega) hbh (by rcases hxb with e | e <;> omega) ?_, hf b (by omega) hbx, ha4 b hb hbh hbx hbr]
    intro e
    rcases ha6 with h6 | h6
    · exact hbr (h6 ▸ e)
    · have := h6 b e
      omega
  · rcases q5 i e he with ⟨j, hj⟩ | h5
    · exact ha5 j e hj
    · exact Or.inr (by omega)
  · rcases q6 with h6 | h6
    · rcases ha6 with h7 | h7
      · exact Or.inl (h6.trans h7)
      · exact Or.inr fun b hb => h7 b (h6 ▸ hb)
    · exact Or.inr fun b hb => by have := h6 b hb; omega
/-- the list is full: more are there -/
theorem ExtQ.full {τ : TypeId} {B h : Nat} {K R : Int} {p q : Option Addr} {n c m d g m1 most xb : Nat} {W W1 : World} {p6 : Option Addr} {c6 : Nat} {Es : List MkI} {more : Bool} {L : List (List Int)} (s : SrchI τ B h K R p q n c m d g m1 most W p6 c6 Es more) (hτ1 : τ ≠ 22) (hτ2 : τ ≠ 3) (hl : Es.length = most) (hL : L ≠ []) (hw : Below W.heap.size W W1) :
    ExtQ τ B h K R p q n c m d g m1 most xb W p6 c6 Es more L (W1.setCell ⟨h, 7, none⟩ (.bool true)) := by
  obtain ⟨h1, h2⟩ := upd_full (m := most) (A := lists Es) (by rw [lists_length]; exact hl) hL more
  have far : ∀ b, b ≠ h → (W1.setCell ⟨h, 7, none⟩ (.bool true)).heap[b]? = W1.heap[b]? := fun b hb => Below.heap_setCell W1 ⟨h, 7, none⟩ _ b hb
  have hbox : W1.heap[h]? = _ := (hw.block h s.most_le).trans s.box
  have hszF : (W1.setCell ⟨h, 7, none⟩ (.bool true)).heap.size = W1.heap.size := by simp [World.setCell]
  refine ⟨p6, c6, Es, ⟨?_, ?_, by rw [hszF]; exact Nat.le_trans s.low hw.size⟩, h1.symm, (BelX.of hw s.low).set _ _, fun b hb hbh _ _ => (far b hbh).trans (hw.block b hb), fun i e he => Or.inl ⟨i, he⟩, Or.inl rfl⟩
  · rw [heap_setCell_same _ h 7 _ _ _ hbox, h2]
    rfl
  · exact s.lst.kept (by rw [show (W1.setCell ⟨h, 7, none⟩ (.bool true)).heap.size = W1.heap.size by simp [World.setCell]]; exact hw.size) (fun b hb => (far b (fun e => s.row_ne hτ1 (e ▸ hb))).trans (hw.block b ((row_block s.lst.row hb).2.elim fun _ hh => heap_ltN hh))) (fun i e b hi hb => (far b (fun e' => (s.own_ne hτ2 i e hi).1 (e' ▸ hb))).trans (hw.block b ((row_block (s.lst.own i e hi).1 hb).2.elim fun _ hh => heap_ltN hh)))
/-- one word is put to the list -/
theorem ExtQ.found {τ : TypeId} {B h : Nat} {K R : Int} {p q : Option Addr} {n c m d g m1 most xb : Nat} {W W1 Wa W2 : World} {p6 : Option Addr} {c6 : Nat} {Es : List MkI} {more : Bool} {pc : Option Addr} {cc gg cap : Nat} {x : List Int} (s : SrchI τ B h K R p q n c m d g m1 most W p6 c6 Es more) (hτ1 : τ ≠ 22) (hτ2 : τ ≠ 3) (hl : Es.length < most)
    (hb1 : Below W.heap.size W W1) (hc1 : IntO W.heap.size W1 pc cc x) (hb2 : Below W1.heap.size W1 Wa) (hrow : W2.ownsRow B 22 1 (.slice (some ⟨gg, 0, none⟩) (Es.length + 1) cap) (Es.length + 1) ((Es.map fun e => Sl.val e.1) ++ [Sl.val (pc, cc, x)]))
    (hg : Wa.grownBy W2 (Value.slice p6 Es.length c6).ownBlock) (hat : (Value.slice p6 Es.length c6).ownBlock = some gg ∨ gg = Wa.heap.size) :
    ExtQ τ B h K R p q n c m d g m1 most xb W p6 c6 Es more [x] (W2.setCell ⟨h, 6, none⟩ (.slice (some ⟨gg, 0, none⟩) (Es.length + 1) cap)) := by
  obtain ⟨h1, h2⟩ := upd_one (m := most) (A := lists Es) (by rw [lists_length]; exact hl) x more
  have hba : Below W.heap.size W Wa := hb1.trans (hb2.mono hb1.size)
  have hsa := hba.size
  have hs2 := hg.size
  have hlow := s.low
  have hlt := s.most_le
  have far : ∀ b, b ≠ h → (W2.setCell ⟨h, 6, none⟩ (.slice (some ⟨gg, 0, none⟩) (Es.length + 1) cap)).heap[b]? = W2.heap[b]? := fun b hb => Below.heap_setCell W2 ⟨h, 6, none⟩ _ b hb
  have hsz : (W2.setCell ⟨h, 6, none⟩ (.slice (some ⟨gg, 0, none⟩) (Es.length + 1) cap)).heap.size = W2.heap.size := by simp [World.setCell]
  have hrn := s.row_ne hτ1
  have same2 : ∀ b, b < W.heap.size → (Value.slice p6 Es.length c6).ownBlock ≠ some b → W2.heap[b]? = W.heap[b]? := fun b hb hn => (hg.block b (by omega) (fun e => hn e.symm)).trans (hba.block b hb)
  have hbox : W2.heap[h]? = _ := (same2 h hlt hrn).trans s.box
  have hggh : gg ≠ h := by
    obtain ⟨_, cur, hh⟩ := row_block hrow (b := gg) rfl
    rintro rfl
    exact ne_of_types hbox hh hτ1 rfl
  have hca : IntO W.heap.size Wa pc cc x := hc1.next hb2
  have hlen : (Es ++ [((pc, cc, x), W.heap.size, W1.heap.size)]).length = Es.length + 1 := by simp
  have hBW : BelX B h W (W2.setCell ⟨h, 6, none⟩ (.slice (some ⟨gg, 0, none⟩) (Es.length + 1) cap)) := BelX.set ⟨hg.os.trans hba.os, hg.tape.trans hba.tape, hg.output.trans hba.output, by omega, fun b hb _ => same2 b (by omega) (fun e => by
      have := (row_block s.lst.row e).1
      omega)⟩ _ _
  refine ⟨some ⟨gg, 0, none⟩, cap, Es ++ [((pc, cc, x), W.heap.size, W1.heap.size)], ⟨?_, ⟨?_, fun i e he => ?_, fun i j e f hij he hf => ?_⟩, by rw [hsz]; omega⟩, by rw [h1]; simp [lists], hBW, fun b hb hbh _ hbr => (far b hbh).trans (same2 b hb hbr), fun i e he => ?_, ?_⟩
  · rw [heap_setCell_same _ h 6 _ _ _ hbox, h2, hlen]
    rfl
  · rw [hlen, List.map_append]
    exact row_same hrow fun b hb => far b (by
      obtain rfl : gg = b := by simpa [Value.ownBlock] using hb
      exact hggh)
  · rw [hsz]
    rcases Nat.lt_or_ge i Es.length with hi | hi
    · rw [List.getElem?_append_left hi] at he
      obtain ⟨o1, o2, o3, o4⟩ := s.lst.own i e he
      obtain ⟨n1, n2⟩ := s.own_ne hτ2 i e he
      exact ⟨row_same o1 fun b hb => (far b (fun e' => n1 (e' ▸ hb))).trans (same2 b ((row_block o1 hb).2.elim fun _ hh => heap_ltN hh) (fun e' => n2 b e' hb)), o2, o3, by omega⟩
    · rw [List.getElem?_append_right hi] at he
      obtain ⟨rfl, hi0⟩ : ((pc, cc, x), W.heap.size, W1.heap.size) = e ∧ i - Es.length = 0 := by
        cases hk : i - Es.length with
        | zero => rw [hk] at he; exact ⟨by simpa using he, rfl⟩
        | succ k => rw [hk] at he; simp at he
      have hs1 := hb1.size
      have hs12 := hb2.size
      refine ⟨row_same hca fun b hb => ?_, by show B ≤ W.heap.size; omega, fun k hk => (hc1.lt k hk).2, by show W1.heap.size ≤ _; omega⟩
      obtain ⟨b1, cur, hh⟩ := row_block hca hb
      have hbl := heap_ltN hh
      have hbn : (Value.slice p6 Es.length c6).ownBlock ≠ some b := fun e' => by
        obtain ⟨_, cur2, hh2⟩ := row_block s.lst.row e'
        have := heap_ltN hh2
        omega
      exact (far b (by omega)).trans (hg.block b hbl (fun e' => hbn e'.symm))
  · rcases Nat.lt_or_ge j Es.length with hj | hj
    · rw [List.getElem?_append_left (by omega)] at he
      rw [List.getElem?_append_left hj] at hf
      exact s.lst.apart i j e f hij he hf
    · rw [List.getElem?_append_right hj] at hf
      have hj0 : j = Es.length := by
        cases hk : j - Es.length with
        | zero => omega
        | succ k => rw [hk] at hf; simp at hf
      subst hj0
      rw [List.getElem?_append_left hij] at he
      have hf' : ((pc, cc, x), W.heap.size, W1.heap.size) = f := by simpa using hf
      rw [← hf']
      exact (s.lst.own i e he).2.2.2
  · rcases Nat.lt_or_ge i Es.length with hi | hi
    · rw [List.getElem?_append_left hi] at he
      exact Or.inl ⟨i, he⟩
    · rw [List.getElem?_append_right hi] at he
      right
      cases hk : i - Es.length with
      | zero =>
        rw [hk] at he
        have : ((pc, cc, x), W.heap.size, W1.heap.size) = e := by simpa using he
        rw [← this]
        exact Nat.le_refl _
      | succ k => rw [hk] at he; simp at he
  · rcases hat with h6 | h6
    · left
      rw [h6]; rfl
    · right
      intro b hb
      obtain rfl : gg = b := by simpa [Value.ownBlock] using hb
      omega
end Go.Proofs.YtmienemnjikgdaaDoor
end
