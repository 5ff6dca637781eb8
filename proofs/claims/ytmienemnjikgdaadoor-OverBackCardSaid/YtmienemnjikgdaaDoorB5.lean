/- Package overlap by its contracts: extend.
Package overlap by its contracts: what Before's search begins with.
Package overlap by its contracts: Before.
Package overlap by its contracts: Before refused.
edenraw.Lists of two lists of lists that are the same.
Package word by its contracts, second part: Cmp, Back, Turn.
Package word by its contracts, third part: Period, Least.
Package word by its contracts, fourth part: Next.
Bytes of texts as numbers, and back.
Package word by its contracts, fifth part: Next where it is refused, Parse.
Package word by its contracts, sixth part: Text.
What the rows' lists of package-level variables give the walks: api's twelve errors and errors' own handle; and one world that meets the lists.
How a law's row is closed from its walk: where the law answers true and only new memory was written, each argument reads as it did.
What the statements of layer 3 share: lists that are known, awake.
What the statements of layer 8 share: awake.
What OverBack knows of the words that are told.
Package rule by its contracts, third part: Local, Step.
Package rule by its contracts, fourth part: Step.
Package word by its contracts, seventh part: Times.
Package word by its contracts, eighth part: Index, At.
Package word by its contracts, ninth part: At.
Package word by its contracts, tenth part: At where it is refused; nat.Pow whatever it is asked.
Package rule by its contracts, fifth part: Step where it is refused, Code, From.
Package rule by its contracts, sixth part: From.
Package rule by its contracts, seventh part: firstWrong.
Package rule by its contracts, eighth part: Parse. -/
import Derived.Test.YtmienemnjikgdaaDoorB4
import Derived.Deep.DeepAppendRoom
import Derived.ArgAppend
import Derived.Deep.AppendLies
import Derived.Deep.RegionLaw
import Derived.Test.YtmienemnjikgdaaDoorB3
import Derived.Test.YtmienemnjikgdaaDoorB1
import Derived.Deep.RegionWith
import Derived.Deep.DeepCutAuto
import Derived.Test.YtmienemnjikgdaaDoorB2
import Derived.Laws.BytesArg
import Derived.Test.YtmienemnjikgdaaDoorCards
import Derived.Test.YtmienemnjikgdaaDoorTie
import Derived.ProofKit
import Derived.OpenShut
import Derived.Deep.DeepHandedRow
import Derived.Deep.DeepWitnessRowRef
import Derived.LaidHandle
import Derived.LaidLaws
import Derived.Stop.LaidErr
import Derived.Carry
import Derived.SliceStrings
import Derived.ChangeSlices
import Derived.Deep.RegionHeld3
import Derived.Deep.DrawnRows
section
namespace Go.Proofs.YtmienemnjikgdaaDoor
open Go.RowKit Go.Shelf Go.Extern.Stop Go.Stop Go.Extern WordM RuleM
attribute [local go_sem ↓] Go.wp_at_zero Go.wp_at_succ

/-- the table of an open word below block B, for reading alone; none of it lies in block h -/
structure OpenB (B h : Nat) (W : World) (g m n : Nat) (f : Nat → Nat → Bool) : Prop where
  at_ : ∀ j, j ≤ m → ∃ b, b < B ∧ b ≠ h ∧ W.cell? ⟨g, j, none⟩ = some (.slice (some ⟨b, 0, none⟩) n n) ∧ ∀ u, u < n → W.cell? ⟨b, u, none⟩ = some (.bool (f j u))
  lt : g < B ∧ g ≠ h
theorem OpenB.below {B h : Nat} {W W' : World} {g m n : Nat} {f : Nat → Nat → Bool} (k : OpenB B h W g m n f) (hb : BelX B h W W') : OpenB B h W' g m n f :=
  ⟨fun j hj => by
    obtain ⟨b, h1, h2, h3, h4⟩ := k.at_ j hj
    exact ⟨b, h1, h2, (World.cell?_of_block (hb.block g k.lt.1 k.lt.2)).trans h3, fun u hu => (World.cell?_of_block (hb.block b h1 h2)).trans (h4 u hu)⟩, k.lt⟩
theorem SrchI.same {τ : TypeId} {B h : Nat} {K R : Int} {p q : Option Addr} {n c m d g m1 most : Nat} {W W1 : World} {p6 : Option Addr} {c6 : Nat} {Es : List MkI} {more : Bool} (s : SrchI τ B h K R p q n c m d g m1 most W p6 c6 Es more) (hh : W1.heap = W.heap) : SrchI τ B h K R p q n c m d g m1 most W1 p6 c6 Es more :=
  ⟨by rw [hh]; exact s.box, s.lst.kept (by rw [hh]; exact Nat.le_refl _) (fun g _ => by rw [hh]) (fun i e g _ _ => by rw [hh]), by rw [hh]; exact s.low⟩
theorem wpList_pushX {ops : Array Oper} {rest : List Oper} {o : Oper} {a : Act} {Q : Exit → Act → World → Prop} {w : World} (hgd : o.guard = none) (s x : Operand)
    (ho : o.op = .call { callee := .builtin .append, args := #[s, x], argTypes := #[22, 22] }) (base xb n c : Nat) (l : List Int) (hs : a.eval s = .slice (some ⟨xb, 0, none⟩) n c) (hn : n = l.length) (h : IntO base w (some ⟨xb, 0, none⟩) c l) (hB : base ≤ w.heap.size)
    (k : Nat) (y : Int) (hx : a.eval x = .slice (some ⟨k, 0, none⟩) 1 1) (hb : w.heap[k]? = some (.cells #[.int .i64 y] 3 (0, 0))) (hl : l.length ≤ 100000)
    (hK : ∀ xb' c' w', IntO base w' (some ⟨xb', 0, none⟩) c' (l ++ [y]) → Below base w w' → (∀ b, b < w.heap.size → b ≠ xb → w'.heap[b]? = w.heap[b]?) → (xb' = xb ∧ c' = c ∨ w.heap.size ≤ xb' ∧ w'.heap[xb]? = w.heap[xb]?) → wpList Tryd.prog ops Q rest (a.put o.dst (.slice (some ⟨xb', 0, none⟩) (n + 1) c')) w') : wpList Tryd.prog ops Q (o :: rest) a w := by
  obtain ⟨i0, hi, hz0, hz1, hz2⟩ := info_parts infoI
  subst hn
  have hxs : cI l ++ [Value.int .i64 y] = cI (l ++ [y]) := by rw [cI_app]; rfl
  have hbase := (row_block h (b := xb) rfl).1
  by_cases hroom : l.length + 1 ≤ c
  · refine wpList_append_own_spare w hgd s x 22 ho base 3 i0 1 Tryd.underlying22 hi hz1 xb l.length c (cI l) hs h ⟨k, 0, none⟩ 1 1 [.int .i64 y] hx rfl (World.news_of_block hb) (by simp [Value.oneCell']) hroom ?_
    intro w' hown hg
    rw [hxs] at hown
    refine hK xb c w' (by unfold IntO; rw [List.length_append]; exact hown) ((Below.refl _ _).grown hg hB (fun j e => by cases e; exact hbase)) (fun b hb hne => hg.block b hb (fun e => hne (by cases e; rfl))) (Or.inl ⟨rfl, rfl⟩)
  · refine wpList_append_grows w hgd s x 22 ho 3 i0 (.int .i64 0) 1 8 Tryd.underlying22 hi hz0 hz1 hz2 rfl (by decide) (some ⟨xb, 0, none⟩) l.length c (cI l) hs (fun e => by cases e) (by rw [cI_length, Nat.mul_one]) (fun b e j u hu => by cases e; rw [add_off, Nat.zero_add]; exact (World.ownsRow.cellAt h j (by have := (List.getElem?_eq_some_iff.1 hu).1; rw [cI_length] at this; omega)).trans hu) ⟨k, 0, none⟩ 1 1 [.int .i64 y] hx rfl (World.news_of_block hb) (by simp [Value.oneCell']) (by omega) (by unfold maxLen; omega) (by omega) ?_
    intro v' w' hown hg
    rw [hxs] at hown
    obtain ⟨g, cap, rfl⟩ := ownsRow_succ hown
    have hgb := (row_block hown (b := g) rfl).1
    exact hK g cap w' (by unfold IntO; rw [List.length_append]; exact ownsRow_base hB hown) ((Below.refl _ _).grown hg hB (fun j e => by cases e)) (fun b hb _ => hg.block b hb (fun e => by cases e)) (Or.inr ⟨hgb, hg.block xb ((row_block h (b := xb) rfl).2.elim fun _ hh => heap_ltN hh) (fun e => by cases e)⟩)
theorem infoL : (Tryd.prog.info? 22).map (fun i => (i.zero, i.size, i.bytes)) = some (some (.slice none 0 0), 1, 24) := by kernel_rfl
/-- append of one list to a list of lists, in a statement that draws its order -/
theorem step_pushL {ops : Array Oper} {o : Oper} {a : Act} {K : Act → World → Prop} {Q : Exit → Act → World → Prop} {E : Prop} {w : World} (hgd : o.guard = none) (s x : Operand)
    (ho : o.op = .call { callee := .builtin .append, args := #[s, x], argTypes := #[56, 56] }) (base : Nat) (p : Option Addr) (n c : Nat) (xs : List Value) (hs : a.eval s = .slice p n c) (h : w.ownsRow base 22 1 (.slice p n c) n xs) (hB : base ≤ w.heap.size)
    (k : Nat) (y : Sl) (hx : a.eval x = .slice (some ⟨k, 0, none⟩) 1 1) (hb : w.heap[k]? = some (.cells #[Sl.val y] 22 (0, 0))) (hl : n ≤ 100000)
    (hK : ∀ gg cap w', w'.ownsRow base 22 1 (.slice (some ⟨gg, 0, none⟩) (n + 1) cap) (n + 1) (xs ++ [Sl.val y]) → w.grownBy w' (Value.slice p n c).ownBlock → ((Value.slice p n c).ownBlock = some gg ∨ gg = w.heap.size) → K (a.put o.dst (.slice (some ⟨gg, 0, none⟩) (n + 1) cap)) w') :
    if Region.wanted o (yielded ops a.tmps) = true then Oper.wp Tryd.prog o a w K Q else E := by
  have hw : Region.wanted o (yielded ops a.tmps) = true := by simp [Region.wanted, hgd]
  rw [if_pos hw]
  obtain ⟨i0, hi, hz0, hz1, hz2⟩ := info_parts infoL
  exact wp_append_lies w s x 56 ho base 22 i0 (.slice none 0 0) 1 24 Tryd.underlying56 hi hz0 hz1 hz2 rfl (by decide) _ n xs hs h ⟨k, 0, none⟩ 1 1 [Sl.val y] hx rfl (World.news_of_block hb) (by simp [Value.oneCell', Sl.val]) (by omega) (by unfold maxLen; omega) (by omega) hB w.heap.size rfl fun gg cap w' h1 h2 h3 _ => hK gg cap w' h1 h2 h3
theorem ExtQ.still {τ : TypeId} {B h : Nat} {K R : Int} {p q : Option Addr} {n c m d g m1 most xb : Nat} {W W1 : World} {p6 : Option Addr} {c6 : Nat} {Es : List MkI} {more : Bool} (s : SrchI τ B h K R p q n c m d g m1 most W p6 c6 Es more) (hl : Es.length ≤ most) (hb : Below W.heap.size W W1) : ExtQ τ B h K R p q n c m d g m1 most xb W p6 c6 Es more [] W1 := by
  obtain ⟨p7, c7, Es7, q1, q2, q3, q4, q5, q6⟩ := ExtQ.refl (xb := xb) s hl
  have hlow := s.low
  have hlt := s.most_le
  have hB : BelX B h W W1 := BelX.of hb hlow
  obtain ⟨h1, h2⟩ := upd_nil (m := most) (A := lists Es) (by rw [lists_length]; exact hl) more
  exact ⟨p6, c6, Es, by rw [h2]; exact s.past hb.size (fun b hb' _ => hb.block b hb') (xb := W.heap.size) (by omega) (fun e => by obtain ⟨_, _, hh⟩ := row_block s.lst.row e; exact absurd (heap_ltN hh) (Nat.lt_irrefl _)) (fun i e hi e' => by obtain ⟨_, _, hh⟩ := row_block (s.lst.own i e hi).1 e'; exact absurd (heap_ltN hh) (Nat.lt_irrefl _)), h1.symm, hB, fun b hb' _ _ _ => hb.block b hb', fun i e he => Or.inl ⟨i, he⟩, Or.inl rfl⟩
theorem ExtQ.next {τ : TypeId} {B h : Nat} {K R : Int} {p q : Option Addr} {n c m d g m1 most xb : Nat} {W wr wf : World} {p6 : Option Addr} {c6 : Nat} {Es : List MkI} {more : Bool} {L : List (List Int)} (e : ExtQ τ B h K R p q n c m d g m1 most xb W p6 c6 Es more L wr) (hb : Below wr.heap.size wr wf) : ExtQ τ B h K R p q n c m d g m1 most xb W p6 c6 Es more L wf := by
  obtain ⟨p7, c7, Es7, q1, q2, q3, q4, q5, q6⟩ := e
  have hlow := q1.low
  have hlt := q1.most_le
  have hs := q3.size
  have hB : BelX B h wr wf := BelX.of hb hlow
  exact ⟨p7, c7, Es7, ⟨(hb.block h hlt).trans q1.box, q1.lst.kept hb.size (fun b hb' => hb.block b ((row_block q1.lst.row hb').2.elim fun _ hh => heap_ltN hh)) (fun i e b hi hb' => hb.block b ((row_block (q1.lst.own i e hi).1 hb').2.elim fun _ hh => heap_ltN hh)), Nat.le_trans hlow hb.size⟩, q2, q3.trans hB, fun b h1 h2 h3 h4 => (hb.block b (by omega)).trans (q4 b h1 h2 h3 h4), q5, q6⟩
/-- what extend does: the words that begin with x are put to the list; x itself reads as before -/
def XtdPost (B h : Nat) (K R : Int) (p q : Option Addr) (n c m d g m1 most xb cx : Nat) (x : List Int) (W : World) (p6 : Option Addr) (c6 : Nat) (Es : List MkI) (more : Bool) (L : List (List Int)) (e : Ending) (W' : World) : Prop :=
  (∃ v, e = .returned v) ∧ ExtQ 91 B h K R p q n c m d g m1 most xb W p6 c6 Es more L W' ∧ IntO B W' (some ⟨xb, 0, none⟩) cx x
/-- while the symbols are gone through -/
def XtdR (B h : Nat) (K R : Int) (p q : Option Addr) (n c m d g m1 most xb cx Kn N : Nat) (t : List Int) (a : Int) (rest x : List Int) (u : Nat) (W : World) (p6 : Option Addr) (c6 : Nat) (Es : List MkI) (more : Bool) (v : Value) (wr : World) : Prop :=
  ∃ s : Nat, s ≤ Kn ∧ v = .int .i64 (s : Int) ∧ ExtQ 91 B h K R p q n c m d g m1 most xb W p6 c6 Es more (preTo Kn N t a rest x u s) wr ∧ IntO B wr (some ⟨xb, 0, none⟩) cx x
set_option maxRecDepth 100000 in
set_option maxHeartbeats 16000000 in
theorem extendO (K R N B H0 h : Nat) (hH0 : H0 ≤ B ∧ H0 ≤ h) (p q : Option Addr) (n c m d g m1 most : Nat) (t l : List Int) (hn : n = t.length) (hm : m = l.length) (hm1 : m + 1 = m1) (ho : OkS K R t) (hN : K ^ (2 * R) = N) (hl : l.length ≤ 256) (hmost : most ≤ 256) : ∀ (rest : List Int) (i : Nat), l.drop i = rest → i ≤ m →
    ∀ (W : World) (p6 : Option Addr) (c6 : Nat) (Es : List MkI) (more : Bool) (xb cx xn u : Nat) (x : List Int), SrchI 91 B h (K : Int) (R : Int) p q n c m d g m1 most W p6 c6 Es more → Es.length ≤ most → IntV H0 W p c t → IntV H0 W q d l → OpenB B h W g m N (opF K N t l) → B ≤ W.heap.size → IntO B W (some ⟨xb, 0, none⟩) cx x → xn = x.length → xn = 2 * R + i → (∀ (j : Nat) (e : MkI), Es[j]? = some e → (Sl.val e.1).ownBlock ≠ some xb) → u < N →
    Calls Tryd.prog 50 #[.pointer (some ⟨h, 0, none⟩), .slice (some ⟨xb, 0, none⟩) xn cx, .int .i64 (u : Int)] W (XtdPost B h (K : Int) (R : Int) p q n c m d g m1 most xb cx x W p6 c6 Es more (preW K N t rest x u)) := by
  intro rest
  induction rest with
  | nil =>
    intro i hrest him W p6 c6 Es more xb cx xn u x hS hEl ht hwl hop hB hx hxn hxi hne hu
    have zm : m ≤ 256 := by omega
    have zR : R ≤ 3 := ho.ok.r3
    obtain ⟨D, hD⟩ : ∃ D, 2 * R = D := ⟨_, rfl⟩
    have h2R : 2 * (R : Int) = (D : Int) := by omega
    have hsub : (xn : Int) - (D : Int) = (i : Int) := by omega
    have zD : D ≤ 6 := by omega
    obtain rfl : i = m := by
      have : (l.drop i).length = ([] : List Int).length := by rw [hrest]
      rw [List.length_drop, List.length_nil] at this
      omega
    obtain ⟨b, hbB, _, hgc, hrow⟩ := hop.at_ i him
    have hcb := hrow u hu
    obtain ⟨bv, hbv⟩ : ∃ bv, opF K N t l i u = bv := ⟨_, rfl⟩
    rw [hbv] at hcb
    obtain ⟨⟨hc0, hc1, hc2⟩, hc3, hc4, hc5, hc6, hc7, hf6, hf7⟩ := hS.facts
    have him1 : (i : Int) < (m1 : Int) := by omega
    have hi0 : (0 : Int) ≤ (i : Int) := by omega
    have huN : (u : Int) < (N : Int) := by omega
    have hu0 : (0 : Int) ≤ (u : Int) := by omega
    have hcan : canW K N t [] u = bv := by rw [← hrest]; exact hbv
    have H := Lib.hid (And.intro hrest (And.intro hS (And.intro hEl (And.intro ht (And.intro hwl (And.intro hop (And.intro hB (And.intro hx (And.intro hxn (And.intro hne (And.intro hcan (And.intro hD hxi))))))))))))
    have HO := Lib.hid (And.intro ho (And.intro hN (And.intro hn (And.intro hm hm1))))
    clear hrest hS hEl ht hwl hop hx hxn hne hcan hrow hbv hD hxi ho hN hn hm hm1
    cases bv with
    | false =>
      go_enter Tryd.func50, Tryd.ntmps50
      go_wp2_with fail
      go_end0
      exact ⟨⟨_, rfl⟩, by rw [(pre_can K N t _ x u).2 H.out.2.2.2.2.2.2.2.2.2.2.1]; exact ExtQ.refl H.out.2.1 H.out.2.2.1, H.out.2.2.2.2.2.2.2.1⟩
    | true =>
      have hmo0 : (0 : Int) ≤ (most : Int) := by omega
      by_cases hfull : Es.length = most
      · have hfe : ((Es.length : Int) == (most : Int)) = true := by simp [hfull]
        obtain ⟨eL, heL⟩ : ∃ eL, Es.length = eL := ⟨_, rfl⟩
        rw [heL] at hc6 hfe
        have HL := Lib.hid (And.intro hfull heL)
        have hel2 : (eL : Int) = (most : Int) := by omega
        clear hfull heL
        go_enter Tryd.func50, Tryd.ntmps50
        go_wp2_with fail
        go_quiet (fail)
        go_wp2_with fail
        go_end0
        refine ⟨⟨_, rfl⟩, ExtQ.full H.out.2.1 (by decide) (by decide) HL.out.1 (fun e => by have := (pre_can K N t _ x u).1 e; rw [H.out.2.2.2.2.2.2.2.2.2.2.1] at this; cases this) (below_drewN (Below.refl _ _) _), ?_⟩
        refine row_same (H.out.2.2.2.2.2.2.2.1.next (below_drewN (Below.refl _ _) _)) fun b hb => Below.heap_setCell _ ⟨h, 7, none⟩ _ b ?_
        rintro rfl
        obtain ⟨_, cur, hh⟩ := row_block H.out.2.2.2.2.2.2.2.1 hb
        exact ne_of_types H.out.2.1.box hh (by decide) rfl
      · obtain ⟨eL, heL⟩ : ∃ eL, Es.length = eL := ⟨_, rfl⟩
        rw [heL] at hc6 hfull
        have HL := Lib.hid (And.intro hfull heL)
        have hel2 : ¬ (eL : Int) = (most : Int) := by omega
        have hel3 : ((eL : Int) == (most : Int)) = false := by simp; omega
        have zx : xn ≤ 262 := by have h1 := H.out.2.2.2.2.2.2.2.2.2.2.2.2; omega
        clear hfull heL
        go_enter Tryd.func50, Tryd.ntmps50
        go_wp2_with fail
        go_quiet (fail)
        go_wp2_with fail
        obtain ⟨Wd, hWd⟩ : ∃ y, y = W.drewN nq := ⟨_, rfl⟩
        have hdN : Below W.heap.size W Wd := by rw [hWd]; exact below_drewN (Below.refl _ _) _
        rw [← hWd]
        have hSd : SrchI 91 B h (K : Int) (R : Int) p q n c i d g m1 most Wd p6 c6 Es more := H.out.2.1.same (by rw [hWd]; rfl)
        have hsd : Wd.heap.size = W.heap.size := by rw [hWd]; rfl
        clear hc0 hc1 hc2 hc3 hc4 hc5 hc6 hc7 hf6 hf7 hgc hcb hWd
        have hdr : Below Wd.heap.size Wd Wd.drew := (Below.refl _ _).drew
        have hcl := cloneI_any (some ⟨xb, 0, none⟩) cx x Wd.drew (((H.out.2.2.2.2.2.2.2.1.next hdN).toV.next hdr)) (by have h1 := H.out.2.2.2.2.2.2.2.2.1; omega)
        unfold IntPost at hcl
        rw [← H.out.2.2.2.2.2.2.2.2.1] at hcl
        have hxA : ∀ wx : World, Below Wd.heap.size Wd wx → (wx.cell? ⟨h, 6, none⟩ = some (.slice p6 eL c6) ∧ wx.frozen? ⟨h, 6, none⟩ = false) ∧ wx.ownsRow B 22 1 (.slice p6 eL c6) eL (Es.map fun e => Sl.val e.1) := fun wx hb => by
          have hb6 : wx.heap[h]? = _ := (hb.block h hSd.most_le).trans hSd.box
          refine ⟨⟨by rw [cell_of_row wx h 6 _ _ _ hb6, ← HL.out.2]; rfl, frozen_block hb6⟩, ?_⟩
          have h1 := ownsRow_below hb hSd.lst.row
          rw [HL.out.2] at h1
          exact h1
        have HX := Lib.hid (And.intro hcl (And.intro hSd (And.intro hsd (And.intro hdN (And.intro (H.out.2.2.2.2.2.2.1) hxA)))))
        obtain ⟨⟨hc6, hf6⟩, _⟩ := hxA Wd (Below.refl _ _)
        obtain ⟨⟨hd6, hg6⟩, _⟩ := hxA _ hdr
        have HD := Lib.hid hdr
        have zeL : eL ≤ 256 := by have h1 := HL.out.2; have h2 := H.out.2.2.1; omega
        clear hcl hSd hsd hdN hxA hdr
        go_region_law (first
          | (refine step_pushL (by rfl) _ _ (by rfl) B p6 eL c6 (Es.map fun e => Sl.val e.1) (by rfl) hrowA hszA wk.heap.size (pk, ck, x) (by rfl) hblk (by omega) ?_; intro gg cap w9 hr9 hg9 ha9; have hb9 : w9.heap[h]? = _ := (hg9.block h hlh (fun e => hnb e.symm)).trans hbxA; have hk6 : w9.cell? ⟨h, 6, none⟩ = some (.slice p6 eL c6) := by rw [cell_of_row w9 h 6 _ _ _ hb9, ← HL.out.2]; rfl
             have hk7 : w9.frozen? ⟨h, 6, none⟩ = false := frozen_block hb9)
          | (go_simp; go_at_call 73; refine HX.out.1.mono ?_; rintro e wk ⟨pk, ck, rfl, hok, hbk⟩; have hBk : Below Wd.heap.size Wd wk := HD.out.trans (hbk.mono HD.out.size); have hBA : Below Wd.heap.size Wd (wk.alloc (.cells #[.slice pk xn ck] 22)) := hBk.alloc hBk.size _; obtain ⟨⟨hs6, _⟩, _⟩ := HX.out.2.2.2.2.2 _ hBk; obtain ⟨⟨ht6, hu6⟩, hrowA⟩ := HX.out.2.2.2.2.2 _ hBA; have hszA : B ≤ (wk.alloc (.cells #[.slice pk xn ck] 22)).heap.size := Nat.le_trans HX.out.2.2.2.2.1 (Nat.le_trans HX.out.2.2.2.1.size hBA.size); have hblk : (wk.alloc (.cells #[.slice pk xn ck] 22)).heap[wk.heap.size]? = some (.cells #[Sl.val (pk, ck, x)] 22 (0, 0)) := by rw [show Sl.val (pk, ck, x) = .slice pk xn ck by rw [H.out.2.2.2.2.2.2.2.2.1]; rfl]; exact heap_newN wk _
             have hlh : h < (wk.alloc (.cells #[.slice pk xn ck] 22)).heap.size := Nat.lt_of_lt_of_le HX.out.2.1.most_le hBA.size
             have hbxA := (hBA.block h HX.out.2.1.most_le).trans HX.out.2.1.box
             have hnb : (Value.slice p6 eL c6).ownBlock ≠ some h := by have h1 := HX.out.2.1.row_ne (by decide); rw [HL.out.2] at h1; exact h1))
        all_goals
          go_wp2_with fail
          go_end0
          have hel := HL.out.2
          have hlm : Es.length < most := by have h1 := H.out.2.2.1; have h2 := HL.out.1; omega
          have hsd := HX.out.2.2.1
          have hWk : Below W.heap.size W wk := HX.out.2.2.2.1.trans (hBk.mono (Nat.le_of_eq hsd.symm))
          have hF := ExtQ.found (xb := xb) H.out.2.1 (by decide) (by decide) hlm hWk (hok.base (by show W.heap.size ≤ Wd.heap.size; omega)) ((Below.refl _ _).alloc (Nat.le_refl _) _) (by rw [hel]; exact hr9) (by rw [hel]; exact hg9) (by rw [hel]; exact ha9)
          rw [hel] at hF
          refine ⟨⟨_, rfl⟩, hF, row_same H.out.2.2.2.2.2.2.2.1 fun b hb => ?_⟩
          obtain rfl : xb = b := by simpa [Value.ownBlock] using hb
          obtain ⟨_, cur, hh⟩ := row_block H.out.2.2.2.2.2.2.2.1 (b := xb) rfl
          have hxl := heap_ltN hh
          have hxh : xb ≠ h := (ne_of_types H.out.2.1.box hh (by decide)).symm
          have hxr : (Value.slice p6 eL c6).ownBlock ≠ some xb := fun e => by
            rw [← hel] at e
            obtain ⟨_, cur2, hh2⟩ := row_block H.out.2.1.lst.row e
            exact ne_of_types hh2 hh (by decide) rfl
          have hWA : Below W.heap.size W (wk.alloc (.cells #[.slice pk xn ck] 22)) := hWk.alloc hWk.size _
          exact (Below.heap_setCell _ ⟨h, 6, none⟩ _ xb hxh).trans ((hg9.block xb (Nat.lt_of_lt_of_le hxl hWA.size) (fun e => hxr e.symm)).trans (hWA.block xb hxl))
  | cons a rest ih =>
    intro i hrest him W p6 c6 Es more xb cx xn u x hS hEl ht hwl hop hB hx hxn hxi hne hu
    have zm : m ≤ 256 := by omega
    have zR : R ≤ 3 := ho.ok.r3
    obtain ⟨D, hD⟩ : ∃ D, 2 * R = D := ⟨_, rfl⟩
    have h2R : 2 * (R : Int) = (D : Int) := by omega
    have hsub : (xn : Int) - (D : Int) = (i : Int) := by omega
    have zD : D ≤ 6 := by omega
    have zi : i < m := by
      have : (l.drop i).length = (a :: rest).length := by rw [hrest]
      rw [List.length_drop, List.length_cons] at this
      omega
    obtain ⟨b, hbB, _, hgc, hrow⟩ := hop.at_ i him
    have hcb := hrow u hu
    obtain ⟨bv, hbv⟩ : ∃ bv, opF K N t l i u = bv := ⟨_, rfl⟩
    rw [hbv] at hcb
    obtain ⟨⟨hc0, hc1, hc2⟩, hc3, hc4, hc5, hc6, hc7, hf6, hf7⟩ := hS.facts
    have him1 : (i : Int) < (m1 : Int) := by omega
    have hi0 : (0 : Int) ≤ (i : Int) := by omega
    have huN : (u : Int) < (N : Int) := by omega
    have hu0 : (0 : Int) ≤ (u : Int) := by omega
    have hcan : canW K N t (a :: rest) u = bv := by rw [← hrest]; exact hbv
    have H := Lib.hid (And.intro hrest (And.intro hS (And.intro hEl (And.intro ht (And.intro hwl (And.intro hop (And.intro hB (And.intro hx (And.intro hxn (And.intro hne (And.intro hcan (And.intro hD hxi))))))))))))
    have IH := Lib.hid ih
    have HO := Lib.hid (And.intro ho (And.intro hN (And.intro hn (And.intro hm hm1))))
    clear hrest hS hEl ht hwl hop hx hxn hne hcan hrow hbv hD hxi ih ho hN hn hm hm1
    cases bv with
    | false =>
      go_enter Tryd.func50, Tryd.ntmps50
      go_wp2_with fail
      go_end0
      exact ⟨⟨_, rfl⟩, by rw [(pre_can K N t _ x u).2 H.out.2.2.2.2.2.2.2.2.2.2.1]; exact ExtQ.refl H.out.2.1 H.out.2.2.1, H.out.2.2.2.2.2.2.2.1⟩
    | true =>
      have hmo0 : (0 : Int) ≤ (most : Int) := by omega
      by_cases hfull : Es.length = most
      · have hfe : ((Es.length : Int) == (most : Int)) = true := by simp [hfull]
        obtain ⟨eL, heL⟩ : ∃ eL, Es.length = eL := ⟨_, rfl⟩
        rw [heL] at hc6 hfe
        have HL := Lib.hid (And.intro hfull heL)
        have hel2 : (eL : Int) = (most : Int) := by omega
        clear hfull heL
        go_enter Tryd.func50, Tryd.ntmps50
        go_wp2_with fail
        go_quiet (fail)
        go_wp2_with fail
        go_end0
        refine ⟨⟨_, rfl⟩, ExtQ.full H.out.2.1 (by decide) (by decide) HL.out.1 (fun e => by have := (pre_can K N t _ x u).1 e; rw [H.out.2.2.2.2.2.2.2.2.2.2.1] at this; cases this) (below_drewN (Below.refl _ _) _), ?_⟩
        refine row_same (H.out.2.2.2.2.2.2.2.1.next (below_drewN (Below.refl _ _) _)) fun b hb => Below.heap_setCell _ ⟨h, 7, none⟩ _ b ?_
        rintro rfl
        obtain ⟨_, cur, hh⟩ := row_block H.out.2.2.2.2.2.2.2.1 hb
        exact ne_of_types H.out.2.1.box hh (by decide) rfl
      · obtain ⟨eL, heL⟩ : ∃ eL, Es.length = eL := ⟨_, rfl⟩
        rw [heL] at hc6 hfull
        have HL := Lib.hid (And.intro hfull heL)
        have hel2 : ¬ (eL : Int) = (most : Int) := by omega
        have hel3 : ((eL : Int) == (most : Int)) = false := by simp; omega
        have hnim : ¬ (i : Int) = (m : Int) := by omega
        have hnim2 : ((i : Int) == (m : Int)) = false := by simp; omega
        have zK : K ≤ 4 := HO.out.1.ok.k4
        clear hfull heL
        go_enter Tryd.func50, Tryd.ntmps50
        go_wp2_with fail
        go_quiet (fail)
        go_wp2_with fail
        clear hc0 hc1 hc2 hc3 hc4 hc5 hc6 hc7 hf6 hf7 hgc hcb
        go_loopw [66] (fun v66 wr => XtdR B h (K : Int) (R : Int) p q n c m d g m1 most xb cx K N t a rest x u W p6 c6 Es more v66 wr) (fun v _ => K - (intOf v).toNat)
        case atStart => exact ⟨0, Nat.zero_le _, rfl, ExtQ.still H.out.2.1 H.out.2.2.1 (below_drewN (Below.refl _ _) _), H.out.2.2.2.2.2.2.2.1.next (below_drewN (Below.refl _ _) _)⟩
        case round =>
          obtain ⟨s, hs, rfl, hq, hxr⟩ := hrel
          by_cases hsk : s < K
          · have hsk2 : (s : Int) < (K : Int) := by omega
            have HX := Lib.hid (And.intro hq hxr)
            obtain ⟨p7, c7, Es7, q1, q2, q3, q4, q5, q6⟩ := hq
            have hE7 : Es7.length ≤ most := by rw [← lists_length, q2]; exact updL_le _ _ _
            obtain ⟨⟨hc0, hc1, hc2⟩, hc3, hc4, hc5, hc6, hc7, hf6, hf7⟩ := q1.facts
            have hBr : B ≤ wr.heap.size := Nat.le_trans H.out.2.2.2.2.2.2.1 q3.size
            have hcf := followO K u s (R : Int) p n c N t wr HO.out.1.ok.k1 HO.out.1.ok.k4 HO.out.2.2.1 (by rw [HO.out.2.2.1, ← HO.out.2.1]; exact nod_len HO.out.1.ok) (by have h1 := HO.out.1.small; have h2 := HO.out.2.2.1; omega) ((H.out.2.2.2.1.below (q3.to hH0.1 hH0.2)).mono (Nat.le_trans hH0.1 hBr)) hu hsk
            obtain ⟨T, hT⟩ : ∃ T, (u * K + s) % N = T := ⟨_, rfl⟩
            obtain ⟨L, hL⟩ : ∃ L, ent t (u * K + s) = L := ⟨_, rfl⟩
            rw [hT, hL] at hcf
            have hTN : T < N := by rw [← hT]; exact Nat.mod_lt _ (by omega)
            have hla : l[i]? = some a := by
              have h1 := congrArg (fun z : List Int => z[0]?) H.out.1
              simp only [List.getElem?_drop, List.getElem?_cons_zero, Nat.add_zero] at h1
              exact h1
            have hrest1 : l.drop (i + 1) = rest := by
              have h1 := congrArg (fun z : List Int => z.drop 1) H.out.1
              simp only [List.drop_drop, List.drop_succ_cons, List.drop_zero] at h1
              rw [← h1]
            obtain ⟨b3, off3, hq3, hb3, hcell3⟩ := H.out.2.2.2.2.1.cell (by rintro rfl; simp at hla)
            subst hq3
            have hmd : m ≤ d := by have h1 := H.out.2.2.2.2.1.le; have h2 := HO.out.2.2.2.1; omega
            have hxW : ∀ wx : World, Below wr.heap.size wr wx → wx.cell? ⟨h, 3, none⟩ = some (.slice (some ⟨b3, off3, none⟩) m d) ∧ wx.cell? ⟨b3, off3 + i, none⟩ = some (.int .i64 a) := fun wx hb => ⟨(hb.cell (p := ⟨h, 3, none⟩) q1.most_le).trans hc3, (hb.cell (p := ⟨b3, off3 + i, none⟩) (by show b3 < wr.heap.size; omega)).trans (((q3.to hH0.1 hH0.2).cell (p := ⟨b3, off3 + i, none⟩) hb3).trans (hcell3 i a hla))⟩
            have hzi : (i : Int) < (m : Int) := by omega
            have HW := Lib.hid hxW
            have HQ := Lib.hid (And.intro q1 (And.intro q2 (And.intro q3 (And.intro q4 (And.intro q5 (And.intro q6 (And.intro hE7 hBr)))))))
            have HT := Lib.hid (And.intro hT (And.intro hL (And.intro hTN (And.intro hrest1 hcf))))
            clear hxr q1 q2 q3 q4 q5 q6 hE7 hBr hT hL hTN hla hrest1 hcf hxW hcell3
            by_cases hLa : L = a
            · subst hLa
              go_wp2_with fail
              refine HT.out.2.2.2.2.mono ?_
              rintro e1 wf ⟨rfl, hbf⟩
              clear hc0 hc1 hc2 hc3 hc4 hc5 hc6 hc7 hf6 hf7
              obtain ⟨hx3, hx4⟩ := HW.out wf hbf
              have hsf : wf.heap.size < (wf.alloc (.cells #[.int .i64 (s : Int)] 3)).heap.size := by simp
              have hbA : Below wr.heap.size wr (wf.alloc (.cells #[.int .i64 (s : Int)] 3)) := hbf.alloc hbf.size _
              have hblk : (wf.alloc (.cells #[.int .i64 (s : Int)] 3)).heap[wf.heap.size]? = some (.cells #[.int .i64 (s : Int)] 3 (0, 0)) := heap_newN wf _
              have HA := Lib.hid (And.intro hbA (And.intro hblk (HX.out.2.next hbA)))
              clear hbA hblk hbf hsf
              go_wp2_with (at_builtin; refine wpList_pushX (by rfl) _ _ (by rfl) B xb xn cx x (by rfl) H.out.2.2.2.2.2.2.2.2.1 HA.out.2.2 (Nat.le_trans HQ.out.2.2.2.2.2.2.2 HA.out.1.size) wf.heap.size (s : Int) (by rfl) HA.out.2.1 (by have h1 := H.out.2.2.2.2.2.2.2.2.1; omega) ?_; intro xb' cx' w1 hx1 hb1 hk1 hd1; have HP := Lib.hid (And.intro hx1 (And.intro hb1 (And.intro hk1 hd1))); clear hx1 hb1 hk1 hd1 hx3 hx4)
              have hwr1 : BelX B h wr w1 := (BelX.of HA.out.1 HQ.out.2.2.2.2.2.2.2).trans (BelX.of HP.out.2.1 (Nat.le_refl _))
              have hsame : ∀ b, b < wr.heap.size → b ≠ xb → w1.heap[b]? = wr.heap[b]? := fun b hb hbx => (HP.out.2.2.1 b (Nat.lt_of_lt_of_le hb HA.out.1.size) hbx).trans (HA.out.1.block b hb)
              have hxblk := row_block HX.out.2 (b := xb) rfl
              have hxbl : xb < wr.heap.size := hxblk.2.elim fun _ hh => heap_ltN hh
              have hxbW : xb < W.heap.size := (row_block H.out.2.2.2.2.2.2.2.1 (b := xb) rfl).2.elim fun _ hh => heap_ltN hh
              have hxh : xb ≠ h := by
                obtain ⟨_, cur, hh⟩ := hxblk
                exact (ne_of_types HQ.out.1.box hh (by decide)).symm
              have hxrow : (Value.slice p7 Es7.length c7).ownBlock ≠ some xb := fun e => by
                obtain ⟨_, cur, hh⟩ := hxblk
                obtain ⟨_, cur2, hh2⟩ := row_block HQ.out.1.lst.row e
                exact ne_of_types hh2 hh (by decide) rfl
              have hxe : ∀ (j : Nat) (e : MkI), Es7[j]? = some e → (Sl.val e.1).ownBlock ≠ some xb := fun j e he e' => by
                rcases HQ.out.2.2.2.2.1 j e he with ⟨j', hj'⟩ | h5
                · exact H.out.2.2.2.2.2.2.2.2.2.1 j' e hj' e'
                · have := (IntO.lt (HQ.out.1.lst.own j e he).1 xb e').1
                  omega
              have hS1 := HQ.out.1.past hwr1.size hsame hxh hxrow hxe
              have hxe1 : ∀ (j : Nat) (e : MkI), Es7[j]? = some e → (Sl.val e.1).ownBlock ≠ some xb' := fun j e he e' => by
                rcases HP.out.2.2.2 with ⟨h5, _⟩ | ⟨h5, _⟩
                · exact hxe j e he (h5 ▸ e')
                · have h6 := (HQ.out.1.lst.own j e he).2.2.1 xb' e'
                  have h7 := (HQ.out.1.lst.own j e he).2.2.2
                  have h8 := HA.out.1.size
                  omega
              have hBW := HQ.out.2.2.1.trans hwr1
              have hxl := H.out.2.2.2.2.2.2.2.2.1
              have hxi := H.out.2.2.2.2.2.2.2.2.2.2.2.2
              have hDD := H.out.2.2.2.2.2.2.2.2.2.2.2.1
              have hcall := IH.out (i + 1) HT.out.2.2.2.1 (by omega) w1 p7 c7 Es7 (updB most (lists Es) (preTo K N t L rest x u s) more) xb' cx' (xn + 1) T (x ++ [(s : Int)]) hS1 HQ.out.2.2.2.2.2.2.1 (H.out.2.2.2.1.below (hBW.to hH0.1 hH0.2)) (H.out.2.2.2.2.1.below (hBW.to hH0.1 hH0.2)) (H.out.2.2.2.2.2.1.below hBW) (Nat.le_trans HQ.out.2.2.2.2.2.2.2 hwr1.size) HP.out.1 (by rw [List.length_append, hxl]; rfl) (by omega) hxe1 HT.out.2.2.1
              have HC1 := Lib.hid (And.intro hwr1 (And.intro hsame (And.intro hxh (And.intro hxrow (And.intro hxbl hxbW)))))
              have HCL := Lib.hid hcall
              clear hwr1 hsame hxblk hxbl hxbW hxh hxrow hxe hS1 hxe1 hBW hxl hxi hDD hcall
              refine HCL.out.mono ?_
              rintro e1 w2 ⟨⟨v2, rfl⟩, hq2, hx2⟩
              have hxfin : IntO B w2 (some ⟨xb, 0, none⟩) cx x := by
                rcases HP.out.2.2.2 with ⟨h5, h6⟩ | ⟨h5, h6⟩
                · subst h5 h6
                  have h7 := apartI.prefix_own (k := x.length) hx2 (by simp)
                  have h8 : (cI (x ++ [(s : Int)])).take x.length = cI x := by rw [← cI_take, List.take_append_of_le_length (Nat.le_refl _), List.take_length]
                  rw [h8] at h7
                  exact h7
                · obtain ⟨_, _, _, _, _, _, r4, _, _⟩ := hq2
                  have h9 := HA.out.1.size
                  have h10 := HP.out.2.1.size
                  have h11 := HC1.out.2.2.2.2.1
                  have hx1 : IntO B w1 (some ⟨xb, 0, none⟩) cx x := row_same HA.out.2.2 fun b hb => by
                    obtain rfl : xb = b := by simpa [Value.ownBlock] using hb
                    exact h6
                  refine row_same hx1 fun b hb => ?_
                  obtain rfl : xb = b := by simpa [Value.ownBlock] using hb
                  exact r4 xb (by omega) HC1.out.2.2.1 (by omega) HC1.out.2.2.2.1
              have HF := Lib.hid (And.intro (ExtQ.cat HQ.out.2.1 HQ.out.2.2.1 HQ.out.2.2.2.1 HQ.out.2.2.2.2.1 HQ.out.2.2.2.2.2.1 HC1.out.1 HC1.out.2.1 (by
                rcases HP.out.2.2.2 with ⟨h5, _⟩ | ⟨h5, _⟩
                · exact Or.inl h5
                · exact Or.inr (Nat.le_trans HA.out.1.size h5)) hq2) hxfin)
              clear hq2 hx2 hxfin
              go_wp2_with fail
              go_roundw
              case rel => exact ⟨s + 1, hsk, by go_num, by rw [preTo_yes rest x HT.out.2.1, HT.out.1]; exact HF.out.1, HF.out.2⟩
              case measure => simp [intOf]; omega
            · have hLa2 : ((L : Int) == (a : Int)) = false := by simpa using hLa
              go_wp2_with fail
              refine HT.out.2.2.2.2.mono ?_
              rintro e1 wf ⟨rfl, hbf⟩
              clear hc0 hc1 hc2 hc3 hc4 hc5 hc6 hc7 hf6 hf7
              obtain ⟨hx3, hx4⟩ := HW.out wf hbf
              have HF := Lib.hid (And.intro (HX.out.1.next hbf) (HX.out.2.next hbf))
              clear hbf
              go_wp2_with fail
              go_roundw
              case rel => exact ⟨s + 1, hsk, by go_num, by rw [preTo_no rest x (by rw [HT.out.2.1]; exact hLa)]; exact HF.out.1, HF.out.2⟩
              case measure => simp [intOf]; omega
          · obtain rfl : s = K := by omega
            have hsk2 : ¬ (s : Int) < (s : Int) := by omega
            have HF := Lib.hid (And.intro hq hxr)
            clear hq hxr
            go_wp2_with fail
            go_end0
            exact ⟨⟨_, rfl⟩, HF.out.1, HF.out.2⟩
end Go.Proofs.YtmienemnjikgdaaDoor
end
section
namespace Go.Proofs.YtmienemnjikgdaaDoor
open Go.RowKit Go.Shelf Go.Extern.Stop Go.Stop Go.Extern WordM RuleM
attribute [local go_sem] Oper.semAt_some

/-- a search's box as it is made: its cells, none frozen -/
theorem zero8 (V : World) (b : Nat) (h : V.heap[b]? = some (.cells #[.int .i64 0, .int .i64 0, .slice none 0 0, .slice none 0 0, .slice none 0 0, .int .i64 0, .slice none 0 0, .bool false] 91 (0, 0))) :
    (V.cell? ⟨b, 0, none⟩ = some (.int .i64 0) ∧ V.cell? ⟨b, 1, none⟩ = some (.int .i64 0) ∧ V.cell? ⟨b, 2, none⟩ = some (.slice none 0 0) ∧ V.cell? ⟨b, 3, none⟩ = some (.slice none 0 0) ∧ V.cell? ⟨b, 4, none⟩ = some (.slice none 0 0) ∧ V.cell? ⟨b, 5, none⟩ = some (.int .i64 0) ∧ V.cell? ⟨b, 6, none⟩ = some (.slice none 0 0) ∧ V.cell? ⟨b, 7, none⟩ = some (.bool false)) ∧ (V.frozen? ⟨b, 0, none⟩ = false ∧ V.frozen? ⟨b, 1, none⟩ = false ∧ V.frozen? ⟨b, 2, none⟩ = false ∧ V.frozen? ⟨b, 3, none⟩ = false ∧ V.frozen? ⟨b, 4, none⟩ = false ∧ V.frozen? ⟨b, 5, none⟩ = false ∧ V.frozen? ⟨b, 6, none⟩ = false ∧ V.frozen? ⟨b, 7, none⟩ = false) :=
  ⟨⟨cell_of_row V b 0 _ _ _ h, cell_of_row V b 1 _ _ _ h, cell_of_row V b 2 _ _ _ h, cell_of_row V b 3 _ _ _ h, cell_of_row V b 4 _ _ _ h, cell_of_row V b 5 _ _ _ h, cell_of_row V b 6 _ _ _ h, cell_of_row V b 7 _ _ _ h⟩, ⟨frozen_block h, frozen_block h, frozen_block h, frozen_block h, frozen_block h, frozen_block h, frozen_block h, frozen_block h⟩⟩
/-- eight cells of a block are written -/
def put8 (V : World) (b : Nat) (x0 x1 x2 x3 x4 x5 x6 x7 : Value) : World := (((((((V.setCell ⟨b, 0, none⟩ x0).setCell ⟨b, 1, none⟩ x1).setCell ⟨b, 2, none⟩ x2).setCell ⟨b, 3, none⟩ x3).setCell ⟨b, 4, none⟩ x4).setCell ⟨b, 5, none⟩ x5).setCell ⟨b, 6, none⟩ x6).setCell ⟨b, 7, none⟩ x7
theorem put8_far (V : World) (b : Nat) (x0 x1 x2 x3 x4 x5 x6 x7 : Value) (g : Nat) (h : g ≠ b) : (put8 V b x0 x1 x2 x3 x4 x5 x6 x7).heap[g]? = V.heap[g]? := by
  have key : ∀ (V : World) (j : Nat) (x : Value), (V.setCell ⟨b, j, none⟩ x).heap[g]? = V.heap[g]? := fun V j x => Below.heap_setCell V ⟨b, j, none⟩ x g h
  unfold put8
  simp only [key]
theorem put8_size (V : World) (b : Nat) (x0 x1 x2 x3 x4 x5 x6 x7 : Value) : (put8 V b x0 x1 x2 x3 x4 x5 x6 x7).heap.size = V.heap.size := by
  have key : ∀ (V : World) (j : Nat) (x : Value), (V.setCell ⟨b, j, none⟩ x).heap.size = V.heap.size := fun V j x => by simp [World.setCell]
  unfold put8
  simp only [key]
theorem put8_plain (V : World) (b : Nat) (x0 x1 x2 x3 x4 x5 x6 x7 : Value) : (put8 V b x0 x1 x2 x3 x4 x5 x6 x7).os = V.os ∧ (put8 V b x0 x1 x2 x3 x4 x5 x6 x7).tape = V.tape ∧ (put8 V b x0 x1 x2 x3 x4 x5 x6 x7).output = V.output := by
  have k1 : ∀ (V : World) (j : Nat) (x : Value), (V.setCell ⟨b, j, none⟩ x).os = V.os := fun _ _ _ => rfl
  have k2 : ∀ (V : World) (j : Nat) (x : Value), (V.setCell ⟨b, j, none⟩ x).tape = V.tape := fun _ _ _ => rfl
  have k3 : ∀ (V : World) (j : Nat) (x : Value), (V.setCell ⟨b, j, none⟩ x).output = V.output := fun _ _ _ => rfl
  unfold put8
  simp only [k1, k2, k3, and_self]
theorem put8_box (V : World) (b : Nat) (x0 x1 x2 x3 x4 x5 x6 x7 y0 y1 y2 y3 y4 y5 y6 y7 : Value) (t : TypeId) (h : V.heap[b]? = some (.cells #[y0, y1, y2, y3, y4, y5, y6, y7] t (0, 0))) : (put8 V b x0 x1 x2 x3 x4 x5 x6 x7).heap[b]? = some (.cells #[x0, x1, x2, x3, x4, x5, x6, x7] t (0, 0)) := by
  unfold put8
  have h0 : (V.setCell ⟨b, 0, none⟩ x0).heap[b]? = some (.cells #[x0, y1, y2, y3, y4, y5, y6, y7] t (0, 0)) := heap_setCell_same V b 0 _ _ _ h
  generalize V.setCell ⟨b, 0, none⟩ x0 = V0 at h0 ⊢
  have h1 : (V0.setCell ⟨b, 1, none⟩ x1).heap[b]? = some (.cells #[x0, x1, y2, y3, y4, y5, y6, y7] t (0, 0)) := heap_setCell_same V0 b 1 _ _ _ h0
  generalize V0.setCell ⟨b, 1, none⟩ x1 = V1 at h1 ⊢
  have h2 : (V1.setCell ⟨b, 2, none⟩ x2).heap[b]? = some (.cells #[x0, x1, x2, y3, y4, y5, y6, y7] t (0, 0)) := heap_setCell_same V1 b 2 _ _ _ h1
  generalize V1.setCell ⟨b, 2, none⟩ x2 = V2 at h2 ⊢
  have h3 : (V2.setCell ⟨b, 3, none⟩ x3).heap[b]? = some (.cells #[x0, x1, x2, x3, y4, y5, y6, y7] t (0, 0)) := heap_setCell_same V2 b 3 _ _ _ h2
  generalize V2.setCell ⟨b, 3, none⟩ x3 = V3 at h3 ⊢
  have h4 : (V3.setCell ⟨b, 4, none⟩ x4).heap[b]? = some (.cells #[x0, x1, x2, x3, x4, y5, y6, y7] t (0, 0)) := heap_setCell_same V3 b 4 _ _ _ h3
  generalize V3.setCell ⟨b, 4, none⟩ x4 = V4 at h4 ⊢
  have h5 : (V4.setCell ⟨b, 5, none⟩ x5).heap[b]? = some (.cells #[x0, x1, x2, x3, x4, x5, y6, y7] t (0, 0)) := heap_setCell_same V4 b 5 _ _ _ h4
  generalize V4.setCell ⟨b, 5, none⟩ x5 = V5 at h5 ⊢
  have h6 : (V5.setCell ⟨b, 6, none⟩ x6).heap[b]? = some (.cells #[x0, x1, x2, x3, x4, x5, x6, y7] t (0, 0)) := heap_setCell_same V5 b 6 _ _ _ h5
  generalize V5.setCell ⟨b, 6, none⟩ x6 = V6 at h6 ⊢
  have h7 : (V6.setCell ⟨b, 7, none⟩ x7).heap[b]? = some (.cells #[x0, x1, x2, x3, x4, x5, x6, x7] t (0, 0)) := heap_setCell_same V6 b 7 _ _ _ h6
  exact h7
theorem put8_below {N : Nat} {V W : World} (hb : Below N V W) {b : Nat} (h : N ≤ b) (x0 x1 x2 x3 x4 x5 x6 x7 : Value) : Below N V (put8 W b x0 x1 x2 x3 x4 x5 x6 x7) :=
  ⟨(put8_plain W b x0 x1 x2 x3 x4 x5 x6 x7).1.trans hb.os, (put8_plain W b x0 x1 x2 x3 x4 x5 x6 x7).2.1.trans hb.tape, (put8_plain W b x0 x1 x2 x3 x4 x5 x6 x7).2.2.trans hb.output, by rw [put8_size]; exact hb.size, fun k hk => (put8_far W b x0 x1 x2 x3 x4 x5 x6 x7 k (by omega)).trans (hb.block k hk)⟩
theorem OpenV.toB {base b : Nat} {W W' : World} {g m n : Nat} {f : Nat → Nat → Bool} (h : OpenV base W g m n f) (hb : Below W.heap.size W W') (hne : b < base ∨ W.heap.size ≤ b) : OpenB W'.heap.size b W' g m n f := by
  have hs := hb.size
  refine ⟨fun j hj => ?_, by have := h.lt; omega⟩
  obtain ⟨k, h1, h2, h3, h4⟩ := h.at_ j hj
  exact ⟨k, by omega, by omega, (hb.cell (p := ⟨g, j, none⟩) h.lt.2).trans h3, fun u hu => (hb.cell (p := ⟨k, u, none⟩) h2).trans (h4 u hu)⟩
theorem LstO.base {B B' : Nat} {W : World} {p : Option Addr} {c : Nat} {Es : List MkI} (h : LstO B W p c Es) (hB : B' ≤ B) : LstO B' W p c Es :=
  ⟨ownsRow_base hB h.row, fun i e hi => ⟨(h.own i e hi).1, Nat.le_trans hB (h.own i e hi).2.1, (h.own i e hi).2.2⟩, h.apart⟩
theorem SrchI.next {τ : TypeId} {B h : Nat} {K R : Int} {p q : Option Addr} {n c m d g m1 most : Nat} {W W1 : World} {p6 : Option Addr} {c6 : Nat} {Es : List MkI} {more : Bool} (s : SrchI τ B h K R p q n c m d g m1 most W p6 c6 Es more) (hb : Below W.heap.size W W1) : SrchI τ B h K R p q n c m d g m1 most W1 p6 c6 Es more := by
  have hlt := s.most_le
  exact s.past hb.size (fun b hb' _ => hb.block b hb') (xb := W.heap.size) (by omega) (fun e => by obtain ⟨_, _, hh⟩ := row_block s.lst.row e; exact absurd (heap_ltN hh) (Nat.lt_irrefl _)) (fun i e hi e' => by obtain ⟨_, _, hh⟩ := row_block (s.lst.own i e hi).1 e'; exact absurd (heap_ltN hh) (Nat.lt_irrefl _))
/-- as the search begins -/
def BefS (w : World) (K R : Int) (p q : Option Addr) (n c m d g m1 most N : Nat) (f : Nat → Nat → Bool) (h : Nat) (W : World) : Prop :=
  Rul3 W w.heap.size (.int .i64 K) (.int .i64 R) (.slice p n c) ∧ SrchI 91 W.heap.size h K R p q n c m d g m1 most W none 0 [] false ∧ OpenB W.heap.size h W g m N f ∧ w.heap.size < h ∧ Below w.heap.size w W
theorem BefS.made {w W : World} {K R : Int} {p q : Option Addr} {n c m d g m1 most N : Nat} {f : Nat → Nat → Bool} {b : Nat} {y0 y1 y2 y3 y4 y5 y6 y7 : Value} (hr : Rul3 W w.heap.size (.int .i64 K) (.int .i64 R) (.slice p n c)) (hbox : W.heap[b]? = some (.cells #[y0, y1, y2, y3, y4, y5, y6, y7] 91 (0, 0))) (ho : OpenB W.heap.size b W g m N f) (hb : w.heap.size < b) (hB : Below w.heap.size w W) :
    BefS w K R p q n c m d g m1 most N f b (put8 W b (.int .i64 K) (.int .i64 R) (.slice p n c) (.slice q m d) (.slice (some ⟨g, 0, none⟩) m1 m1) (.int .i64 (most : Int)) (.slice none 0 0) (.bool false)) := by
  obtain ⟨V, hV⟩ : ∃ V, put8 W b (.int .i64 K) (.int .i64 R) (.slice p n c) (.slice q m d) (.slice (some ⟨g, 0, none⟩) m1 m1) (.int .i64 (most : Int)) (.slice none 0 0) (.bool false) = V := ⟨_, rfl⟩
  have h1 := put8_box W b (.int .i64 K) (.int .i64 R) (.slice p n c) (.slice q m d) (.slice (some ⟨g, 0, none⟩) m1 m1) (.int .i64 (most : Int)) (.slice none 0 0) (.bool false) y0 y1 y2 y3 y4 y5 y6 y7 _ hbox
  have h2 := put8_far W b (.int .i64 K) (.int .i64 R) (.slice p n c) (.slice q m d) (.slice (some ⟨g, 0, none⟩) m1 m1) (.int .i64 (most : Int)) (.slice none 0 0) (.bool false)
  have h3 := put8_size W b (.int .i64 K) (.int .i64 R) (.slice p n c) (.slice q m d) (.slice (some ⟨g, 0, none⟩) m1 m1) (.int .i64 (most : Int)) (.slice none 0 0) (.bool false)
  have h4 := put8_below hB (Nat.le_of_lt hb) (.int .i64 K) (.int .i64 R) (.slice p n c) (.slice q m d) (.slice (some ⟨g, 0, none⟩) m1 m1) (.int .i64 (most : Int)) (.slice none 0 0) (.bool false)
  have h5 := put8_plain W b (.int .i64 K) (.int .i64 R) (.slice p n c) (.slice q m d) (.slice (some ⟨g, 0, none⟩) m1 m1) (.int .i64 (most : Int)) (.slice none 0 0) (.bool false)
  rw [hV] at h1 h2 h3 h4 h5 ⊢
  have hX : BelX W.heap.size b W V := ⟨h5.1, h5.2.1, h5.2.2, Nat.le_of_eq h3.symm, fun k _ hk => h2 k hk⟩
  refine ⟨⟨(h2 _ (by omega)).trans hr.heap⟩, ⟨h1, LstO.nothing _ _, Nat.le_refl _⟩, ?_, hb, h4⟩
  have h6 := ho.below hX
  rw [← h3] at h6
  exact h6
theorem BefS.fresh {w W : World} {K R : Int} {p q : Option Addr} {n c m d g m1 most N : Nat} {f : Nat → Nat → Bool} {base : Nat} (hr : Rul3 W w.heap.size (.int .i64 K) (.int .i64 R) (.slice p n c)) (ho : OpenV base W g m N f) (hb : w.heap.size < W.heap.size) (hB : Below w.heap.size w W) :
    BefS w K R p q n c m d g m1 most N f W.heap.size (W.alloc (.cells #[.int .i64 K, .int .i64 R, .slice p n c, .slice q m d, .slice (some ⟨g, 0, none⟩) m1 m1, .int .i64 (most : Int), .slice none 0 0, .bool false] 91)) := by
  have h1 : Below W.heap.size W (W.alloc (.cells #[.int .i64 K, .int .i64 R, .slice p n c, .slice q m d, .slice (some ⟨g, 0, none⟩) m1 m1, .int .i64 (most : Int), .slice none 0 0, .bool false] 91)) := (Below.refl _ _).alloc (Nat.le_refl _) _
  exact ⟨hr.next h1, ⟨heap_newN W _, LstO.nothing _ _, Nat.le_refl _⟩, ho.toB h1 (Or.inr (Nat.le_refl _)), hb, hB.trans (h1.mono hB.size)⟩
/-- what a search from the first nodes found -/
def BefR (B h : Nat) (K R : Int) (p q : Option Addr) (n c m d g m1 most Kn Rn N : Nat) (t l : List Int) (W : World) (v : Value) (wr : World) : Prop :=
  ∃ u : Nat, u ≤ N ∧ v = .int .i64 (u : Int) ∧ ExtQ 91 B h K R p q n c m d g m1 most h W none 0 [] false (preN Kn Rn t l u) wr
/-- Before's answer: lists in own memory -/
def BefPost (w : World) (A : List (List Int)) (more : Bool) (e : Ending) (w' : World) : Prop :=
  ∃ p c Es, e = .returned (.tuple #[.slice p Es.length c, .bool more, .nilIface]) ∧ LstO w.heap.size w' p c Es ∧ lists Es = A ∧ Below w.heap.size w w'
end Go.Proofs.YtmienemnjikgdaaDoor
end
section
namespace Go.Proofs.YtmienemnjikgdaaDoor
open Go.RowKit Go.Shelf Go.Extern.Stop Go.Stop Go.Extern WordM RuleM
attribute [local go_sem] Oper.semAt_some

set_option maxRecDepth 100000 in
set_option maxHeartbeats 8000000 in
theorem oBefore_ok (K R most : Nat) (p q : Option Addr) (n c m d : Nat) (t l : List Int) (w : World) (hn : n = t.length) (hm : m = l.length) (h : IntV w.heap.size w p c t) (h' : IntV w.heap.size w q d l) (ho : OkS K R t) (hl : l.length ≤ 256) (hw : okW K l) (hmost : most ≤ 256) :
    Calls Tryd.prog 24 #[.agg #[.int .i64 (K : Int), .int .i64 (R : Int), .slice p n c], .slice q m d, .int .i64 (most : Int)] w (BefPost w ((preAll K R t l).take most) (decide (most < (preAll K R t l).length))) := by
  have ST := Lib.hid (box_ruleO w (.int .i64 (K : Int)) (.int .i64 (R : Int)) (.slice p n c))
  have cC := fun W a b => ckWord_ok K R p q n c m d 256 t l W hn hm a b ho hl hw (by decide)
  have cO := fun W a b => openO K R (K ^ (2 * R)) p q n c m d t l W hn hm a b ho rfl (by omega)
  have zm : m ≤ 256 := by omega
  obtain ⟨m1, hm1⟩ : ∃ x, m + 1 = x := ⟨_, rfl⟩
  unfold OpenPost at cO
  simp only [hm1] at cO
  obtain ⟨N, hN⟩ : ∃ N, K ^ (2 * R) = N := ⟨_, rfl⟩
  simp only [hN] at cO
  have zN : N ≤ 256 := by rw [← hN]; exact ho.n256
  obtain ⟨D, hD⟩ : ∃ D, 2 * R = D := ⟨_, rfl⟩
  have cN := fun W => nodesO K (R : Int) p n c N W ho.ok.k1 ho.ok.k4 (by rw [hn, ← hN]; exact nod_len ho.ok) (by have := ho.small; omega)
  have cW := fun u W (hu : u ≤ 100000) => wordOfO K R u D p n c W ho.ok.k1 ho.ok.k4 ho.ok.r3 hD.symm hu
  obtain ⟨MB, hMB⟩ : ∃ x, decide (most < (preAll K R t l).length) = x := ⟨_, rfl⟩
  obtain ⟨AA, hAA⟩ : ∃ x, (preAll K R t l).take most = x := ⟨_, rfl⟩
  rw [hMB, hAA]
  have HM := Lib.hid (And.intro hMB hAA)
  clear hMB hAA
  have HC := Lib.hid (And.intro cC (And.intro cO (And.intro cN cW)))
  have H := Lib.hid (And.intro h (And.intro h' (And.intro ho (And.intro hn (And.intro hm (And.intro hm1 (And.intro hN (And.intro hl (And.intro hmost hD)))))))))
  clear cC cO cN cW h h' ho hl hw hN hm1 hn hm hD
  have hmo0 : ¬ (most : Int) < 0 := by omega
  have hmo1 : ¬ (256 : Int) < (most : Int) := by omega
  go_enter Tryd.func24, Tryd.ntmps24
  go_upto_region 1 with fail
  obtain ⟨w0, hw0⟩ : ∃ w0, w0 = w.alloc (.cells #[.int .i64 (K : Int), .int .i64 (R : Int), .slice p n c] 24) := ⟨_, rfl⟩
  rw [← hw0]
  obtain ⟨hb0, hE0⟩ := ST.out w0 hw0
  have HE := Lib.hid (And.intro hE0 hb0)
  obtain ⟨_, hc0, hc1, hc2⟩ := hE0.facts
  clear hw0 hE0 hb0
  go_wp2_with fail
  refine (HC.out.1 w0 (H.out.1.next HE.out.2) (H.out.2.1.next HE.out.2)).mono ?_
  rintro e w1 ⟨rfl, hb1⟩
  have H1 := Lib.hid (And.intro (HE.out.1.next hb1) (HE.out.2.trans (hb1.mono HE.out.2.size)))
  clear hb1 hc0 hc1 hc2
  obtain ⟨_, hc0, hc1, hc2⟩ := H1.out.1.facts
  go_upto_region 8 with fail
  go_cut [10] from 24 (fun v wx => ∃ h g, v = .pointer (some ⟨h, 0, none⟩) ∧ BefS w (K : Int) (R : Int) p q n c m d g m1 most N (opF K N t l) h wx)
  case first =>
    have hdr : Below w1.heap.size w1 w1.drew := (Below.refl _ _).drew
    have hxA : ∀ wx : World, Below w1.heap.size w1 wx → wx.cell? ⟨w.heap.size, 0, none⟩ = some (.int .i64 (K : Int)) ∧ wx.cell? ⟨w.heap.size, 1, none⟩ = some (.int .i64 (R : Int)) ∧ wx.cell? ⟨w.heap.size, 2, none⟩ = some (.slice p n c) := fun wx hb => (H1.out.1.next hb).facts.2
    have hlt0 : w.heap.size < w1.heap.size := H1.out.1.lt
    have hxP : ∀ wx : World, Below w1.heap.size w1 wx → ∀ b, w1.heap.size ≤ b → ∀ x0 x1 x2 x3 x4 x5 x6 x7 : Value, ((put8 wx b x0 x1 x2 x3 x4 x5 x6 x7).cell? ⟨w.heap.size, 0, none⟩ = some (.int .i64 (K : Int)) ∧ (put8 wx b x0 x1 x2 x3 x4 x5 x6 x7).cell? ⟨w.heap.size, 1, none⟩ = some (.int .i64 (R : Int)) ∧ (put8 wx b x0 x1 x2 x3 x4 x5 x6 x7).cell? ⟨w.heap.size, 2, none⟩ = some (.slice p n c)) := fun wx hb b hbb x0 x1 x2 x3 x4 x5 x6 x7 => hxA _ (put8_below hb hbb x0 x1 x2 x3 x4 x5 x6 x7)
    unfold put8 at hxP
    clear hc0 hc1 hc2
    have hdl : Below w1.heap.size w1 (w1.alloc (.cells #[.int .i64 0, .int .i64 0, .slice none 0 0, .slice none 0 0, .slice none 0 0, .int .i64 0, .slice none 0 0, .bool false] 91)).drew := ((Below.refl _ _).alloc (Nat.le_refl _) _).drew
    have hdz : (w1.alloc (.cells #[.int .i64 0, .int .i64 0, .slice none 0 0, .slice none 0 0, .slice none 0 0, .int .i64 0, .slice none 0 0, .bool false] 91)).drew.heap[w1.heap.size]? = some (.cells #[.int .i64 0, .int .i64 0, .slice none 0 0, .slice none 0 0, .slice none 0 0, .int .i64 0, .slice none 0 0, .bool false] 91 (0, 0)) := heap_newN w1 _
    have hdq : w1.heap.size < (w1.alloc (.cells #[.int .i64 0, .int .i64 0, .slice none 0 0, .slice none 0 0, .slice none 0 0, .int .i64 0, .slice none 0 0, .bool false] 91)).drew.heap.size := by show w1.heap.size < (w1.alloc _).heap.size; simp
    have HD := Lib.hid (And.intro hdr (And.intro hdl (And.intro hdz hdq)))
    clear hdz hdq
    go_region_held3 (fun wx => wx.cell? ⟨w.heap.size, 0, none⟩ = some (.int .i64 (K : Int)) ∧ wx.cell? ⟨w.heap.size, 1, none⟩ = some (.int .i64 (R : Int)) ∧ wx.cell? ⟨w.heap.size, 2, none⟩ = some (.slice p n c)) (first | with_reducible exact hxP _ hB2 _ (Nat.le_refl _) _ _ _ _ _ _ _ _ | with_reducible exact hxP _ (hB2.alloc hB2.size _) _ hB2.size _ _ _ _ _ _ _ _ | with_reducible exact hxA _ hB2 | with_reducible exact hxA _ (hB2.alloc hB2.size _) | with_reducible exact hxA _ (Below.refl _ _) | with_reducible exact hxA _ hdr | with_reducible exact hxA _ hdl | go_keep) (first
      | (go_at_call 46; refine (HC.out.2.1 w1.drew (H.out.1.next (H1.out.2.trans (HD.out.1.mono H1.out.2.size))) (H.out.2.1.next (H1.out.2.trans (HD.out.1.mono H1.out.2.size)))).mono ?_; rintro e w2 ⟨g, rfl, hv, hb2⟩; have hB2 : Below w1.heap.size w1 w2 := HD.out.1.trans (hb2.mono HD.out.1.size))
      | (go_at_call 46; refine (HC.out.2.1 _ (H.out.1.next (H1.out.2.trans (HD.out.2.1.mono H1.out.2.size))) (H.out.2.1.next (H1.out.2.trans (HD.out.2.1.mono H1.out.2.size)))).mono ?_; rintro e w2 ⟨g, rfl, hv, hb2⟩; have hB2 : Below w1.heap.size w1 w2 := HD.out.2.1.trans (hb2.mono HD.out.2.1.size); obtain ⟨⟨hz0, hz1, hz2, hz3, hz4, hz5, hz6, hz7⟩, hf0, hf1, hf2, hf3, hf4, hf5, hf6, hf7⟩ := zero8 w2 w1.heap.size ((hb2.block _ HD.out.2.2.2).trans HD.out.2.2.1)))
    · go_wp2_with fail
      go_meet
      exact ⟨_, g, rfl, BefS.fresh (H1.out.1.next hB2) hv (Nat.lt_of_lt_of_le hlt0 hB2.size) (H1.out.2.trans (hB2.mono H1.out.2.size))⟩
    · go_wp2_with fail
      go_meet
      have hM := BefS.made (q := q) (m := m) (d := d) (m1 := m1) (most := most) (H1.out.1.next hB2) ((hb2.block _ HD.out.2.2.2).trans HD.out.2.2.1) (hv.toB (Below.refl _ _) (Or.inl HD.out.2.2.2)) hlt0 (H1.out.2.trans (hB2.mono H1.out.2.size))
      unfold put8 at hM
      exact ⟨_, g, rfl, hM⟩
  case rest =>
    obtain ⟨h, g, rfl, hcut⟩ := hcut
    have HB := Lib.hid hcut
    clear hcut hc0 hc1 hc2
    obtain ⟨_, hc0, hc1, hc2⟩ := HB.out.1.facts
    go_wp2_with fail
    refine (HC.out.2.2.1 wc).mono ?_
    rintro e w3 ⟨rfl, hb3⟩
    have H3 := Lib.hid hb3
    clear hc0 hc1 hc2 hb3
    go_wp2_with fail
    go_loopw [33] (fun v wr => BefR wc.heap.size h (K : Int) (R : Int) p q n c m d g m1 most K R N t l wc v wr) (fun v _ => N - (intOf v).toNat)
    case atStart => exact ⟨0, Nat.zero_le _, rfl, ExtQ.still HB.out.2.1 (Nat.zero_le _) H3.out⟩
    case round =>
      obtain ⟨u, hu, rfl, hq⟩ := hrel
      by_cases hun : u < N
      · have hun2 : (u : Int) < (N : Int) := by omega
        obtain ⟨p7, c7, Es7, q1, q2, q3, q4, q5, q6⟩ := hq
        have hr3 : Rul3 wr w.heap.size (.int .i64 (K : Int)) (.int .i64 (R : Int)) (.slice p n c) := ⟨(q3.block w.heap.size HB.out.1.lt (Nat.ne_of_lt HB.out.2.2.2.1)).trans HB.out.1.heap⟩
        obtain ⟨_, hc0, hc1, hc2⟩ := hr3.facts
        have HQ := Lib.hid (And.intro q1 (And.intro q2 (And.intro q3 (And.intro q4 (And.intro q5 q6)))))
        clear q1 q2 q3 q4 q5 q6 hr3
        go_wp2_with fail
        refine (HC.out.2.2.2 u wr (by omega)).mono ?_
        rintro e1 w4 ⟨xb, xd, rfl, hx, hbx⟩
        have hE7 : Es7.length ≤ most := by rw [← lists_length, HQ.out.2.1]; exact updL_le _ _ _
        have hqs := HQ.out.2.2.1.size
        have hq3 : BelX wc.heap.size h wc w4 := HQ.out.2.2.1.trans (BelX.of hbx hqs)
        have hBW : Below w.heap.size w w4 := HB.out.2.2.2.2.trans (hq3.to HB.out.2.2.2.2.size (Nat.le_of_lt HB.out.2.2.2.1))
        have hxge : wr.heap.size ≤ xb := (row_block hx (b := xb) rfl).1
        have hcall := extendO K R N wc.heap.size w.heap.size h ⟨HB.out.2.2.2.2.size, Nat.le_of_lt HB.out.2.2.2.1⟩ p q n c m d g m1 most t l H.out.2.2.2.1 H.out.2.2.2.2.1 H.out.2.2.2.2.2.1 H.out.2.2.1 H.out.2.2.2.2.2.2.1 H.out.2.2.2.2.2.2.2.1 H.out.2.2.2.2.2.2.2.2.1 l 0 rfl (Nat.zero_le _) w4 p7 c7 Es7 _ xb xd D u (digW K D u) (HQ.out.1.next hbx) hE7 (H.out.1.below hBW) (H.out.2.1.below hBW) (HB.out.2.2.1.below hq3) hq3.size (hx.base hqs) (digW_length _ _ _).symm (by have := H.out.2.2.2.2.2.2.2.2.2; omega) (fun j e he e' => by have h1 := (HQ.out.1.lst.own j e he).2.2.1 xb e'; have h2 := (HQ.out.1.lst.own j e he).2.2.2; omega) hun
        have HCL := Lib.hid hcall
        have HX := Lib.hid (And.intro hbx hxge)
        clear hcall hbx hxge hx hE7 hqs hq3 hBW hc0 hc1 hc2
        go_wp2_with fail
        refine HCL.out.mono ?_
        rintro e2 w5 ⟨⟨v2, rfl⟩, hq2, _⟩
        have HF := Lib.hid (ExtQ.cat (xb := h) HQ.out.2.1 HQ.out.2.2.1 HQ.out.2.2.2.1 HQ.out.2.2.2.2.1 HQ.out.2.2.2.2.2 (BelX.of HX.out.1 HQ.out.2.2.1.size) (fun b hb' _ => HX.out.1.block b hb') (Or.inr HX.out.2) hq2)
        clear hq2
        go_wp2_with fail
        go_roundw
        case rel => exact ⟨u + 1, hun, by go_num, by rw [preN_succ, H.out.2.2.2.2.2.2.1, H.out.2.2.2.2.2.2.2.2.2]; exact HF.out⟩
        case measure => simp [intOf]; omega
      · obtain rfl : u = N := by omega
        have hun2 : ¬ (u : Int) < (u : Int) := by omega
        obtain ⟨p7, c7, Es7, q1, q2, q3, q4, q5, q6⟩ := hq
        have e1 : preN K R t l u = preAll K R t l := by unfold preAll; rw [H.out.2.2.2.2.2.2.1]
        rw [e1] at q1 q2
        have e2 : updB most (lists []) (preAll K R t l) false = MB := (upd_zero most _).2.trans HM.out.1
        have e3 : updL most (lists []) (preAll K R t l) = AA := (upd_zero most _).1.trans HM.out.2
        rw [e2] at q1
        rw [e3] at q2
        obtain ⟨⟨hc0, hc1, hc2⟩, hc3, hc4, hc5, hc6, hc7, hf6, hf7⟩ := q1.facts
        obtain ⟨eL, heL⟩ : ∃ eL, Es7.length = eL := ⟨_, rfl⟩
        rw [heL] at hc6
        have HF := Lib.hid (And.intro q1.lst (And.intro q2 (And.intro q3 heL)))
        clear q1 q2 q3 q4 q5 q6 heL e1 e2 e3 hc0 hc1 hc2 hc3 hc4 hc5 hf6 hf7
        go_wp2_with fail
        go_quiet (fail)
        go_wp2_with fail
        go_ret3
        exact ⟨p7, c7, Es7, by rw [HF.out.2.2.2]; rfl, (HF.out.1.base HB.out.2.2.2.2.size).kept (Nat.le_refl _) (fun _ _ => rfl) (fun _ _ _ _ _ => rfl), HF.out.2.1, (HB.out.2.2.2.2.trans (HF.out.2.2.1.to HB.out.2.2.2.2.size (Nat.le_of_lt HB.out.2.2.2.1))).trans (below_drewN (Below.refl _ _) _)⟩
end Go.Proofs.YtmienemnjikgdaaDoor
end
section
namespace Go.Proofs.YtmienemnjikgdaaDoor
open Go.RowKit Go.Shelf Go.Extern.Stop Go.Stop Go.Extern WordM RuleM

/-- the fault of a search -/
def chkB (k r : Int) (t l : List Int) (most : Int) : Option (List (ByteArray × Int) × Nat) := match chkV k r t l 256 with
  | some y => some y
  | none => if most < 0 then some ([(overOp, 2)], 3) else if 256 < most then some ([(overOp, 2)], 4) else none
theorem chkB_none {k r most : Int} {t l : List Int} (h : chkB k r t l most = none) : ∃ K R M : Nat, k = K ∧ r = R ∧ most = M ∧ OkS K R t ∧ l.length ≤ 256 ∧ okW K l ∧ M ≤ 256 := by
  unfold chkB at h
  cases hq : chkV k r t l 256 with
  | some y => rw [hq] at h; cases h
  | none =>
    rw [hq] at h
    obtain ⟨K, R, rfl, rfl, ho, hl, hw⟩ := chkV_none hq
    simp only at h
    split at h
    · cases h
    · split at h
      · cases h
      · exact ⟨K, R, most.toNat, rfl, rfl, by omega, ho, hl, hw, by omega⟩
theorem chkB_num {k r most : Int} {t l : List Int} : ∀ y, chkB k r t l most = some y → 1 ≤ y.2 ∧ y.2 ≤ 11 := fun y h => by
  unfold chkB at h
  cases hq : chkV k r t l 256 with
  | some z => rw [hq] at h; obtain rfl := Option.some.inj h; exact chkV_num _ hq
  | none =>
    rw [hq] at h
    simp only at h
    split at h
    · obtain rfl := Option.some.inj h; simp
    · split at h
      · obtain rfl := Option.some.inj h; simp
      · cases h
set_option maxRecDepth 100000 in
set_option maxHeartbeats 8000000 in
theorem oBefore_bad (k r most : Int) (p q : Option Addr) (n c m d : Nat) (t l : List Int) (w : World) (A : Nat → Addr) (hr : Roots w A) (hn : n = t.length) (hm : m = l.length) (h : IntV w.heap.size w p c t) (h' : IntV w.heap.size w q d l) (L : List (ByteArray × Int)) (M : Nat) (hc : chkB k r t l most = some (L, M)) :
    Calls Tryd.prog 24 #[.agg #[.int .i64 k, .int .i64 r, .slice p n c], .slice q m d, .int .i64 most] w (FErr3 w A L M (.slice none 0 0) (.bool false)) := by
  unfold chkB at hc
  cases hq : chkV k r t l 256 with
  | some y =>
    rw [hq] at hc
    obtain rfl := Option.some.inj hc
    have ST := Lib.hid (box_ruleO w (.int .i64 k) (.int .i64 r) (.slice p n c))
    have HC := Lib.hid (fun W hr a b => ckWord_none k r p q n c m d 256 t l W A hr hn hm a b (by decide) L M hq)
    have H := Lib.hid (And.intro h (And.intro h' hr))
    clear h h' hr hc hn hm hq
    go_enter Tryd.func24, Tryd.ntmps24
    go_upto_region 1 with fail
    obtain ⟨w0, hw0⟩ : ∃ w0, w0 = w.alloc (.cells #[.int .i64 k, .int .i64 r, .slice p n c] 24) := ⟨_, rfl⟩
    rw [← hw0]
    obtain ⟨hb0, hE0⟩ := ST.out w0 hw0
    have HE := Lib.hid (And.intro hE0 hb0)
    obtain ⟨_, hc0, hc1, hc2⟩ := hE0.facts
    clear hw0 hE0 hb0
    go_wp2_with fail
    refine (HC.out w0 (H.out.2.2.below HE.out.2) (H.out.1.next HE.out.2) (H.out.2.1.next HE.out.2)).mono ?_
    rintro e w1 ⟨b, rfl, hl1, hb1⟩
    have H1 := Lib.hid (And.intro hl1 (HE.out.2.trans (hb1.mono HE.out.2.size)))
    clear hl1 hb1 hc0 hc1 hc2
    go_wp2_with fail
    go_ret3
    exact ⟨b, rfl, H1.out.1, H1.out.2⟩
  | none =>
    rw [hq] at hc
    obtain ⟨K, R, rfl, rfl, ho, hl, hw⟩ := chkV_none hq
    have ST := Lib.hid (box_ruleO w (.int .i64 (K : Int)) (.int .i64 (R : Int)) (.slice p n c))
    have HC := Lib.hid (fun W a b => ckWord_ok K R p q n c m d 256 t l W hn hm a b ho hl hw (by decide))
    have H := Lib.hid (And.intro h (And.intro h' hr))
    clear h h' hr hn hm hq ho hl hw
    simp only at hc
    split at hc
    · rename_i hm0
      obtain ⟨rfl, rfl⟩ := Prod.mk.inj (Option.some.inj hc)
      clear hc
      go_enter Tryd.func24, Tryd.ntmps24
      go_upto_region 1 with fail
      obtain ⟨w0, hw0⟩ : ∃ w0, w0 = w.alloc (.cells #[.int .i64 (K : Int), .int .i64 (R : Int), .slice p n c] 24) := ⟨_, rfl⟩
      rw [← hw0]
      obtain ⟨hb0, hE0⟩ := ST.out w0 hw0
      have HE := Lib.hid (And.intro hE0 hb0)
      obtain ⟨_, hc0, hc1, hc2⟩ := hE0.facts
      clear hw0 hE0 hb0
      go_wp2_with fail
      refine (HC.out w0 (H.out.1.next HE.out.2) (H.out.2.1.next HE.out.2)).mono ?_
      rintro e w1 ⟨rfl, hb1⟩
      have H1 := Lib.hid (HE.out.2.trans (hb1.mono HE.out.2.size))
      clear hb1 hc0 hc1 hc2
      go_wp2_with fail
      refine (new_at overOp 2 3 w1 A (H.out.2.2.below H1.out) (by decide)).mono ?_
      rintro e w3 ⟨b3, rfl, hl3, hb3⟩
      have H3 := Lib.hid (And.intro (H1.out.trans (hb3.mono H1.out.size)) hl3)
      clear hb3 hl3
      go_wp2_with fail
      go_ret3
      exact ⟨b3, rfl, Chn.one H3.out.2, H3.out.1⟩
    · rename_i hm0
      split at hc
      · rename_i hm1
        obtain ⟨rfl, rfl⟩ := Prod.mk.inj (Option.some.inj hc)
        clear hc
        go_enter Tryd.func24, Tryd.ntmps24
        go_upto_region 1 with fail
        obtain ⟨w0, hw0⟩ : ∃ w0, w0 = w.alloc (.cells #[.int .i64 (K : Int), .int .i64 (R : Int), .slice p n c] 24) := ⟨_, rfl⟩
        rw [← hw0]
        obtain ⟨hb0, hE0⟩ := ST.out w0 hw0
        have HE := Lib.hid (And.intro hE0 hb0)
        obtain ⟨_, hc0, hc1, hc2⟩ := hE0.facts
        clear hw0 hE0 hb0
        go_wp2_with fail
        refine (HC.out w0 (H.out.1.next HE.out.2) (H.out.2.1.next HE.out.2)).mono ?_
        rintro e w1 ⟨rfl, hb1⟩
        have H1 := Lib.hid (HE.out.2.trans (hb1.mono HE.out.2.size))
        clear hb1 hc0 hc1 hc2
        go_wp2_with fail
        refine (new_at overOp 2 4 w1 A (H.out.2.2.below H1.out) (by decide)).mono ?_
        rintro e w3 ⟨b3, rfl, hl3, hb3⟩
        have H3 := Lib.hid (And.intro (H1.out.trans (hb3.mono H1.out.size)) hl3)
        clear hb3 hl3
        go_wp2_with fail
        go_ret3
        exact ⟨b3, rfl, Chn.one H3.out.2, H3.out.1⟩
      · cases hc
end Go.Proofs.YtmienemnjikgdaaDoor
end
section
namespace Go.Proofs.YtmienemnjikgdaaDoor
open Go.RowKit Go.Shelf Go.Extern.Stop Go.Stop Go.Extern WordM RuleM

/-- a list of lists, for reading alone -/
structure LstV (W : World) (p : Option Addr) (c : Nat) (Ls : List Sl) : Prop where
  le : Ls.length ≤ c
  cell : Ls ≠ [] → ∃ b off, p = some ⟨b, off, none⟩ ∧ b < W.heap.size ∧ ∀ i s, Ls[i]? = some s → W.cell? ⟨b, off + i, none⟩ = some s.val
  own : ∀ (i : Nat) (s : Sl), Ls[i]? = some s → IntV W.heap.size W s.1 s.2.1 s.2.2
theorem LstV.next {W W' : World} {p : Option Addr} {c : Nat} {Ls : List Sl} (h : LstV W p c Ls) (hb : Below W.heap.size W W') : LstV W' p c Ls :=
  ⟨h.le, fun hne => by
    obtain ⟨b, off, h1, h2, h3⟩ := h.cell hne
    exact ⟨b, off, h1, Nat.lt_of_lt_of_le h2 hb.size, fun i s hs => (hb.cell (p := ⟨b, off + i, none⟩) h2).trans (h3 i s hs)⟩, fun i s hs => (h.own i s hs).next hb⟩
theorem LstO.toV {B : Nat} {W : World} {p : Option Addr} {c : Nat} {Es : List MkI} (h : LstO B W p c Es) : LstV W p c (Es.map (·.1)) := by
  refine ⟨?_, fun hne => ?_, fun i s hs => ?_⟩
  · rw [List.length_map]
    rcases h.row.2 with ⟨hv, _⟩ | ⟨g, cap, cur, hv, _, _, h1, _⟩
    · injection hv with _ _ h3; omega
    · injection hv with _ _ h3; omega
  · rw [ne_eq, List.map_eq_nil_iff] at hne
    have hlen : Es.length ≠ 0 := by simpa using hne
    rcases h.row.2 with ⟨hv, _⟩ | ⟨g, cap, cur, hv, hg, hh, h1⟩
    · injection hv with _ h2; omega
    · injection hv with h2 h3 h4
      subst h2
      refine ⟨g, 0, rfl, heap_ltN hh, fun i s hs => ?_⟩
      rw [Nat.zero_add]
      rw [List.getElem?_map, Option.map_eq_some_iff] at hs
      obtain ⟨e, he, rfl⟩ := hs
      have hi : i < Es.length := (List.getElem?_eq_some_iff.1 he).1
      have hr := h.row
      rw [h4] at hr
      refine (World.ownsRow.cellAt hr i (by omega)).trans ?_
      rw [List.getElem?_map, he]; rfl
  · rw [List.getElem?_map, Option.map_eq_some_iff] at hs
    obtain ⟨e, he, rfl⟩ := hs
    exact (h.own i e he).1.toV
set_option maxRecDepth 100000 in
set_option maxHeartbeats 4000000 in
theorem lists_true (p q : Option Addr) (n c d : Nat) (Ls Ks : List Sl) (w : World) (hn : n = Ls.length) (hm : n = Ks.length) (hs : ∀ (i : Nat) (s t : Sl), Ls[i]? = some s → Ks[i]? = some t → s.2.2 = t.2.2) (h : LstV w p c Ls) (h' : LstV w q d Ks) (hn2 : n ≤ 100000) :
    Calls Tryd.prog 26 #[.slice p n c, .slice q n d] w (Quiet (.bool true) w) := by
  have hnc : n ≤ c := by have := h.le; omega
  have hnd : n ≤ d := by have := h'.le; omega
  have H := Lib.hid (And.intro h (And.intro h' (And.intro hn (And.intro hm hs))))
  clear h h' hn hm hs
  go_enter Tryd.func26, Tryd.ntmps26
  go_wp2_with fail
  go_loopw [5] (fun v wx => ∃ j : Nat, j ≤ n ∧ v = .int .i64 j ∧ Hid (∃ a, wx = w.drewN a)) (fun i _ => n - (intOf i).toNat)
  case atStart => exact ⟨0, Nat.zero_le _, rfl, ⟨0, rfl⟩⟩
  case round =>
    obtain ⟨j, hj, rfl, hbx⟩ := hrel
    by_cases hlt : j < n
    · have hbw : Below w.heap.size w wr := hbx.out.elim fun a e => e ▸ below_drewN (Below.refl _ _) a
      obtain ⟨b, off, rfl, hb, hc⟩ := (H.out.1.next hbw).cell (by rintro rfl; have := H.out.2.2.1; simp at this; omega)
      obtain ⟨b', off', rfl, hb', hc'⟩ := (H.out.2.1.next hbw).cell (by rintro rfl; have := H.out.2.2.2.1; simp at this; omega)
      obtain ⟨s, hs⟩ : ∃ s, Ls[j]? = some s := ⟨_, List.getElem?_eq_getElem (by have := H.out.2.2.1; omega)⟩
      obtain ⟨t, ht⟩ : ∃ t, Ks[j]? = some t := ⟨_, List.getElem?_eq_getElem (by have := H.out.2.2.2.1; omega)⟩
      have h1 := hc j s hs
      have h2 := hc' j t ht
      have hv1 := (H.out.1.next hbw).own j s hs
      have hv2 := (H.out.2.1.next hbw).own j t ht
      have he := H.out.2.2.2.2 j s t hs ht
      obtain ⟨p1, c1, l1⟩ := s
      obtain ⟨p2, c2, l2⟩ := t
      simp only at he hv1 hv2
      subst he
      simp only [Sl.val] at h1 h2
      have hq : ∀ a, Calls Tryd.prog 21 #[.slice p1 l1.length c1, .slice p2 l1.length c2] (wr.drewN a) (Quiet (.bool true) (wr.drewN a)) := fun a => by
        have := ints_q p1 p2 l1.length l1.length c1 c2 l1 l1 (wr.drewN a) rfl rfl (hv1.next (below_drewN (Below.refl _ _) a)) (hv2.next (below_drewN (Below.refl _ _) a))
        rwa [sameI_self] at this
      have HC := Lib.hid hq
      obtain ⟨k1, hk1⟩ : ∃ k, l1.length = k := ⟨_, rfl⟩
      rw [hk1] at h1 h2 HC
      clear hbw hc hc' hs ht hv1 hv2 hq hk1
      go_wp2_with fail
      go_quiet ((go_at_call 21; exact Quiet.add (HC.out _)))
      go_wp2_with fail
      go_roundw
      case rel => exact ⟨j + 1, by omega, by go_num, quiet_more hbx.out _⟩
      case measure => simp [intOf]; omega
    · obtain rfl : j = n := by omega
      go_wp2_with fail
      go_ret
      exact ⟨rfl, hbx.out⟩
end Go.Proofs.YtmienemnjikgdaaDoor
end
section
namespace Go.Proofs.YtmienemnjikgdaaDoor
open Go.RowKit WordM

theorem cmp_w (p q : Option Addr) (n m c d : Nat) (l k : List Int) (w : World) (hn : n = l.length) (hm : m = k.length) (h : IntV w.heap.size w p c l) (h' : IntV w.heap.size w q d k) :
    Calls Tryd.prog 27 #[.slice p n c, .slice q m d] w fun e w' => e = .returned (.int .i64 (cmpW l k)) ∧ w = w' := by
  by_cases hlen : l.length = k.length
  · have hc := scompare_any p q n m c d l k w hn (hm.trans hlen.symm) hlen h h'
    have hnm : n = m := by omega
    subst hnm
    have hw : cmpW l k = lexC l k := cmpW_len hlen
    have H := Lib.hid (And.intro hc hw)
    clear hc hw h h' hlen hn hm
    go_enter Tryd.func27, Tryd.ntmps27
    go_wp2_with fail
    refine H.out.1.mono ?_
    rintro e w' ⟨rfl, rfl⟩
    go_wp2_with fail
    go_ret
    exact ⟨by rw [H.out.2]; rfl, rfl⟩
  · have hc := compare_any (n : Int) (m : Int) w
    have hw : cmpW l k = cmpInt (n : Int) (m : Int) := by
      unfold cmpW cmpInt
      subst hn hm
      by_cases h1 : l.length < k.length
      · rw [if_pos h1, if_pos (by omega)]
      · rw [if_neg h1, if_pos (by omega), if_neg (by omega), if_pos (by omega)]
    have hne : ((n : Int) == (m : Int)) = false := by rw [beq_eq_false_iff_ne]; omega
    have hne2 : ((n : Int) != (m : Int)) = true := by rw [bne_iff_ne]; omega
    have H := Lib.hid (And.intro hc hw)
    clear hc hw h h' hlen hn hm
    go_enter Tryd.func27, Tryd.ntmps27
    go_wp2_with fail
    refine H.out.1.mono ?_
    rintro e w' ⟨rfl, rfl⟩
    go_wp2_with fail
    go_ret
    exact ⟨by rw [H.out.2]; rfl, rfl⟩

theorem IntPost.under {w W : World} {l : List Int} {e : Ending} {w' : World} (hb : Below w.heap.size w W) (h : IntPost W l e w') : IntPost w l e w' := by
  obtain ⟨p, c, he, ho, hb'⟩ := h
  exact ⟨p, c, he, ho.base hb.size, hb.trans (hb'.mono hb.size)⟩

/-- how far a turn goes -/
def turnN (l : List Int) (z : Int) : Nat := (z % (l.length : Int)).toNat
def turnW (l : List Int) (z : Int) : List Int := rot l (turnN l z)
theorem turnW_length (l : List Int) (z : Int) : (turnW l z).length = l.length := rot_length _ _
end Go.Proofs.YtmienemnjikgdaaDoor
end
section
namespace Go.Proofs.YtmienemnjikgdaaDoor
open Go.RowKit WordM

open Classical in
/-- the period of a word; 0 for the empty one -/
noncomputable def perW (l : List Int) : Nat := if h : l.length ≠ 0 ∧ ∃ p, IsPer l p then h.2.choose else 0
theorem perW_eq {l : List Int} {p : Nat} (h0 : l.length ≠ 0) (h : IsPer l p) : perW l = p := by
  unfold perW
  have hx : l.length ≠ 0 ∧ ∃ p, IsPer l p := ⟨h0, p, h⟩
  rw [dif_pos hx]
  exact isPer_unique hx.2.choose_spec h
theorem perW_nil : perW [] = 0 := by unfold perW; rw [dif_neg (by simp)]
open Classical in
/-- the least turn of a word; 0 for the empty one -/
noncomputable def leastW (l : List Int) : Nat := if h : ∃ p, IsLeast l p then h.choose else 0
theorem leastW_eq {l : List Int} {p : Nat} (h : IsLeast l p) : leastW l = p := by
  unfold leastW
  have hx : ∃ p, IsLeast l p := ⟨p, h⟩
  rw [dif_pos hx]
  exact isLeast_unique hx.choose_spec h
theorem leastW_nil : leastW [] = 0 := by
  unfold leastW
  rw [dif_neg]
  rintro ⟨p, h⟩
  have := h.1
  simp at this
theorem leastW_is {l : List Int} (h : 0 < l.length) : IsLeast l (leastW l) := by
  obtain ⟨p, hp⟩ := least_exists h
  rw [leastW_eq hp]; exact hp

theorem piece_same {l : List Int} {q n : Nat} (hn : n = l.length) (hd : q ∣ n) (h : sameI (l.drop q) (l.take (n - q)) = true) : Per l q := by
  have e : l.drop q = l.take (n - q) := by simpa [sameI] using h
  refine per_piece (by rw [← hn]; exact hd) (fun i hi => ?_)
  have h1 := congrArg (fun x : List Int => x[i]?) e
  simp only [List.getElem?_drop, List.getElem?_take] at h1
  rw [if_pos (by omega)] at h1
  rw [Nat.add_comm]
  exact h1
theorem piece_other {l : List Int} {q n : Nat} (hn : n = l.length) (hq : q ≤ n) (h : sameI (l.drop q) (l.take (n - q)) = false) : ¬ Per l q := by
  intro k
  have e : ¬ l.drop q = l.take (n - q) := by simpa [sameI] using h
  apply e
  apply List.ext_getElem?
  intro i
  rw [List.getElem?_drop, List.getElem?_take]
  by_cases hi : i < n - q
  · rw [if_pos hi, Nat.add_comm]
    exact piece_per k i (by omega)
  · rw [if_neg hi, List.getElem?_eq_none (by omega)]
end Go.Proofs.YtmienemnjikgdaaDoor
end
section
namespace Go.Proofs.YtmienemnjikgdaaDoor
open Go.RowKit Go.Extern.Stop Go.Stop Go.Extern WordM

/-- the word behind it, and no error -/
def NextOk (w : World) (k : Nat) (l : List Int) (e : Ending) (w' : World) : Prop := ∃ x, IsNext k l x ∧ IntOk w x e w'

theorem set_mid {l : List Int} {i : Nat} {y v : Int} (h : l[i]? = some y) (n : Nat) (z : Int) : (l.take (i + 1) ++ List.replicate n z).set i v = l.take i ++ v :: List.replicate n z := by
  have hi := ltI h
  have e : l.take (i + 1) = l.take i ++ [y] := by rw [List.take_add_one, h]; rfl
  rw [e, List.append_assoc, List.set_append_right _ _ (by rw [List.length_take]; omega), List.length_take, Nat.min_eq_left (by omega), Nat.sub_self]
  rfl
theorem take_rep {l : List Int} {i n : Nat} {y z : Int} (h : l[i]? = some y) (e : l = l.take (i + 1) ++ List.replicate n z) : l = l.take i ++ y :: List.replicate n z := by
  have e2 : l.take (i + 1) = l.take i ++ [y] := by rw [List.take_add_one, h]; rfl
  rw [e2, List.append_assoc] at e
  exact e
def NextRel (w : World) (k : Nat) (l : List Int) (p : Option Addr) (c : Nat) (v : Value) (wr : World) : Prop :=
  ∃ j : Nat, j ≤ l.length ∧ v = .int .i64 ((j : Int) - 1) ∧ l = l.take j ++ List.replicate (l.length - j) ((k : Int) - 1) ∧ IntO w.heap.size wr p c (l.take j ++ List.replicate (l.length - j) 0) ∧ Below w.heap.size w wr
end Go.Proofs.YtmienemnjikgdaaDoor
end
section
namespace Go.Proofs.YtmienemnjikgdaaDoor
open Go.RowKit NatM

theorem bsOf_strOfNums {l : List Nat} (h : ∀ x ∈ l, x < 256) : bsOf (strOfNums (l.map fun (d : Nat) => (d : Int))) = l := by
  unfold bsOf
  rw [strOfNums_data, List.map_map, List.map_map]
  conv => rhs; rw [← List.map_id l]
  apply List.map_congr_left
  intro x hx
  have := h x hx
  simp [UInt8.toNat_ofNat']
  omega
theorem strOfNums_bsOf (s : ByteArray) : strOfNums ((bsOf s).map fun (d : Nat) => (d : Int)) = s := by
  have h : (strOfNums ((bsOf s).map fun (d : Nat) => (d : Int))).data.toList = s.data.toList := by
    rw [strOfNums_data]
    unfold bsOf
    rw [List.map_map, List.map_map]
    conv => rhs; rw [← List.map_id s.data.toList]
    apply List.map_congr_left
    intro x _
    simp
  cases s with
  | mk d =>
    have := congrArg List.toArray h
    simp at this
    exact congrArg ByteArray.mk this
end Go.Proofs.YtmienemnjikgdaaDoor
end
section
namespace Go.Proofs.YtmienemnjikgdaaDoor
open Go.RowKit Go.Extern.Stop Go.Stop Go.Extern WordM NatM


/-- a text's digits as symbols -/
def sW (s : ByteArray) : List Int := (bsOf s).map fun (b : Nat) => (b : Int) - 48
theorem sW_length (s : ByteArray) : (sW s).length = s.size := by unfold sW; rw [List.length_map, bsOf_length]
theorem sW_get {s : ByteArray} {k : Nat} (h : k < s.size) : (sW s)[k]? = some ((s[k].toNat : Int) - 48) := by
  unfold sW
  rw [List.getElem?_map, bsOf_get h]; rfl
/-- of a text that is refused the number is 6 in place of 2 -/
def code6 (m : Nat) : Nat := if m = 2 then 6 else m

def ParseWRel (w : World) (n : Nat) (l : List Int) (p : Option Addr) (c : Nat) (J : Nat) (v : Value) (wr : World) : Prop :=
  ∃ j : Nat, j ≤ J ∧ v = .int .i64 (j : Int) ∧ IntO w.heap.size wr p c (l.take j ++ List.replicate (n - j) 0) ∧ Below w.heap.size w wr
theorem put_next {l : List Int} {j n : Nat} {x : Int} (h : l[j]? = some x) (hj : j < n) : (l.take j ++ List.replicate (n - j) 0).set j x = l.take (j + 1) ++ List.replicate (n - (j + 1)) 0 := by
  have hl := ltI h
  rw [List.set_append_right _ _ (by rw [List.length_take]; omega), List.length_take, Nat.min_eq_left (by omega), Nat.sub_self, List.take_add_one, h]
  obtain ⟨m, hm⟩ : ∃ m, n - j = m + 1 := ⟨n - j - 1, by omega⟩
  rw [hm, show n - (j + 1) = m by omega, List.replicate_succ]
  simp
theorem mid_len {l : List Int} {j n : Nat} (hl : j ≤ l.length) (hj : j ≤ n) : (l.take j ++ List.replicate (n - j) (0 : Int)).length = n := by simp; omega


end Go.Proofs.YtmienemnjikgdaaDoor
end
section
namespace Go.Proofs.YtmienemnjikgdaaDoor
open Go.RowKit Go.Extern.Stop Go.Stop Go.Extern WordM NatM

/-- bytes in a block of the call's own -/
def ByteO (base : Nat) (w : World) (g n : Nat) (l : List Nat) : Prop := w.ownsRow base 5 1 (.slice (some ⟨g, 0, none⟩) n n) n (cells8 l)
theorem ByteO.made (w : World) (n : Nat) (hn : n ≤ 17592186044000) : ByteO w.heap.size (w.alloc (.cells (madeCells #[.int .u8 0] n) 5)) w.heap.size n (List.replicate n 0) := by
  refine ⟨by simp [cells8], Or.inr ⟨w.heap.size, n, madeCells #[.int .u8 0] n, rfl, Nat.le_refl _, heap_newN _ _, Nat.le_refl _, by unfold maxLen; omega, by rw [size_madeCells, Nat.mul_one], ?_⟩⟩
  rw [madeI_list, Nat.mul_one, List.take_of_length_le (by simp)]
  simp [cells8]

/-- the digits of a word's text -/
def txL (l : List Int) : List Nat := l.map fun x => 48 + x.toNat
def txW (l : List Int) : ByteArray := strOfNums ((txL l).map fun (d : Nat) => (d : Int))
theorem txL_length (l : List Int) : (txL l).length = l.length := by simp [txL]
theorem txL_get {l : List Int} {j : Nat} {x : Int} (h : l[j]? = some x) : (txL l)[j]? = some (48 + x.toNat) := by simp [txL, h]
theorem txW_size (l : List Int) : (txW l).size = l.length := by unfold txW; rw [strOfNums_size, List.length_map, txL_length]
/-- read back -/
theorem sW_txW {k : Nat} (hk : k ≤ 4) {l : List Int} (h : okW k l) : sW (txW l) = l := by
  unfold sW txW
  rw [bsOf_strOfNums]
  · unfold txL
    rw [List.map_map]
    conv => rhs; rw [← List.map_id l]
    apply List.map_congr_left
    intro x hx
    have := h x hx
    simp
    omega
  · intro x hx
    unfold txL at hx
    obtain ⟨y, hy, rfl⟩ := List.mem_map.1 hx
    have := h y hy
    omega
/-- written again -/
theorem txW_sW {k : Nat} {s : ByteArray} (h : okW k (sW s)) : txW (sW s) = s := by
  unfold txW
  have e : txL (sW s) = bsOf s := by
    unfold txL
    unfold sW at h ⊢
    rw [List.map_map]
    conv => rhs; rw [← List.map_id (bsOf s)]
    apply List.map_congr_left
    intro x hx
    have := h ((x : Int) - 48) (List.mem_map.2 ⟨x, hx, rfl⟩)
    simp
    omega
  rw [e, strOfNums_bsOf]
theorem put_nextB {l : List Nat} {j n x : Nat} (h : l[j]? = some x) (hj : j < n) : (l.take j ++ List.replicate (n - j) 0).set j x = l.take (j + 1) ++ List.replicate (n - (j + 1)) 0 := by
  have hl := (List.getElem?_eq_some_iff.1 h).1
  rw [List.set_append_right _ _ (by rw [List.length_take]; omega), List.length_take, Nat.min_eq_left (by omega), Nat.sub_self, List.take_add_one, h]
  obtain ⟨m, hm⟩ : ∃ m, n - j = m + 1 := ⟨n - j - 1, by omega⟩
  rw [hm, show n - (j + 1) = m by omega, List.replicate_succ]
  simp

/-- a text, and no error -/
def StrOk (w : World) (s : ByteArray) (e : Ending) (w' : World) : Prop := e = .returned (.tuple #[.string s, .nilIface]) ∧ Below w.heap.size w w'
def TextWRel (w : World) (n g : Nat) (l : List Int) (v : Value) (wr : World) : Prop :=
  ∃ j : Nat, j ≤ n ∧ v = .int .i64 (j : Int) ∧ ByteO w.heap.size wr g n ((txL l).take j ++ List.replicate (n - j) 0) ∧ Below w.heap.size w wr
end Go.Proofs.YtmienemnjikgdaaDoor
end
section
namespace Go.Proofs.YtmienemnjikgdaaDoor
open Go.ChangeShapes Go.WideShapes Go.ChangeAt Go.RowKit

theorem own : ownKnob Tryd.prog.godebug = none := by kernel_rfl
theorem star : "*" ++ "errors.errorString" = "*errors.errorString" := by decide
theorem row94 (u : TypeId) (h : Tryd.prog.typeName? 3 u = some "*errors.errorString") : u = 150 :=
  typeName_ptr_named (nm := "errors.errorString") (by rw [star]; kernel_rfl) (by kernel_rfl) (by decide) u (by rw [star]; exact h)
theorem cells96 : Tryd.prog.cellsOf 171 = 1 := by kernel_rfl
theorem cells9 : Tryd.prog.cellsOf 9 = 1 := by kernel_rfl

set_option maxRecDepth 100000 in
/-- The sentinels of a list: each variable points to a string's cell of its own. -/
theorem sents {W : World} : ∀ (l : List (String × DataW Unit)) (ps : List MemPlace), DataW.LaidVars Tryd.prog W l ps →
    (∀ x ∈ l, ∃ text, x.2 = .iface "*errors.errorString" (.ptr (.agg [.lit (.string text)]))) → (∀ x ∈ l, ∀ g, Tryd.prog.globalNamed x.1 = some g → (Tryd.prog.globals[g]?).map (·.type) = some 28) →
    (∀ b off, MemPlace.cell b off ∈ ps → (∃ c t, W.heap[b]? = some (.cells c t (0, 0))) ∧ ∀ u v, W.cell? ⟨b, off, none⟩ = some (.iface u v) → Value.okWide Tryd.prog W .any 0 u v) →
    ∃ ads : List Addr, ads.length = l.length ∧ (∀ i, i < l.length → ∃ n d a, l[i]? = some (n, d) ∧ ads[i]? = some a ∧ W.var? Tryd.prog n = some #[.iface 150 (.pointer (some a))]) ∧
      (∀ a ∈ ads, (∃ c t, W.heap[a.block]? = some (.cells c t (0, 0))) ∧ MemPlace.cell a.block a.off ∈ ps) ∧ (ps.Nodup → ads.Nodup)
  | [], _, _, _, _, _ => ⟨[], rfl, fun i h => absurd h (by simp), fun a h => absurd h (by simp), fun _ => List.nodup_nil⟩
  | (n, d) :: r, ps, h, hf, hg, hrows => by
    obtain ⟨g, t, cs, f0, p0, q0, hg0, ht0, hv0, hd0, hr, rfl⟩ := h
    obtain ⟨text, hx⟩ := hf (n, d) (List.mem_cons_self ..)
    simp only at hx
    subst hx
    have ht := hg _ (List.mem_cons_self ..) g hg0
    obtain rfl := Option.some.inj (ht.symm.trans ht0)
    obtain ⟨l0⟩ := cs
    have ok0 : ∀ u v, l0 = [.iface u v] → Value.okWide Tryd.prog W .any 0 u v := fun u v e => by
      subst e
      exact (hrows g 0 (by simp [MemPlace.row])).2 u v (by simpa using World.var?_cell hg0 hv0 0)
    obtain ⟨a, s, rfl, hc, hs, hz, rfl⟩ := errorString_of_trod Tryd.underlying28 row94 Tryd.underlying150 Tryd.underlying171 rfl rfl Tryd.underlying9 cells96 cells9 hd0 ok0
    obtain ⟨ads, h1, h2, h3, h4⟩ := sents r q0 hr (fun x hx => hf x (List.mem_cons_of_mem _ hx)) (fun x hx => hg x (List.mem_cons_of_mem _ hx)) (fun b off hm => hrows b off (List.mem_append_right _ hm))
    refine ⟨a :: ads, by simp [h1], ?_, ?_, ?_⟩
    · intro i hi
      cases i with
      | zero => exact ⟨n, _, a, rfl, rfl, hv0⟩
      | succ i => exact h2 i (by simpa using hi)
    · intro b hb
      rcases List.mem_cons.1 hb with rfl | hb
      · exact ⟨(hrows b.block b.off (by simp [MemPlace.row])).1, by simp [MemPlace.row]⟩
      · exact ⟨(h3 b hb).1, List.mem_append_right _ (h3 b hb).2⟩
    · intro hn
      have hq : q0.Nodup := (List.nodup_append.1 hn).2.1
      refine List.nodup_cons.2 ⟨fun hm => ?_, h4 hq⟩
      have hd := (List.nodup_append.1 hn).2.2 (MemPlace.cell a.block a.off) (by simp [MemPlace.row]) _ (h3 a hm).2
      exact hd rfl

/-- The list of the twelve, ads every row has it behind the handle. -/
def twelve : List (String × DataW Unit) := [("eden/api.BadRule", Rows.laid_eden_api_BadRule), ("eden/api.BadWord", Rows.laid_eden_api_BadWord), ("eden/api.BadArg", Rows.laid_eden_api_BadArg), ("eden/api.TooBig", Rows.laid_eden_api_TooBig), ("eden/api.NoBudget", Rows.laid_eden_api_NoBudget), ("eden/api.BadText", Rows.laid_eden_api_BadText), ("eden/api.BadPatch", Rows.laid_eden_api_BadPatch), ("eden/api.BadCert", Rows.laid_eden_api_BadCert), ("eden/api.NoInverse", Rows.laid_eden_api_NoInverse), ("eden/api.BadLine", Rows.laid_eden_api_BadLine), ("eden/api.BadState", Rows.laid_eden_api_BadState), ("eden/api.Unknown", Rows.laid_eden_api_Unknown)]
theorem twelve_form : ∀ x ∈ twelve, ∃ text, x.2 = .iface "*errors.errorString" (.ptr (.agg [.lit (.string text)])) := by
  intro x hx
  simp only [twelve, List.mem_cons, List.not_mem_nil, or_false] at hx
  rcases hx with rfl | rfl | rfl | rfl | rfl | rfl | rfl | rfl | rfl | rfl | rfl | rfl <;> exact ⟨_, rfl⟩
theorem gBadRule : Tryd.prog.globalNamed "eden/api.BadRule" = some 0 := by kernel_rfl
theorem gtBadRule : (Tryd.prog.globals[0]?).map (·.type) = some 28 := by kernel_rfl
theorem gBadWord : Tryd.prog.globalNamed "eden/api.BadWord" = some 1 := by kernel_rfl
theorem gtBadWord : (Tryd.prog.globals[1]?).map (·.type) = some 28 := by kernel_rfl
theorem gBadArg : Tryd.prog.globalNamed "eden/api.BadArg" = some 2 := by kernel_rfl
theorem gtBadArg : (Tryd.prog.globals[2]?).map (·.type) = some 28 := by kernel_rfl
theorem gTooBig : Tryd.prog.globalNamed "eden/api.TooBig" = some 3 := by kernel_rfl
theorem gtTooBig : (Tryd.prog.globals[3]?).map (·.type) = some 28 := by kernel_rfl
theorem gNoBudget : Tryd.prog.globalNamed "eden/api.NoBudget" = some 4 := by kernel_rfl
theorem gtNoBudget : (Tryd.prog.globals[4]?).map (·.type) = some 28 := by kernel_rfl
theorem gBadText : Tryd.prog.globalNamed "eden/api.BadText" = some 5 := by kernel_rfl
theorem gtBadText : (Tryd.prog.globals[5]?).map (·.type) = some 28 := by kernel_rfl
theorem gBadPatch : Tryd.prog.globalNamed "eden/api.BadPatch" = some 6 := by kernel_rfl
theorem gtBadPatch : (Tryd.prog.globals[6]?).map (·.type) = some 28 := by kernel_rfl
theorem gBadCert : Tryd.prog.globalNamed "eden/api.BadCert" = some 7 := by kernel_rfl
theorem gtBadCert : (Tryd.prog.globals[7]?).map (·.type) = some 28 := by kernel_rfl
theorem gNoInverse : Tryd.prog.globalNamed "eden/api.NoInverse" = some 8 := by kernel_rfl
theorem gtNoInverse : (Tryd.prog.globals[8]?).map (·.type) = some 28 := by kernel_rfl
theorem gBadLine : Tryd.prog.globalNamed "eden/api.BadLine" = some 9 := by kernel_rfl
theorem gtBadLine : (Tryd.prog.globals[9]?).map (·.type) = some 28 := by kernel_rfl
theorem gBadState : Tryd.prog.globalNamed "eden/api.BadState" = some 10 := by kernel_rfl
theorem gtBadState : (Tryd.prog.globals[10]?).map (·.type) = some 28 := by kernel_rfl
theorem gUnknown : Tryd.prog.globalNamed "eden/api.Unknown" = some 11 := by kernel_rfl
theorem gtUnknown : (Tryd.prog.globals[11]?).map (·.type) = some 28 := by kernel_rfl
theorem twelve_types : ∀ x ∈ twelve, ∀ g, Tryd.prog.globalNamed x.1 = some g → (Tryd.prog.globals[g]?).map (·.type) = some 28 := by
  intro x hx g hg
  simp only [twelve, List.mem_cons, List.not_mem_nil, or_false] at hx
  rcases hx with rfl | rfl | rfl | rfl | rfl | rfl | rfl | rfl | rfl | rfl | rfl | rfl
  · obtain rfl := Option.some.inj (gBadRule.symm.trans hg); exact gtBadRule
  · obtain rfl := Option.some.inj (gBadWord.symm.trans hg); exact gtBadWord
  · obtain rfl := Option.some.inj (gBadArg.symm.trans hg); exact gtBadArg
  · obtain rfl := Option.some.inj (gTooBig.symm.trans hg); exact gtTooBig
  · obtain rfl := Option.some.inj (gNoBudget.symm.trans hg); exact gtNoBudget
  · obtain rfl := Option.some.inj (gBadText.symm.trans hg); exact gtBadText
  · obtain rfl := Option.some.inj (gBadPatch.symm.trans hg); exact gtBadPatch
  · obtain rfl := Option.some.inj (gBadCert.symm.trans hg); exact gtBadCert
  · obtain rfl := Option.some.inj (gNoInverse.symm.trans hg); exact gtNoInverse
  · obtain rfl := Option.some.inj (gBadLine.symm.trans hg); exact gtBadLine
  · obtain rfl := Option.some.inj (gBadState.symm.trans hg); exact gtBadState
  · obtain rfl := Option.some.inj (gUnknown.symm.trans hg); exact gtUnknown

theorem nodup_inj {α : Type} {l : List α} (h : l.Nodup) {i j : Nat} (hi : i < l.length) (hj : j < l.length) (e : l[i] = l[j]) : i = j := by
  have hp := List.pairwise_iff_getElem.1 h
  rcases Nat.lt_trichotomy i j with k | k | k
  · exact absurd e (hp i j hi hj k)
  · exact k
  · exact absurd e.symm (hp j i hj hi k)

/-- Which of the list is which error. -/
def slotOf (k : Nat) : Nat := (k + 11) % 12
theorem slotOf_inj (j k : Nat) (hj : j ≤ 11) (hk : k ≤ 11) (h : slotOf j = slotOf k) : j = k := by unfold slotOf at h; omega

theorem roots_of_twelve {W : World} (h : laidMet Tryd.prog twelve W) : ∃ A, Roots W A := by
  obtain ⟨ps, hv, hn, hrows⟩ := h
  obtain ⟨ads, h1, h2, h3, h4⟩ := sents twelve ps hv twelve_form twelve_types hrows
  have hlen : ads.length = 12 := h1
  have hnd := h4 hn
  refine ⟨fun k => ads.getD (slotOf k) ⟨0, 0, none⟩, ?_, ?_, ?_⟩
  · intro k hk
    have hs : slotOf k < 12 := Nat.mod_lt _ (by decide)
    obtain ⟨n, d, a, e1, e2, e3⟩ := h2 (slotOf k) hs
    have ea : ads.getD (slotOf k) ⟨0, 0, none⟩ = a := by rw [List.getD_eq_getElem?_getD, e2]; rfl
    show W.cell? ⟨rootVar k, 0, none⟩ = some (.iface 150 (.pointer (some (ads.getD (slotOf k) ⟨0, 0, none⟩))))
    rw [ea]
    clear ea e2
    match k, hk with
    | 0, _ => obtain ⟨rfl, rfl⟩ := Prod.mk.inj (Option.some.inj e1); simpa [rootVar] using World.var?_cell gUnknown e3 0
    | 1, _ => obtain ⟨rfl, rfl⟩ := Prod.mk.inj (Option.some.inj e1); simpa [rootVar] using World.var?_cell gBadRule e3 0
    | 2, _ => obtain ⟨rfl, rfl⟩ := Prod.mk.inj (Option.some.inj e1); simpa [rootVar] using World.var?_cell gBadWord e3 0
    | 3, _ => obtain ⟨rfl, rfl⟩ := Prod.mk.inj (Option.some.inj e1); simpa [rootVar] using World.var?_cell gBadArg e3 0
    | 4, _ => obtain ⟨rfl, rfl⟩ := Prod.mk.inj (Option.some.inj e1); simpa [rootVar] using World.var?_cell gTooBig e3 0
    | 5, _ => obtain ⟨rfl, rfl⟩ := Prod.mk.inj (Option.some.inj e1); simpa [rootVar] using World.var?_cell gNoBudget e3 0
    | 6, _ => obtain ⟨rfl, rfl⟩ := Prod.mk.inj (Option.some.inj e1); simpa [rootVar] using World.var?_cell gBadText e3 0
    | 7, _ => obtain ⟨rfl, rfl⟩ := Prod.mk.inj (Option.some.inj e1); simpa [rootVar] using World.var?_cell gBadPatch e3 0
    | 8, _ => obtain ⟨rfl, rfl⟩ := Prod.mk.inj (Option.some.inj e1); simpa [rootVar] using World.var?_cell gBadCert e3 0
    | 9, _ => obtain ⟨rfl, rfl⟩ := Prod.mk.inj (Option.some.inj e1); simpa [rootVar] using World.var?_cell gNoInverse e3 0
    | 10, _ => obtain ⟨rfl, rfl⟩ := Prod.mk.inj (Option.some.inj e1); simpa [rootVar] using World.var?_cell gBadLine e3 0
    | 11, _ => obtain ⟨rfl, rfl⟩ := Prod.mk.inj (Option.some.inj e1); simpa [rootVar] using World.var?_cell gBadState e3 0
  · intro k hk
    have hs : slotOf k < ads.length := by rw [hlen]; exact Nat.mod_lt _ (by decide)
    have ea : ads.getD (slotOf k) ⟨0, 0, none⟩ = ads[slotOf k] := by rw [List.getD_eq_getElem?_getD, List.getElem?_eq_getElem hs]; rfl
    show Target W (ads.getD (slotOf k) ⟨0, 0, none⟩)
    rw [ea]
    exact (h3 _ (List.getElem_mem hs)).1
  · intro j k hj hk h
    have hsj : slotOf j < ads.length := by rw [hlen]; exact Nat.mod_lt _ (by decide)
    have hsk : slotOf k < ads.length := by rw [hlen]; exact Nat.mod_lt _ (by decide)
    have ej : ads.getD (slotOf j) ⟨0, 0, none⟩ = ads[slotOf j] := by rw [List.getD_eq_getElem?_getD, List.getElem?_eq_getElem hsj]; rfl
    have ek : ads.getD (slotOf k) ⟨0, 0, none⟩ = ads[slotOf k] := by rw [List.getD_eq_getElem?_getD, List.getElem?_eq_getElem hsk]; rfl
    have h' : ads[slotOf j] = ads[slotOf k] := ej.symm.trans (h.trans ek)
    exact slotOf_inj j k hj hk (nodup_inj hnd hsj hsk h')

/-! ### errors.errorType -/
theorem et : Tryd.prog.globalNamed "errors.errorType" = some 12 := by kernel_rfl
theorem rt : (Tryd.prog.cutTypes.find? (·.1 == "internal/reflectlite.rtype")).map (·.2) = some 125 := by kernel_rfl
theorem oneRow : ((List.range 183).filter fun t => Tryd.prog.rowNamed t [101, 114, 114, 111, 114]) = [28] := by kernel_rfl
theorem typesSize : Tryd.prog.types.size = 183 := by kernel_rfl
theorem typeVar_of_handle {W : World} (h : handlesMet Tryd.prog [("errors.errorType", Rows.laid_errors_errorType)] W) : TypeVar W := by
  obtain ⟨name, u, ty, e1, e2, e3, e4, e5⟩ := h _ (List.mem_singleton.2 rfl)
  have en : name = [101, 114, 114, 111, 114] := (Option.some.inj e1).symm
  subst en
  obtain rfl := Option.some.inj (rt.symm.trans e2)
  have hm : ty ∈ (List.range 183).filter fun t => Tryd.prog.rowNamed t [101, 114, 114, 111, 114] := List.mem_filter.2 ⟨List.mem_range.2 (by rw [← typesSize]; exact e3), e4⟩
  rw [oneRow] at hm
  obtain rfl := List.mem_singleton.1 hm
  have hh : typeHandle Tryd.prog 28 = .pointer (some ⟨13, 28, none⟩) := by kernel_rfl
  rw [hh] at e5
  unfold TypeVar
  simpa using World.var?_cell et e5 0

/-- The list of thirteen: the handle, then the twelve. -/
def thirteen : List (String × DataW Unit) := ("errors.errorType", Rows.laid_errors_errorType) :: twelve
theorem roots_of_laid {W : World} (h : laidMetH Tryd.prog thirteen W) : ∃ A, Roots W A ∧ TypeVar W := by
  have h' : laidMet Tryd.prog twelve W ∧ handlesMet Tryd.prog [("errors.errorType", Rows.laid_errors_errorType)] W := h
  obtain ⟨A, hA⟩ := roots_of_twelve h'.1
  exact ⟨A, hA, typeVar_of_handle h'.2⟩

/-! ### a world that meets the list -/
noncomputable def low : Nat := (World.holding Tryd.prog default ⟨#[], #[], []⟩).heap.size
/-- A variable's one cell, laid. -/
def layCell (v : Value) (o : Obj) : Obj := match o with
  | .cells _ t frozen => .cells #[v] t frozen
  | o => o
def ptr94 (b : Nat) : Value := .iface 150 (.pointer (some ⟨b, 0, none⟩))
noncomputable def laidWorld (os : Os) : World :=
  let w0 := World.holding Tryd.prog os ⟨#[.cells #[.string { data := #[98, 97, 100, 32, 114, 117, 108, 101] }] 171, .cells #[.string { data := #[98, 97, 100, 32, 119, 111, 114, 100] }] 171, .cells #[.string { data := #[98, 97, 100, 32, 97, 114, 103, 117, 109, 101, 110, 116] }] 171, .cells #[.string { data := #[116, 111, 111, 32, 98, 105, 103] }] 171, .cells #[.string { data := #[110, 111, 32, 98, 117, 100, 103, 101, 116] }] 171, .cells #[.string { data := #[98, 97, 100, 32, 116, 101, 120, 116] }] 171, .cells #[.string { data := #[98, 97, 100, 32, 112, 97, 116, 99, 104] }] 171, .cells #[.string { data := #[98, 97, 100, 32, 99, 101, 114, 116, 105, 102, 105, 99, 97, 116, 101] }] 171, .cells #[.string { data := #[110, 111, 32, 105, 110, 118, 101, 114, 115, 101] }] 171, .cells #[.string { data := #[98, 97, 100, 32, 108, 105, 110, 101] }] 171, .cells #[.string { data := #[98, 97, 100, 32, 115, 116, 97, 116, 101] }] 171, .cells #[.string { data := #[117, 110, 107, 110, 111, 119, 110] }] 171], #[], []⟩
  { w0 with heap := ((((((((((((w0.heap.modify 0 (layCell (ptr94 (low + 0)))).modify 1 (layCell (ptr94 (low + 1)))).modify 2 (layCell (ptr94 (low + 2)))).modify 3 (layCell (ptr94 (low + 3)))).modify 4 (layCell (ptr94 (low + 4)))).modify 5 (layCell (ptr94 (low + 5)))).modify 6 (layCell (ptr94 (low + 6)))).modify 7 (layCell (ptr94 (low + 7)))).modify 8 (layCell (ptr94 (low + 8)))).modify 9 (layCell (ptr94 (low + 9)))).modify 10 (layCell (ptr94 (low + 10)))).modify 11 (layCell (ptr94 (low + 11)))).modify 12 (layCell (.iface 125 (.agg #[.pointer (some ⟨13, 28, none⟩)]))) }
end Go.Proofs.YtmienemnjikgdaaDoor
end
section
namespace Go.Proofs.YtmienemnjikgdaaDoor
open Go.ChangeShapes Go.WideShapes Go.ChangeAt Go.RowKit

theorem laidOut : laidOutB Tryd.prog = true := by kernel_rfl

/-- A type that a reading can be carried on at. -/
def Carries (t : TypeId) : Prop := Tryd.prog.readableRec t = true ∧ t < Tryd.prog.types.size
theorem trodAll_below {H : Type} {enc : TypeId × Value → H} {W W' : World} (hb : Below W.heap.size W W') (ts : List TypeId) : ∀ {vs : List Value} {ds : List (DataW H)} {ps : List MemPlace},
    (∀ t ∈ ts, Carries t) → (∀ x ∈ ps, x.block < W.heap.size) →
    DataW.TrodAll enc Tryd.prog W 0 (fun _ => true) true ts vs ds ps → DataW.TrodAll enc Tryd.prog W' 0 (fun b => decide (b < W.heap.size)) true ts vs ds ps := by
  induction ts with
  | nil =>
    intro vs ds ps _ _ h
    obtain ⟨rfl, rfl, rfl⟩ := trodAll_nil h
    exact trodAll_mk0
  | cons t ts ih =>
    intro vs ds ps hr hlt h
    obtain ⟨v, vs', d, ds', p, q, rfl, rfl, rfl, h0, h1⟩ := trodAll_cons h
    have ht := hr t (List.mem_cons_self ..)
    exact trodAll_cons_mk (Below.trod laidOut ht.1 ht.2 h0 hb fun x hx => hlt x (List.mem_append_left _ hx))
      (ih (fun u hu => hr u (List.mem_cons_of_mem _ hu)) (fun x hx => hlt x (List.mem_append_right _ hx)) h1)

/-- The post of a law's row. -/
theorem law_post {H : Type} {enc : TypeId × Value → H} {W W' : World} {args : Array Value} {ds gs : List (DataW H)} {before : List MemPlace} (spec : ChangeSpec) (fn : Func)
    (hres : fn.resultTypes = #[4]) (hv : spec.vars = []) (hf : spec.fn H (ds ++ gs) = { results := [.lit (.bool true)], args := ds })
    (hr : ∀ t ∈ fn.params.toList, Carries t)
    (hW : DataW.Whole enc Tryd.prog fn.params.toList spec.vars false W args.toList ds gs before) (hb : Below W.heap.size W W') :
    spec.post enc Tryd.prog fn false true false false W args (.bool true) W' := by
  have hW' := hW
  have hlt : ∀ x ∈ before, x.block < W.heap.size := fun x hx => by simpa using hW'.lt x hx
  obtain ⟨p, q, hA0, hV, rfl, hfz, hnd⟩ := hW
  have hA : DataW.TrodAll enc Tryd.prog W 0 (fun _ => true) true fn.params.toList args.toList ds p := hA0
  refine ⟨_, _, _, [], p, [], hW', ?_, ?_, ?_, hb.frame _, fun h => by cases h⟩
  · rw [hf, hres]
    exact trodAll_mk1 (shut_bool Tryd.underlying4 true)
  · rw [hf]
    exact trodAll_below hb _ hr (fun x hx => hlt x (List.mem_append_left _ hx)) hA
  · rw [hf, hv]
    rfl

/-- An argument that is a slice of strings, opened: its value, and its strings. -/
theorem open_strs {H : Type} {enc : TypeId × Value → H} {W : World} {v : Value} {d : DataW H} {p : List MemPlace} (hok : ∃ a len cap, v = .slice a len cap)
    (h : DataW.Trod enc Tryd.prog W 0 (fun _ => true) true 31 v d p) (hlt : ∀ x ∈ p, x.block < W.heap.size) :
    ∃ (a : Option Addr) (n cap : Nat) (ss : List ByteArray), v = .slice a n cap ∧ n ≤ ss.length ∧ n ≤ cap ∧ cap ≤ maxLen ∧ (∀ s ∈ ss, s.size ≤ maxLen) ∧ ss.length = cap ∧ (d = .nil ∨ d = .slice (strs (ss.take n)) (strs (ss.drop n))) ∧
      ∀ j, j < n → ∃ b off, a = some ⟨b, off, none⟩ ∧ b < W.heap.size ∧ W.cell? ⟨b, off + j, none⟩ = some (.string (ss.getD j .empty)) := by
  obtain ⟨a0, len, cap, rfl⟩ := hok
  obtain ⟨fuel, hf⟩ := h
  rcases open_strings Tryd.underlying31 Tryd.underlying9 cells9 hf with ⟨hcs, hx⟩ | ⟨a, len', cap', ss, hcs, _, hl, hm, hz, hx, hcell, hws⟩
  · simp [Value.cells] at hcs
    obtain ⟨rfl, rfl, rfl⟩ := hcs
    exact ⟨none, 0, 0, [], rfl, Nat.zero_le _, Nat.zero_le _, Nat.zero_le _, (by simp), rfl, Or.inl (Prod.mk.inj hx).1, fun j hj => absurd hj (Nat.not_lt_zero j)⟩
  · simp [Value.cells] at hcs
    obtain ⟨rfl, rfl, rfl⟩ := hcs
    simp only [if_true] at hz
    obtain ⟨rfl, rfl⟩ := Prod.mk.inj hx
    refine ⟨some a, len, cap, ss, rfl, by omega, hl, hm, hws, hz, Or.inr rfl, fun j hj => ?_⟩
    obtain ⟨b, off, spot⟩ := a
    have hspot : spot = none := by simpa [Addr.add] using World.cell?_spot (hcell 0 (by omega))
    subst hspot
    exact ⟨b, off, rfl, hlt (.cell b off) (MemPlace.mem_row.2 ⟨0, by omega, by simp⟩), by rw [← add_plain]; exact hcell j (by omega)⟩
end Go.Proofs.YtmienemnjikgdaaDoor
end
section
namespace Go.Proofs.YtmienemnjikgdaaDoor
open Go.ChangeShapes Go.WideShapes Go.ChangeAt Go.RowKit Go.Extern.Stop Go.Stop Go.Extern WordM NatM

/-- Lists that are known in the world wx; below w nothing has changed. -/
structure Si (w wx : World) (L : List Sl) : Prop where
  each : ∀ x : Sl, x ∈ L → IntV wx.heap.size wx x.1 x.2.1 x.2.2
  below : Below w.heap.size w wx
theorem Si.start (w : World) : Si w w [] := ⟨(fun x h => by cases h), Below.refl _ _⟩
theorem Si.get {w wx : World} {L : List Sl} (S : Si w wx L) (i : Nat) {p : Option Addr} {c : Nat} {l : List Int} (h : L[i]? = some (p, c, l)) : IntV wx.heap.size wx p c l := S.each _ (List.mem_of_getElem? h)
theorem Si.next {w wx w' : World} {L : List Sl} (S : Si w wx L) (hb : Below wx.heap.size wx w') : Si w w' L :=
  ⟨fun x hx => (S.each x hx).next hb, S.below.trans (hb.mono S.below.size)⟩
theorem Si.push {w wx : World} {L : List Sl} (S : Si w wx L) {p : Option Addr} {c : Nat} {l : List Int} (h : IntV wx.heap.size wx p c l) : Si w wx ((p, c, l) :: L) :=
  ⟨fun x hx => by
    rcases List.mem_cons.1 hx with rfl | hx
    · exact h
    · exact S.each x hx, S.below⟩
theorem Si.alloc {w wx : World} {L : List Sl} (S : Si w wx L) (o : Obj) : Si w (wx.alloc o) L := S.next ((Below.refl _ _).alloc (Nat.le_refl _) _)
/-- a literal of ints, just laid -/
theorem Si.lit {w wx : World} {L : List Sl} (S : Si w wx L) (l : List Int) (cs : Array Value) (t : TypeId) (hc : cs.toList = cI l) (hl : l.length ≤ 1000) :
    Si w (wx.alloc (.cells cs t)) ((some ⟨wx.heap.size, 0, none⟩, l.length, l) :: L) := (S.alloc _).push (IntV.laid l cs t hc hl)
theorem Si.drew {w wx : World} {L : List Sl} (S : Si w wx L) : Si w wx.drew L := S.next (Below.refl _ _).drew

theorem next_011 : IsNext 2 [0, 1, 1] [1, 0, 0] := Or.inl ⟨0, 0, rfl, by decide, by decide, by decide⟩
theorem ok_011 : okW 2 [0, 1, 1] := fun x hx => by simp at hx; omega
theorem chk_011 : chkW 2 [0, 1, 1] = none := by decide
def txt031 : ByteArray := { data := #[48, 51, 49] }
theorem chk_031 : chkW 4 (sW txt031) = none := by decide +kernel
theorem sW_031 : sW txt031 = [0, 3, 1] := by decide +kernel
theorem cmp_0100 : cmpW [0, 1] [0, 0] = 1 := by decide
theorem per_0101 : perW [0, 1, 0, 1] = 2 := by
  refine perW_eq (by decide) ⟨by decide, ⟨2, rfl⟩, fun i => ?_, fun q h1 h2 => ?_⟩
  · have h : i % 4 = 0 ∨ i % 4 = 1 ∨ i % 4 = 2 ∨ i % 4 = 3 := by omega
    unfold F
    show ([0, 1, 0, 1] : List Int).getD ((i + 2) % 4) 0 = ([0, 1, 0, 1] : List Int).getD (i % 4) 0
    rcases h with h | h | h | h
    · rw [h, show (i + 2) % 4 = 2 by omega]; rfl
    · rw [h, show (i + 2) % 4 = 3 by omega]; rfl
    · rw [h, show (i + 2) % 4 = 0 by omega]; rfl
    · rw [h, show (i + 2) % 4 = 1 by omega]; rfl
  · obtain rfl : q = 1 := by omega
    rintro ⟨_, h⟩
    have := h 0
    revert this
    decide

/-- every one is an int's value -/
def okI (l : List Int) : Prop := ∀ x ∈ l, -9223372036854775808 ≤ x ∧ x ≤ 9223372036854775807
theorem cellsInt_1 : Tryd.prog.cellsOf 3 = 1 := by kernel_rfl
theorem wf_i64 {n : Int} (h : (Lit.int .i64 n).wf = true) : -9223372036854775808 ≤ n ∧ n ≤ 9223372036854775807 := by
  have := bounds_i64 h
  omega
/-- an argument that is a list of ints, opened -/
theorem open_intl {H : Type} {enc : TypeId × Value → H} {W : World} {v : Value} {d : DataW H} {p : List MemPlace} (hok : ∃ a len cap, v = .slice a len cap)
    (h : DataW.Trod enc Tryd.prog W 0 (fun _ => true) true 22 v d p) (hlt : ∀ x ∈ p, x.block < W.heap.size) :
    ∃ (a : Option Addr) (cap : Nat) (l : List Int), v = .slice a l.length cap ∧ IntV W.heap.size W a cap l ∧ okI l := by
  obtain ⟨a0, len, cap, rfl⟩ := hok
  obtain ⟨fuel, hf⟩ := h
  rcases open_ints Tryd.underlying22 Tryd.underlying3 cellsInt_1 hf with ⟨hcs, _⟩ | ⟨a, len', cap', zs, hcs, _, hl, hm, hz, hx, hcell, hwf⟩
  · simp [Value.cells] at hcs
    obtain ⟨rfl, rfl, rfl⟩ := hcs
    exact ⟨none, 0, [], rfl, ⟨Nat.le_refl _, Nat.zero_le _, fun _ => rfl, fun h => absurd rfl h⟩, fun x h => by cases h⟩
  · simp [Value.cells] at hcs
    obtain ⟨rfl, rfl, rfl⟩ := hcs
    simp only [if_true] at hz
    obtain ⟨rfl, rfl⟩ := Prod.mk.inj hx
    have hlen : (zs.take len).length = len := by rw [List.length_take]; omega
    refine ⟨some a, cap, zs.take len, by rw [hlen], ⟨by rw [hlen]; exact hl, hm, (fun h => by cases h), fun hn => ?_⟩, fun x hx => wf_i64 (hwf x (List.mem_of_mem_take hx))⟩
    obtain ⟨b, off, spot⟩ := a
    have h0 : 0 < zs.length := by
      have := List.length_pos_iff.2 hn
      rw [hlen] at this
      omega
    have hspot : spot = none := by simpa [Addr.add] using World.cell?_spot (hcell 0 h0)
    subst hspot
    refine ⟨b, off, rfl, hlt (.cell b off) (MemPlace.mem_row.2 ⟨0, h0, by simp⟩), fun j x hx => ?_⟩
    have hj := ltI hx
    rw [hlen] at hj
    have hjz : j < zs.length := by omega
    have hc := hcell j hjz
    have e : zs.getD j 0 = x := by
      rw [List.getElem?_take, if_pos hj] at hx
      rw [List.getD_eq_getElem?_getD, hx]; rfl
    rw [e, add_plain] at hc
    exact hc

theorem weights_get {H : Type} {P : Program} : ∀ (ts : List TypeId) (ds : List (DataW H)) (i : Nat) (t : TypeId) (d : DataW H), ts[i]? = some t → ds[i]? = some d → ∀ x ∈ d.weights P t, x ∈ DataW.weightsEach P ts ds
  | [], _, _, _, _, h, _, _, _ => by simp at h
  | _ :: _, [], _, _, _, _, h, _, _ => by simp at h
  | t0 :: ts, d0 :: ds, 0, t, d, ht, hd, x, hx => by
    simp at ht hd; subst ht hd
    unfold DataW.weightsEach
    exact List.mem_append_left _ hx
  | t0 :: ts, d0 :: ds, i + 1, t, d, ht, hd, x, hx => by
    unfold DataW.weightsEach
    exact List.mem_append_right _ (weights_get ts ds i t d (by simpa using ht) (by simpa using hd) x hx)
theorem bytesInt : Tryd.prog.bytesOf 3 = 8 := by kernel_rfl
/-- a list of ints that came in is shorter than 2^44 -/
theorem open_reach {H : Type} {enc : TypeId × Value → H} {W : World} {a : Option Addr} {len cap : Nat} {d : DataW H} {p : List MemPlace}
    (h : DataW.Trod enc Tryd.prog W 0 (fun _ => true) true 22 (.slice a len cap) d p) (hw : ∀ x ∈ d.weights Tryd.prog 22, x ≤ reachBytes) : len ≤ 17592186043904 := by
  obtain ⟨fuel, hf⟩ := h
  rcases open_ints Tryd.underlying22 Tryd.underlying3 cellsInt_1 hf with ⟨hcs, _⟩ | ⟨a, len', cap', zs, hcs, _, hl, hm, hz, hx, hcell, hwf⟩
  · simp [Value.cells] at hcs
    omega
  · simp [Value.cells] at hcs
    obtain ⟨rfl, rfl, rfl⟩ := hcs
    simp only [if_true] at hz
    obtain ⟨rfl, rfl⟩ := Prod.mk.inj hx
    have h1 := hw ((zs.take len).length * 8 + (zs.drop len).length * 8) (by
      unfold DataW.weights
      rw [Tryd.underlying22]
      simp only [lits, List.length_map, bytesInt]
      rw [← Nat.add_mul]
      exact List.mem_cons_self ..)
    unfold reachBytes at h1
    rw [List.length_take] at h1
    omega
end Go.Proofs.YtmienemnjikgdaaDoor
end
section
namespace Go.Proofs.YtmienemnjikgdaaDoor
open Go.RowKit Go.Shelf Go.Extern.Stop Go.Stop Go.Extern WordM RuleM

/-- a literal of two literals -/
theorem LstV.lit2 (W : World) (a b : List Int) (ca cb : Array Value) (ha : ca.toList = cI a) (hb : cb.toList = cI b) (la : a.length ≤ 1000) (lb : b.length ≤ 1000) :
    LstV (((W.alloc (.cells ca 3)).alloc (.cells cb 3)).alloc (.cells #[.slice (some ⟨W.heap.size, 0, none⟩) a.length a.length, .slice (some ⟨W.heap.size + 1, 0, none⟩) b.length b.length] 22)) (some ⟨W.heap.size + 1 + 1, 0, none⟩) 2 [(some ⟨W.heap.size, 0, none⟩, a.length, a), (some ⟨W.heap.size + 1, 0, none⟩, b.length, b)] := by
  obtain ⟨W1, h1⟩ : ∃ x, x = W.alloc (.cells ca 3) := ⟨_, rfl⟩
  have v1 := IntV.laid (w := W) a ca 3 ha la
  have s1 : W1.heap.size = W.heap.size + 1 := by rw [h1]; simp
  rw [← h1] at v1 ⊢
  obtain ⟨W2, h2⟩ : ∃ x, x = W1.alloc (.cells cb 3) := ⟨_, rfl⟩
  have v2 := IntV.laid (w := W1) b cb 3 hb lb
  have s2 : W2.heap.size = W1.heap.size + 1 := by rw [h2]; simp
  have b2 : Below W1.heap.size W1 W2 := by rw [h2]; exact (Below.refl _ _).alloc (Nat.le_refl _) _
  rw [← h2] at v2 ⊢
  rw [s1] at v2
  have b3 : Below W2.heap.size W2 (W2.alloc (.cells #[.slice (some ⟨W.heap.size, 0, none⟩) a.length a.length, .slice (some ⟨W.heap.size + 1, 0, none⟩) b.length b.length] 22)) := (Below.refl _ _).alloc (Nat.le_refl _) _
  have hn := heap_newN W2 (.cells #[.slice (some ⟨W.heap.size, 0, none⟩) a.length a.length, .slice (some ⟨W.heap.size + 1, 0, none⟩) b.length b.length] 22)
  rw [show W2.heap.size = W.heap.size + 1 + 1 by omega] at hn
  refine ⟨Nat.le_refl _, fun _ => ⟨_, 0, rfl, heap_ltN hn, fun i s hs => ?_⟩, fun i s hs => ?_⟩
  · rw [Nat.zero_add]
    rcases i with _ | _ | i
    · obtain rfl := Option.some.inj hs; exact cell_of_row _ _ 0 _ _ _ hn
    · obtain rfl := Option.some.inj hs; exact cell_of_row _ _ 1 _ _ _ hn
    · simp at hs
  · rcases i with _ | _ | i
    · obtain rfl := Option.some.inj hs; exact (v1.next b2).next b3
    · obtain rfl := Option.some.inj hs; exact v2.next b3
    · simp at hs
theorem lists_alike {Es : List MkI} {Ks : List Sl} (h : lists Es = Ks.map fun s => s.2.2) (i : Nat) (s t : Sl) (hs : (Es.map (·.1))[i]? = some s) (ht : Ks[i]? = some t) : s.2.2 = t.2.2 := by
  have h1 := congrArg (fun z : List (List Int) => z[i]?) h
  rw [List.getElem?_map, Option.map_eq_some_iff] at hs
  obtain ⟨e, he, rfl⟩ := hs
  simp only [lists, List.getElem?_map, he, ht, Option.map_some] at h1
  exact Option.some.inj h1
theorem okSX : OkS 2 1 [0, 1, 0, 1, 1, 0, 1, 0] := ⟨⟨by decide, by decide, by decide, by decide, fun x hx => by simp at hx; omega⟩, by decide⟩
theorem before_x (p q : Option Addr) (c d : Nat) (w : World) (h : IntV w.heap.size w p c [0, 1, 0, 1, 1, 0, 1, 0]) (h' : IntV w.heap.size w q d [1]) :
    Calls Tryd.prog 24 #[.agg #[.int .i64 2, .int .i64 1, .slice p 8 c], .slice q 1 d, .int .i64 2] w (fun e w' => ∃ p1 c1 Es, e = .returned (.tuple #[.slice p1 2 c1, .bool true, .nilIface]) ∧ LstO w.heap.size w' p1 c1 Es ∧ lists Es = [[0, 0, 1], [0, 1, 1]] ∧ Below w.heap.size w w') := by
  have hp : preAll 2 1 [0, 1, 0, 1, 1, 0, 1, 0] [1] = [[0, 0, 1], [0, 1, 1], [1, 0, 0], [1, 1, 0]] := by decide +kernel
  have h0 := oBefore_ok 2 1 2 p q 8 c 1 d [0, 1, 0, 1, 1, 0, 1, 0] [1] w rfl rfl h h' okSX (by decide) (fun x hx => by simp at hx; omega) (by decide)
  rw [hp] at h0
  refine Calls.mono h0 ?_
  rintro e w' ⟨p1, c1, Es, rfl, h1, h2, h3⟩
  have hl : Es.length = 2 := by rw [← lists_length, h2]; rfl
  exact ⟨p1, c1, Es, by rw [hl]; rfl, h1, h2, h3⟩
theorem edge_x (p : Option Addr) (c : Nat) (w : World) (h : IntV w.heap.size w p c [0, 1, 0, 1, 1, 0, 1, 0]) :
    Calls Tryd.prog 12 #[.agg #[.int .i64 2, .int .i64 1, .slice p 8 c], .int .i64 1, .int .i64 0] w (Tells (.tuple #[.int .i64 2, .int .i64 0, .nilIface]) w) :=
  oEdge_ok 2 1 1 0 p 8 c [0, 1, 0, 1, 1, 0, 1, 0] w rfl h okSX (by decide) (by decide)
set_option maxRecDepth 100000 in
set_option maxHeartbeats 8000000 in
theorem awakeO (w : World) : Calls Tryd.prog 8 #[] w (Tells (.bool true) w) := by
  go_enter Tryd.func8, Tryd.ntmps8
  go_upto_region 2 with fail
  obtain ⟨w1, hw1⟩ : ∃ x, x = w.alloc (.cells #[.int .i64 0, .int .i64 1, .int .i64 0, .int .i64 1, .int .i64 1, .int .i64 0, .int .i64 1, .int .i64 0] 3) := ⟨_, rfl⟩
  have S1 := (Si.start w).lit [0, 1, 0, 1, 1, 0, 1, 0] #[.int .i64 0, .int .i64 1, .int .i64 0, .int .i64 1, .int .i64 1, .int .i64 0, .int .i64 1, .int .i64 0] 3 rfl (by decide)
  rw [← hw1] at S1 ⊢
  have hs1 : w1.heap.size = w.heap.size + 1 := by rw [hw1]; simp
  obtain ⟨w2, hw2⟩ : ∃ x, x = w1.alloc (.cells #[.int .i64 2, .int .i64 1, .slice (some ⟨w.heap.size, 0, none⟩) 8 8] 24) := ⟨_, rfl⟩
  obtain ⟨hb2, hE2⟩ := box_ruleO w1 _ _ _ w2 hw2
  rw [hs1] at hE2
  rw [← hw2]
  have HS := Lib.hid (And.intro (S1.next hb2) hE2)
  obtain ⟨_, hc0, hc1, hc2⟩ := hE2.facts
  clear hw1 S1 hw2 hb2 hE2 hs1
  go_wp2_with fail
  have S3 := Lib.hid (HS.out.1.lit [1] #[.int .i64 1] 3 rfl (by decide))
  refine (before_x _ _ _ _ _ (S3.out.get 1 rfl) (S3.out.get 0 rfl)).mono ?_
  rintro e w4 ⟨p4, c4, Es, rfl, hl4, hA4, hb4⟩
  have hb3 := (Below.refl w2.heap.size w2).alloc (Nat.le_refl _) (.cells #[.int .i64 1] 3)
  have hb24 := hb3.trans (hb4.mono hb3.size)
  have H4 := Lib.hid (And.intro (HS.out.1.next hb24) (And.intro (HS.out.2.next hb24) (And.intro hl4 hA4)))
  clear hl4 hA4 hb4 hb3 hb24 hc0 hc1 hc2 S3
  obtain ⟨_, hc0, hc1, hc2⟩ := H4.out.2.1.facts
  go_wp2_with fail
  refine (edge_x _ _ w4 (H4.out.1.get 0 rfl)).mono ?_
  rintro e w5 ⟨rfl, hb5⟩
  have H5 := Lib.hid (And.intro (H4.out.1.next hb5) (H4.out.2.2.1.toV.next hb5))
  clear hb5 hc0 hc1 hc2
  go_wp2_with fail
  have hlen : 2 = (Es.map (·.1)).length := by rw [List.length_map, ← lists_length, H4.out.2.2.2]; rfl
  have hbA := (((Below.refl w5.heap.size w5).alloc (Nat.le_refl _) (.cells #[.int .i64 0, .int .i64 0, .int .i64 1] 3)).alloc (by simp) (.cells #[.int .i64 0, .int .i64 1, .int .i64 1] 3)).alloc (by simp; omega) (.cells #[.slice (some ⟨w5.heap.size, 0, none⟩) 3 3, .slice (some ⟨w5.heap.size + 1, 0, none⟩) 3 3] 22)
  refine (Quiet.tells (lists_true _ _ 2 _ _ (Es.map (·.1)) [(some ⟨w5.heap.size, 0, none⟩, 3, [0, 0, 1]), (some ⟨w5.heap.size + 1, 0, none⟩, 3, [0, 1, 1])] _ hlen rfl (lists_alike H4.out.2.2.2) (H5.out.2.next hbA) (LstV.lit2 w5 [0, 0, 1] [0, 1, 1] #[.int .i64 0, .int .i64 0, .int .i64 1] #[.int .i64 0, .int .i64 1, .int .i64 1] rfl rfl (by decide) (by decide)) (by decide))).mono ?_
  rintro e w6 ⟨rfl, hb6⟩
  have HZ := Lib.hid ((H5.out.1.next hbA).next hb6).below
  clear hbA hb6 hlen
  go_wp2_with fail
  go_ret
  exact ⟨rfl, HZ.out⟩
end Go.Proofs.YtmienemnjikgdaaDoor
end
section
namespace Go.Proofs.YtmienemnjikgdaaDoor
open WordM RuleM

theorem pre_told {K R : Nat} {t l y : List Int} (hk : 1 ≤ K) (h : y ∈ (preAll K R t l).take 200) : okW K y ∧ y.length = l.length + 2 * R ∧ imgW K R t y = l :=
  (preAll_mem hk y).1 (List.mem_of_mem_take h)
theorem pre_step {K R : Nat} {t l a b : List Int} (hk : 1 ≤ K) {i j : Nat} (hij : i = j + 1) (ha : ((preAll K R t l).take 200)[j]? = some a) (hb : ((preAll K R t l).take 200)[i]? = some b) : cmpW a b = -1 := by
  have h1 := pre_told hk (List.mem_of_getElem? ha)
  have h2 := pre_told hk (List.mem_of_getElem? hb)
  rw [cmpW_len (by omega)]
  have hp := (preAll_sorted (r := R) (t := t) (w := l) hk).sublist (List.take_sublist 200 _)
  obtain ⟨hj, rfl⟩ := List.getElem?_eq_some_iff.1 ha
  obtain ⟨hi, rfl⟩ := List.getElem?_eq_some_iff.1 hb
  exact List.pairwise_iff_getElem.1 hp j i hj hi (by omega)
theorem pre_rest {K R : Nat} {t l x : List Int} (hk : 1 ≤ K) (hx : okW K x) (hl : x.length = l.length + 2 * R) (hi : imgW K R t x = l) (hn : x ∉ (preAll K R t l).take 200) :
    200 < (preAll K R t l).length ∧ ((preAll K R t l).take 200).length = 200 ∧ ∀ a, ((preAll K R t l).take 200)[199]? = some a → cmpW a x = -1 := by
  have hm := (preAll_mem hk x).2 ⟨hx, hl, hi⟩
  have hp := preAll_sorted (r := R) (t := t) (w := l) hk
  have hal : ∀ a, a ∈ preAll K R t l → a.length = x.length := fun a ha => by have := ((preAll_mem hk a).1 ha).2.1; omega
  obtain ⟨A, hA⟩ : ∃ A, preAll K R t l = A := ⟨_, rfl⟩
  rw [hA] at hn hm hp hal ⊢
  obtain ⟨k, hk1, hk2⟩ := List.mem_iff_getElem.1 hm
  have hk3 : 200 ≤ k := by
    rcases Nat.lt_or_ge k 200 with h | h
    · exact absurd (List.mem_iff_getElem.2 ⟨k, by rw [List.length_take]; omega, by rw [List.getElem_take]; exact hk2⟩) hn
    · exact h
  refine ⟨by omega, by rw [List.length_take]; omega, fun a ha => ?_⟩
  obtain ⟨h1, h2⟩ := List.getElem?_eq_some_iff.1 ha
  rw [List.getElem_take] at h2
  have h3 := List.pairwise_iff_getElem.1 hp 199 k (by omega) hk1 (by omega)
  rw [h2, hk2] at h3
  rw [cmpW_len (hal a (by rw [← h2]; exact List.getElem_mem _))]
  exact h3
/-- is it among the first ones? -/
def fndW (L : List (List Int)) (x : List Int) (i : Nat) : Bool := (L.take i).any fun y => sameI y x
theorem fnd_zero (L : List (List Int)) (x : List Int) : fndW L x 0 = false := by simp [fndW]
theorem fnd_succ {L : List (List Int)} {x y : List Int} {i : Nat} (h : L[i]? = some y) : fndW L x (i + 1) = (fndW L x i || sameI y x) := by
  unfold fndW
  rw [List.take_add_one, h, List.any_append]
  simp
theorem fnd_all {L : List (List Int)} {x : List Int} {i : Nat} (h : i = L.length) : fndW L x i = true ↔ x ∈ L := by
  unfold fndW
  rw [h, List.take_length, List.any_eq_true]
  constructor
  · rintro ⟨y, hy, hs⟩
    have : y = x := by simpa [sameI] using hs
    exact this ▸ hy
  · exact fun hx => ⟨x, hx, sameI_self x⟩
theorem has_told {K R : Nat} {t l : List Int} : hasW K R t l = decide (0 < (((preAll K R t l).take 200).length : Int)) := by
  cases h : hasW K R t l with
  | false =>
    rw [has_pre] at h
    rw [h]; rfl
  | true =>
    have : preAll K R t l ≠ [] := fun e => by rw [(has_pre K R t l).2 e] at h; cases h
    have h2 : (preAll K R t l).length ≠ 0 := by simpa using this
    symm
    rw [decide_eq_true_eq, List.length_take]
    omega
end Go.Proofs.YtmienemnjikgdaaDoor
end
section
namespace Go.Proofs.YtmienemnjikgdaaDoor
open Go.RowKit Go.Extern.Stop Go.Stop Go.Extern WordM RuleM

/-- where Local refuses: the place and the number -/
def chkL (k r : Int) (t w : List Int) : Option (Nat × Nat) := match chkR k r t with
  | some i => some (i, 1)
  | none => if (w.length : Int) ≠ 2 * r + 1 then some (0, 3) else (w.findIdx? (badAt k)).map fun i => (i, 2)
/-- where Step refuses: the place and the number -/
def chkT (k r : Int) (t w : List Int) : Option (Nat × Nat) := match chkR k r t with
  | some i => some (i, 1)
  | none => if 4096 < w.length then some (0, 4) else (w.findIdx? (badAt k)).map fun i => (i, 2)
theorem chkL_none {k r : Int} {t w : List Int} (h : chkL k r t w = none) : ∃ K R : Nat, k = K ∧ r = R ∧ OkR K R t ∧ w.length = 2 * R + 1 ∧ okW K w := by
  unfold chkL at h
  split at h
  · cases h
  · rename_i hn
    obtain ⟨K, R, rfl, rfl, h3⟩ := chkR_none hn
    split at h
    · cases h
    · rw [Option.map_eq_none_iff, bad_none] at h
      exact ⟨K, R, rfl, rfl, h3, by omega, h⟩
theorem chkT_none {k r : Int} {t w : List Int} (h : chkT k r t w = none) : ∃ K R : Nat, k = K ∧ r = R ∧ OkR K R t ∧ w.length ≤ 4096 ∧ okW K w := by
  unfold chkT at h
  split at h
  · cases h
  · rename_i hn
    obtain ⟨K, R, rfl, rfl, h3⟩ := chkR_none hn
    split at h
    · cases h
    · rw [Option.map_eq_none_iff, bad_none] at h
      exact ⟨K, R, rfl, rfl, h3, by omega, h⟩
theorem chkT_ok {K R : Nat} {t w : List Int} (h : OkR K R t) (hl : w.length ≤ 4096) (hw : okW K w) : chkT K R t w = none := by
  unfold chkT
  rw [chkR_ok h]
  simp only []
  rw [if_neg (by omega), Option.map_eq_none_iff, bad_none]
  exact hw
theorem chkL_ok {K R : Nat} {t w : List Int} (h : OkR K R t) (hl : w.length = 2 * R + 1) (hw : okW K w) : chkL K R t w = none := by
  unfold chkL
  rw [chkR_ok h]
  simp only []
  rw [if_neg (by omega), Option.map_eq_none_iff, bad_none]
  exact hw

theorem valW_take1 {k : Nat} {l : List Int} {j : Nat} {x : Int} (h : l[j]? = some x) : valW k (l.take (j + 1)) = valW k (l.take j) * k + x.toNat := by
  rw [List.take_add_one, h]; exact valW_snoc k _ x
theorem val_small {k : Nat} {l : List Int} {j : Nat} (h4 : k ≤ 4) (ho : okW k l) (hj : j ≤ 7) : valW k (l.take j) < 16384 := by
  have h1 := valW_lt (okW_take ho j)
  have h2 : k ^ (l.take j).length ≤ 4 ^ (l.take j).length := Nat.pow_le_pow_left h4 _
  have h3 : 4 ^ (l.take j).length ≤ 4 ^ 7 := Nat.pow_le_pow_right (by omega) (by rw [List.length_take]; omega)
  have h5 : (4 : Nat) ^ 7 = 16384 := by decide
  omega

/-- a number, and no error -/
def IntOk1 (w : World) (x : Int) (e : Ending) (w' : World) : Prop := e = .returned (.tuple #[.int .i64 x, .nilIface]) ∧ Below w.heap.size w w'


end Go.Proofs.YtmienemnjikgdaaDoor
end
section
namespace Go.Proofs.YtmienemnjikgdaaDoor
open Go.RowKit Go.Extern.Stop Go.Stop Go.Extern WordM RuleM

set_option maxRecDepth 100000 in
set_option maxHeartbeats 2000000 in
theorem step_short (k r : Nat) (p q : Option Addr) (n c m d : Nat) (t l : List Int) (w : World) (hn : n = t.length) (hm : m = l.length) (h : IntV w.heap.size w p c t) (hl : IntV w.heap.size w q d l) (ho : OkR k r t) (hlen : m ≤ 2 * r) (hw : okW k l) :
    Calls Tryd.prog 23 #[.agg #[.int .i64 (k : Int), .int .i64 (r : Int), .slice p n c], .slice q m d] w (IntOk w (imgW k r t l)) := by
  have h4 := ho.k4
  have h3 := ho.r3
  have hle := hl.le
  have hcap := hl.cap
  unfold maxLen at hcap
  have hmd : m ≤ d := by omega
  have hst := strayN_ok hw
  rw [← hm] at hst
  have hnil := imgW_nil (k := k) (t := t) (w := l) (r := r) (by omega)
  have H := Lib.hid (And.intro h (And.intro hn (And.intro ho (And.intro hst (And.intro hl (And.intro hm hnil))))))
  clear h hn ho hst hl hm hw hle hnil
  obtain ⟨R2, hR2⟩ : ∃ R2 : Nat, 2 * r = R2 := ⟨_, rfl⟩
  have w2r : IntKind.i64.wrap (2 * (r : Int)) = (R2 : Int) := by rw [IntWalk.i64_in _ (by omega)]; omega
  have hmR : m ≤ R2 := by omega
  have hm4 : ¬ 4096 < m := by omega
  clear hR2 hlen
  go_enter Tryd.func23, Tryd.ntmps23
  go_wp2_with fail
  obtain ⟨w0, hw0⟩ : ∃ w0, w0 = w.alloc (.cells #[.int .i64 (k : Int), .int .i64 (r : Int), .slice p n c] 24) := ⟨_, rfl⟩
  have hb0 : Below w.heap.size w w0 := by rw [hw0]; exact (Below.refl _ _).alloc (Nat.le_refl _) _
  have hE0 : Rul3 w0 w.heap.size (.int .i64 (k : Int)) (.int .i64 (r : Int)) (.slice p n c) := by rw [hw0]; exact Rul3.new w _ _ _
  rw [← hw0]
  obtain ⟨⟨hf0, hf1, hf2⟩, hc0, hc1, hc2⟩ := hE0.facts
  have HE := Lib.hid (And.intro hE0 hb0)
  clear hw0 hE0 hb0
  go_wp2_with fail
  refine (rcheck_ok k r p n c t w0 H.out.2.1 (H.out.1.next HE.out.2) H.out.2.2.1).mono ?_
  rintro e w1 ⟨rfl, hb1⟩
  have H1 := Lib.hid (And.intro (HE.out.1.next hb1) (HE.out.2.trans (hb1.mono HE.out.2.size)))
  clear hb1 hf0 hf1 hf2 hc0 hc1 hc2
  obtain ⟨⟨hf0, hf1, hf2⟩, hc0, hc1, hc2⟩ := H1.out.1.facts
  go_wp2_with fail
  refine (stray_any (k : Int) q m d l w1 H.out.2.2.2.2.2.1 (H.out.2.2.2.2.1.next H1.out.2)).mono ?_
  rintro e w2 ⟨rfl, rfl⟩
  rw [H.out.2.2.2.1]
  go_wp2_with fail
  go_ret2
  exact ⟨none, 0, by rw [H.out.2.2.2.2.2.2]; rfl, by rw [H.out.2.2.2.2.2.2]; exact IntO.nothing _ _, H1.out.2⟩

def StepRel (w1 : World) (k S m R2 u : Nat) (l I : List Int) (v9 v46 : Value) (wr : World) : Prop :=
  ∃ j : Nat, j ≤ m ∧ v46 = .int .i64 (j : Int) ∧ v9 = .int .i64 ((valW k (l.take j) % S : Nat) : Int) ∧ IntO w1.heap.size wr (some ⟨w1.heap.size, 0, none⟩) u (I.take (j - R2) ++ List.replicate (u - (j - R2)) 0) ∧ Below w1.heap.size w1 wr
set_option maxRecDepth 100000 in
set_option maxHeartbeats 4000000 in
theorem step_long (k r : Nat) (p q : Option Addr) (n c m d : Nat) (t l : List Int) (w : World) (hn : n = t.length) (hm : m = l.length) (h : IntV w.heap.size w p c t) (hl : IntV w.heap.size w q d l) (ho : OkR k r t) (hlen : 2 * r < m) (hm4 : m ≤ 4096) (hw : okW k l) :
    Calls Tryd.prog 23 #[.agg #[.int .i64 (k : Int), .int .i64 (r : Int), .slice p n c], .slice q m d] w (IntOk w (imgW k r t l)) := by
  have h1 := ho.k1
  have h4 := ho.k4
  have h3 := ho.r3
  have hle := hl.le
  have hcap := hl.cap
  have hcap2 := h.cap
  have hle2 := h.le
  unfold maxLen at hcap hcap2
  have hmd : m ≤ d := by omega
  have hnc : n ≤ c := by omega
  have hst := strayN_ok hw
  rw [← hm] at hst
  have hn16 : n ≤ 16384 := by rw [hn, ho.len]; exact pow_le h4 h3
  have hn1 : 1 ≤ n := by rw [hn, ho.len]; exact pow_pos h1
  obtain ⟨R2, hR2⟩ : ∃ R2 : Nat, 2 * r = R2 := ⟨_, rfl⟩
  have hS : n = k ^ (R2 + 1) := by rw [hn, ho.len, hR2]
  have hil := imgW_length k r t l
  have hig := fun i => @imgW_get k r t l i
  rw [hR2] at hil hig
  obtain ⟨I, hI⟩ : ∃ I, imgW k r t l = I := ⟨_, rfl⟩
  rw [hI] at hil ⊢
  simp only [hI] at hig
  obtain ⟨u, hu⟩ : ∃ u, m - R2 = u := ⟨_, rfl⟩
  have hIu : I.length = u := by rw [hil, ← hm, hu]
  have w2r : IntKind.i64.wrap (2 * (r : Int)) = (R2 : Int) := by rw [IntWalk.i64_in _ (by omega)]; omega
  have wmu : IntKind.i64.wrap ((m : Int) - (R2 : Int)) = (u : Int) := by rw [IntWalk.i64_in _ (by omega)]; omega
  have hmR : ¬ m ≤ R2 := by omega
  have hR6 : R2 ≤ 6 := by omega
  have hu4 : u ≤ 4096 := by omega
  have hmk := makeI u (by omega)
  have H := Lib.hid (And.intro h (And.intro hn (And.intro ho (And.intro hst (And.intro hl (And.intro hm (And.intro hig (And.intro hIu (And.intro hS (And.intro hw hu))))))))))
  clear h hn ho hst hl hm hw hle hle2 hig hIu hil hI hS hlen hR2 hu
  go_enter Tryd.func23, Tryd.ntmps23
  go_wp2_with fail
  obtain ⟨w0, hw0⟩ : ∃ w0, w0 = w.alloc (.cells #[.int .i64 (k : Int), .int .i64 (r : Int), .slice p n c] 24) := ⟨_, rfl⟩
  have hb0 : Below w.heap.size w w0 := by rw [hw0]; exact (Below.refl _ _).alloc (Nat.le_refl _) _
  have hE0 : Rul3 w0 w.heap.size (.int .i64 (k : Int)) (.int .i64 (r : Int)) (.slice p n c) := by rw [hw0]; exact Rul3.new w _ _ _
  rw [← hw0]
  obtain ⟨⟨hf0, hf1, hf2⟩, hc0, hc1, hc2⟩ := hE0.facts
  have HE := Lib.hid (And.intro hE0 hb0)
  clear hw0 hE0 hb0
  go_wp2_with fail
  refine (rcheck_ok k r p n c t w0 H.out.2.1 (H.out.1.next HE.out.2) H.out.2.2.1).mono ?_
  rintro e w1 ⟨rfl, hb1⟩
  have H1 := Lib.hid (And.intro (HE.out.1.next hb1) (HE.out.2.trans (hb1.mono HE.out.2.size)))
  clear hb1 hf0 hf1 hf2 hc0 hc1 hc2
  obtain ⟨⟨hf0, hf1, hf2⟩, hc0, hc1, hc2⟩ := H1.out.1.facts
  have hs01 : w.heap.size < w1.heap.size := H1.out.1.lt
  go_wp2_with fail
  refine (stray_any (k : Int) q m d l w1 H.out.2.2.2.2.2.1 (H.out.2.2.2.2.1.next H1.out.2)).mono ?_
  rintro e w2 ⟨rfl, rfl⟩
  rw [H.out.2.2.2.1]
  have hmk1 := hmk w1
  have ho0 := IntO.made w1 u (by omega)
  have hbm : Below w1.heap.size w1 (w1.alloc (.cells (madeCells #[.int .i64 0] u) 3)) := (Below.refl _ _).alloc (Nat.le_refl _) _
  have HO := Lib.hid (And.intro ho0 hbm)
  clear hmk ho0 hbm
  go_wp2_with fail
  clear hmk1
  go_loopw [9, 46] (fun v9 v46 wr => StepRel w1 k n m R2 u l I v9 v46 wr) (fun _ v _ => m - (intOf v).toNat)
  case atStart => exact ⟨0, Nat.zero_le _, rfl, by simp [valW], by simpa using HO.out.1, HO.out.2⟩
  case round =>
    obtain ⟨j, hj, rfl, rfl, ho, hb⟩ := hrel
    have hbw : Below w.heap.size w wr := H1.out.2.trans (hb.mono H1.out.2.size)
    have hBx := H1.out.1.next hb
    clear hf0 hf1 hf2 hc0 hc1 hc2
    obtain ⟨⟨hf0, hf1, hf2⟩, hc0, hc1, hc2⟩ := hBx.facts
    by_cases hlt : j < m
    · have hml := H.out.2.2.2.2.2.1
      obtain ⟨b, off, rfl, hbb, hc⟩ := H.out.2.2.2.2.1.cell (by rintro rfl; simp at hml; omega)
      obtain ⟨x, hx⟩ := getI (l := l) (k := j) (by omega)
      have hcx : wr.cell? ⟨b, off + j, none⟩ = some (.int .i64 x) := (hbw.cell (p := ⟨b, off + j, none⟩) hbb).trans (hc j x hx)
      have hxo := H.out.2.2.2.2.2.2.2.2.2.1 x (List.mem_of_getElem? hx)
      have hstep := step_mod (k := k) (S := n) hx
      obtain ⟨y, rfl⟩ : ∃ y : Nat, x = (y : Int) := ⟨x.toNat, by omega⟩
      rw [Int.toNat_natCast] at hstep
      have hv1 : valW k (l.take j) % n < n := Nat.mod_lt _ (by omega)
      have hv2 : valW k (l.take (j + 1)) % n < n := Nat.mod_lt _ (by omega)
      obtain ⟨v, hv⟩ : ∃ v, valW k (l.take j) % n = v := ⟨_, rfl⟩
      obtain ⟨z, hz⟩ : ∃ z, valW k (l.take (j + 1)) % n = z := ⟨_, rfl⟩
      rw [hv] at hstep hv1 ⊢
      rw [hz] at hstep hv2
      obtain ⟨a, ha⟩ : ∃ a, v * k = a := ⟨_, rfl⟩
      have ha16 : a ≤ 16384 * 4 := by rw [← ha]; exact Nat.mul_le_mul (by omega) h4
      have hvk : ((v : Int) * (k : Int)) = (a : Int) := by rw [← ha]; push_cast; rfl
      rw [ha] at hstep
      have wvk : IntKind.i64.wrap ((v : Int) * (k : Int)) = (a : Int) := by rw [hvk, IntWalk.i64_in _ (by omega)]
      have wax : IntKind.i64.wrap ((a : Int) + (y : Int)) = (a : Int) + (y : Int) := by rw [IntWalk.i64_in _ (by omega)]
      have e1 : ((a : Int) + (y : Int)) % (n : Int) = (z : Int) := by rw [← hstep]; push_cast; rfl
      have t1 : ((a : Int) + (y : Int)).tmod (n : Int) = (z : Int) := by rw [Int.tmod_eq_emod_of_nonneg (by omega), e1]
      have hn0 : ¬ (n : Int) = 0 := by omega
      by_cases hjR : j < R2
      · have e2 : j - R2 = 0 := by omega
        have e3 : j + 1 - R2 = 0 := by omega
        rw [e2] at ho
        have HS := Lib.hid (And.intro hz (And.intro hb (And.intro ho e3)))
        clear hc hx hv hz ha hvk hstep hml hb ho hbw hBx e2 e3
        go_wp2_with fail
        go_roundw
        case rel => exact ⟨j + 1, by omega, by go_num, by rw [HS.out.1], by rw [HS.out.2.2.2]; exact HS.out.2.2.1, HS.out.2.1⟩
        case measure => simp [intOf]; omega
      · obtain ⟨i, hi⟩ : ∃ i, j - R2 = i := ⟨_, rfl⟩
        have hiu : i < u := by have := H.out.2.2.2.2.2.2.2.2.2.2; omega
        have wji : IntKind.i64.wrap ((j : Int) - (R2 : Int)) = (i : Int) := by rw [IntWalk.i64_in _ (by omega)]; omega
        have hIi := H.out.2.2.2.2.2.2.1 i (by have := H.out.2.2.2.2.2.2.2.2.2.2; omega)
        have hwm := win_mod (k := k) (w := l) (i := i) (n := R2 + 1) H.out.2.2.2.2.2.2.2.2.2.1 (by omega)
        rw [show i + (R2 + 1) = j + 1 by omega, ← H.out.2.2.2.2.2.2.2.2.1, hz] at hwm
        rw [← hwm] at hIi
        have hzt : z < t.length := by have := H.out.2.1; omega
        have hg := ent_get hzt
        obtain ⟨b2, off2, rfl, hb2, hc2'⟩ := H.out.1.cell (by rintro rfl; simp at hzt)
        have hcz : wr.cell? ⟨b2, off2 + z, none⟩ = some (.int .i64 (ent t z)) := (hbw.cell (p := ⟨b2, off2 + z, none⟩) hb2).trans (hc2' _ _ hg)
        obtain ⟨f, hf⟩ : ∃ f, ent t z = f := ⟨_, rfl⟩
        rw [hf] at hcz hIi
        rw [hi] at ho
        have hput := put_next hIi hiu
        have hmid := mid_len (l := I) (j := i) (n := u) (by have := H.out.2.2.2.2.2.2.2.1; omega) (by omega)
        obtain ⟨xs, hxs⟩ : ∃ xs, I.take i ++ List.replicate (u - i) (0 : Int) = xs := ⟨_, rfl⟩
        rw [hxs] at ho hput hmid
        have hown : wr.ownsRow w1.heap.size 3 1 (.slice (some ⟨w1.heap.size, 0, none⟩) u u) u (cI xs) := by
          unfold IntO at ho
          rwa [hmid] at ho
        obtain ⟨y0, hy0⟩ := getI (l := xs) (k := i) (by omega)
        have hcy : wr.cell? ⟨w1.heap.size, i, none⟩ = some (.int .i64 y0) := (hown.cellAt i (by omega)).trans (cI_get hy0)
        have hfy : wr.frozen? ⟨w1.heap.size, i, none⟩ = false := hown.frozenAt i
        obtain ⟨s1, t1'⟩ := hown.stored i (.int .i64 f)
        rw [← cI_set, hput] at s1
        have hb1 : Below w1.heap.size w1 (wr.setCell ⟨w1.heap.size, i, none⟩ (.int .i64 f)) := hb.setCell (p := ⟨w1.heap.size, i, none⟩) (Nat.le_refl _) _
        have hmid1 := mid_len (l := I) (j := i + 1) (n := u) (by have := H.out.2.2.2.2.2.2.2.1; omega) (by omega)
        have hij : j + 1 - R2 = i + 1 := by omega
        have HS := Lib.hid (And.intro hz (And.intro hb1 (And.intro s1 (And.intro hmid1 hij))))
        have hzn : z < n := hv2
        clear hc hx hv hz ha hvk hstep hml hb ho hbw hBx hi hIi hwm hzt hg hf hput hmid hxs hown s1 t1' hb1 hmid1 hij hc2' hy0
        go_wp2_with fail
        go_region
        go_wp2_with fail
        go_roundw
        case rel => exact ⟨j + 1, by omega, by go_num, by rw [HS.out.1], by rw [HS.out.2.2.2.2]; unfold IntO; rw [HS.out.2.2.2.1]; exact HS.out.2.2.1, HS.out.2.1.drew⟩
        case measure => simp [intOf]; omega
    · obtain rfl : j = m := by omega
      have hju : j - R2 = u := H.out.2.2.2.2.2.2.2.2.2.2
      have hIu := H.out.2.2.2.2.2.2.2.1
      have he : I.take u ++ List.replicate (u - u) (0 : Int) = I := by rw [Nat.sub_self, List.replicate_zero, List.append_nil, ← hIu, List.take_length]
      rw [hju, he] at ho
      have HF := Lib.hid (And.intro (ho.base (Nat.le_of_lt hs01)) hbw)
      clear ho hb he hbw hBx hju hIu
      go_wp2_with fail
      go_ret2
      exact ⟨_, _, by rw [H.out.2.2.2.2.2.2.2.1]; rfl, HF.out.1, HF.out.2⟩
end Go.Proofs.YtmienemnjikgdaaDoor
end
section
namespace Go.Proofs.YtmienemnjikgdaaDoor
open Go.RowKit Go.Extern.Stop Go.Stop Go.Extern WordM NatM

end Go.Proofs.YtmienemnjikgdaaDoor
end
section
namespace Go.Proofs.YtmienemnjikgdaaDoor
open Go.RowKit Go.Extern.Stop Go.Stop Go.Extern WordM NatM

/-- a number and no error, both new -/
def NumOk (w : World) (n : Nat) (e : Ending) (w' : World) : Prop :=
  ∃ p c, e = .returned (.tuple #[.slice p (D32 n).length c, .nilIface]) ∧ NatO w.heap.size w' p c (D32 n) ∧ Below w.heap.size w w'
theorem valW_len {k : Nat} {l : List Int} (h4 : k ≤ 4) (h : okW k l) : (D32 (valW k l)).length ≤ l.length := by
  apply D32_len
  exact Nat.lt_of_lt_of_le (valW_lt h) (Nat.pow_le_pow_left (by omega) _)
theorem valW_take {k : Nat} {l : List Int} {j : Nat} {x : Int} (h : l[j]? = some x) : valW k (l.take (j + 1)) = valW k (l.take j) * k + x.toNat := by
  rw [List.take_add_one, h]
  exact valW_snoc k _ x
def IndexRel (w : World) (k : Nat) (l : List Int) (v8 v26 : Value) (wr : World) : Prop :=
  ∃ (j : Nat) (p : Option Addr) (c : Nat), j ≤ l.length ∧ v26 = .int .i64 (j : Int) ∧ v8 = .slice p (D32 (valW k (l.take j))).length c ∧ NatO w.heap.size wr p c (D32 (valW k (l.take j))) ∧ Below w.heap.size w wr
end Go.Proofs.YtmienemnjikgdaaDoor
end
section
namespace Go.Proofs.YtmienemnjikgdaaDoor
open Go.RowKit Go.Extern.Stop Go.Stop Go.Extern WordM NatM

/-- the word of n symbols with this number, and no error -/
def AtOk (w : World) (k n i : Nat) (e : Ending) (w' : World) : Prop := ∃ x : List Int, x.length = n ∧ okW k x ∧ valW k x = i ∧ IntOk w x e w'
def AtRel (w : World) (k n i : Nat) (g : Nat) (v2 v11 : Value) (wr : World) : Prop :=
  ∃ (j R : Nat) (x : List Int) (q : Option Addr) (cq : Nat) (b : List Nat), j ≤ n ∧ v11 = .int .i64 ((j : Int) - 1) ∧ v2 = .slice q b.length cq ∧ V32 b = R ∧ NatV wr.heap.size wr q cq b ∧ b.length ≤ 100000 ∧
    x.length = n - j ∧ okW k x ∧ valW k x + k ^ (n - j) * R = i ∧ IntO w.heap.size wr (some ⟨g, 0, none⟩) n (List.replicate j 0 ++ x) ∧ w.heap.size ≤ g ∧ Below w.heap.size w wr
def OverIs (w : World) (q d : Nat) (e : Ending) (w' : World) : Prop :=
  ∃ p c, e = .returned (.tuple #[.slice p (D32 q).length c, .int .u32 (d : Int), .nilIface]) ∧ NatO w.heap.size w' p c (D32 q) ∧ Below w.heap.size w w'
theorem over_is {w : World} {n d q r : Nat} {e : Ending} {w' : World} (hq : n / d = q) (hr : n % d = r) (h : OverPost w n d e w') : OverIs w q r e w' := by
  subst hq hr
  exact h
theorem set_front {x : List Int} {j : Nat} {v : Int} : (List.replicate (j + 1) (0 : Int) ++ x).set j v = List.replicate j 0 ++ v :: x := by
  rw [List.replicate_succ', List.append_assoc, List.set_append_right _ _ (by simp), List.length_replicate, Nat.sub_self]
  rfl
end Go.Proofs.YtmienemnjikgdaaDoor
end
section
namespace Go.Proofs.YtmienemnjikgdaaDoor
open Go.RowKit Go.Extern.Stop Go.Stop Go.Extern WordM NatM


/-- whatever Pow tells -/
def PowSome (w : World) (e : Ending) (w' : World) : Prop := ∃ p n c v, e = .returned (.tuple #[.slice p n c, v]) ∧ Below w.heap.size w w'
end Go.Proofs.YtmienemnjikgdaaDoor
end
section
namespace Go.Proofs.YtmienemnjikgdaaDoor
open Go.RowKit Go.Extern.Stop Go.Stop Go.Extern WordM RuleM NatM
attribute [local go_sem ↓] Go.wp_at_zero Go.wp_at_succ

set_option maxRecDepth 100000 in
set_option maxHeartbeats 2000000 in
theorem step_bad (k r : Int) (p q : Option Addr) (n c m d : Nat) (t l : List Int) (w : World) (A : Nat → Addr) (hr : Roots w A) (hn : n = t.length) (hm : m = l.length) (h : IntV w.heap.size w p c t) (hl : IntV w.heap.size w q d l) (i a : Nat) (hc : chkT k r t l = some (i, a)) :
    Calls Tryd.prog 23 #[.agg #[.int .i64 k, .int .i64 r, .slice p n c], .slice q m d] w (Err2 w A ruleOp i a (.slice none 0 0)) := by
  have start : ∀ (w0 : World), w0 = w.alloc (.cells #[.int .i64 k, .int .i64 r, .slice p n c] 24) → Below w.heap.size w w0 ∧ Rul3 w0 w.heap.size (.int .i64 k) (.int .i64 r) (.slice p n c) := fun w0 hw0 =>
    ⟨by rw [hw0]; exact (Below.refl _ _).alloc (Nat.le_refl _) _, by rw [hw0]; exact Rul3.new w _ _ _⟩
  have ST := Lib.hid start
  clear start
  unfold chkT at hc
  split at hc
  · obtain ⟨rfl, rfl⟩ := Prod.mk.inj (Option.some.inj hc)
    rename_i hcr
    have H := Lib.hid (And.intro h (And.intro hn (And.intro hr hcr)))
    clear h hn hr hcr hc hm hl
    go_enter Tryd.func23, Tryd.ntmps23
    go_wp2_with fail
    obtain ⟨w0, hw0⟩ : ∃ w0, w0 = w.alloc (.cells #[.int .i64 k, .int .i64 r, .slice p n c] 24) := ⟨_, rfl⟩
    rw [← hw0]
    obtain ⟨hb0, hE0⟩ := ST.out w0 hw0
    obtain ⟨⟨hf0, hf1, hf2⟩, hc0, hc1, hc2⟩ := hE0.facts
    have HE := Lib.hid (And.intro hE0 hb0)
    clear hw0 hE0 hb0
    go_wp2_with fail
    refine (rcheck_bad k r p n c t w0 A (H.out.2.2.1.below HE.out.2) H.out.2.1 (H.out.1.next HE.out.2) _ H.out.2.2.2).mono ?_
    rintro e w1 ⟨b, rfl, hl1, hb1⟩
    have HF := Lib.hid (And.intro hl1 (HE.out.2.trans (hb1.mono HE.out.2.size)))
    clear hl1 hb1
    go_wp2_with fail
    go_ret2
    exact ⟨_, rfl, HF.out.1, HF.out.2⟩
  · rename_i hcr
    obtain ⟨K, R, rfl, rfl, ho⟩ := chkR_none hcr
    have h4 := ho.k4
    have hle := hl.le
    have hcap := hl.cap
    unfold maxLen at hcap
    have hmx : m ≤ 9223372036854775807 := by omega
    split at hc
    · obtain ⟨rfl, rfl⟩ := Prod.mk.inj (Option.some.inj hc)
      rename_i hne
      have hne' : 4096 < m := by omega
      have H := Lib.hid (And.intro h (And.intro hn (And.intro hr ho)))
      clear h hn hr hcr hc hm hl ho hne hle hcap
      go_enter Tryd.func23, Tryd.ntmps23
      go_wp2_with fail
      obtain ⟨w0, hw0⟩ : ∃ w0, w0 = w.alloc (.cells #[.int .i64 (K : Int), .int .i64 (R : Int), .slice p n c] 24) := ⟨_, rfl⟩
      rw [← hw0]
      obtain ⟨hb0, hE0⟩ := ST.out w0 hw0
      obtain ⟨⟨hf0, hf1, hf2⟩, hc0, hc1, hc2⟩ := hE0.facts
      have HE := Lib.hid (And.intro hE0 hb0)
      clear hw0 hE0 hb0
      go_wp2_with fail
      refine (rcheck_ok K R p n c t w0 H.out.2.1 (H.out.1.next HE.out.2) H.out.2.2.2).mono ?_
      rintro e w1 ⟨rfl, hb1⟩
      have H1 := Lib.hid (And.intro (HE.out.1.next hb1) (HE.out.2.trans (hb1.mono HE.out.2.size)))
      clear hb1 hf0 hf1 hf2 hc0 hc1 hc2
      obtain ⟨⟨hf0, hf1, hf2⟩, hc0, hc1, hc2⟩ := H1.out.1.facts
      go_wp2_with fail
      refine (new_at ruleOp 0 4 w1 A (H.out.2.2.1.below H1.out.2) (by omega)).mono ?_
      rintro e w2 ⟨b, rfl, hl2, hb2⟩
      have HF := Lib.hid (And.intro hl2 (H1.out.2.trans (hb2.mono H1.out.2.size)))
      clear hl2 hb2
      go_wp2_with fail
      go_ret2
      exact ⟨_, rfl, HF.out.1, HF.out.2⟩
    · rename_i hlen
      obtain ⟨j, hj, he⟩ := Option.map_eq_some_iff.1 hc
      obtain ⟨rfl, rfl⟩ := Prod.mk.inj he
      have hjl := strayN_lt hj
      have hst := strayN_bad hj
      have hjm : j < m := by omega
      have hm4 : ¬ 4096 < m := by omega
      have H := Lib.hid (And.intro h (And.intro hn (And.intro hr (And.intro ho (And.intro hst (And.intro hl hm))))))
      clear h hn hr hcr hc hm hl ho hle hcap hst hjl hj hlen he
      go_enter Tryd.func23, Tryd.ntmps23
      go_wp2_with fail
      obtain ⟨w0, hw0⟩ : ∃ w0, w0 = w.alloc (.cells #[.int .i64 (K : Int), .int .i64 (R : Int), .slice p n c] 24) := ⟨_, rfl⟩
      rw [← hw0]
      obtain ⟨hb0, hE0⟩ := ST.out w0 hw0
      obtain ⟨⟨hf0, hf1, hf2⟩, hc0, hc1, hc2⟩ := hE0.facts
      have HE := Lib.hid (And.intro hE0 hb0)
      clear hw0 hE0 hb0
      go_wp2_with fail
      refine (rcheck_ok K R p n c t w0 H.out.2.1 (H.out.1.next HE.out.2) H.out.2.2.2.1).mono ?_
      rintro e w1 ⟨rfl, hb1⟩
      have H1 := Lib.hid (And.intro (HE.out.1.next hb1) (HE.out.2.trans (hb1.mono HE.out.2.size)))
      clear hb1 hf0 hf1 hf2 hc0 hc1 hc2
      obtain ⟨⟨hf0, hf1, hf2⟩, hc0, hc1, hc2⟩ := H1.out.1.facts
      go_wp2_with fail
      refine (stray_any (K : Int) q m d l w1 H.out.2.2.2.2.2.2 (H.out.2.2.2.2.2.1.next H1.out.2)).mono ?_
      rintro e w2 ⟨rfl, rfl⟩
      rw [H.out.2.2.2.2.1]
      go_wp2_with fail
      refine (new_at ruleOp j 2 w1 A (H.out.2.2.1.below H1.out.2) (by omega)).mono ?_
      rintro e w2 ⟨b, rfl, hl2, hb2⟩
      have HF := Lib.hid (And.intro hl2 (H1.out.2.trans (hb2.mono H1.out.2.size)))
      clear hl2 hb2
      go_wp2_with fail
      go_ret2
      exact ⟨_, rfl, HF.out.1, HF.out.2⟩
/-- Step, whatever is asked that it does not refuse -/
theorem step_ok (k r : Int) (p q : Option Addr) (n c m d : Nat) (t l : List Int) (w : World) (hn : n = t.length) (hm : m = l.length) (h : IntV w.heap.size w p c t) (hl : IntV w.heap.size w q d l) (hc : chkT k r t l = none) :
    Calls Tryd.prog 23 #[.agg #[.int .i64 k, .int .i64 r, .slice p n c], .slice q m d] w (IntOk w (imgW k.toNat r.toNat t l)) := by
  obtain ⟨K, R, rfl, rfl, ho, hl4, hw⟩ := chkT_none hc
  rw [Int.toNat_natCast, Int.toNat_natCast]
  rcases Nat.lt_or_ge (2 * R) m with h1 | h1
  · exact step_long K R p q n c m d t l w hn hm h hl ho h1 (by omega) hw
  · exact step_short K R p q n c m d t l w hn hm h hl ho h1 hw

end Go.Proofs.YtmienemnjikgdaaDoor
end
section
namespace Go.Proofs.YtmienemnjikgdaaDoor
open Go.RowKit Go.Extern.Stop Go.Stop Go.Extern WordM RuleM NatM

theorem setCell_same {w : World} {h i : Nat} {cs : Array Value} {T : TypeId} {v : Value} (hh : w.heap[h]? = some (.cells cs T (0, 0))) (hv : cs[i]? = some v) : w.setCell ⟨h, i, none⟩ v = w := by
  have hm : (w.heap.modify h fun
      | .cells c elem frozen => .cells (if (none : Option (Nat × Nat)).isSome then c else c.setIfInBounds i v) elem frozen
      | o => o) = w.heap := by
    apply Array.ext_getElem?
    intro j
    rw [Array.getElem?_modify]
    split
    · rename_i e
      subst e
      rw [hh]
      have : cs.setIfInBounds i v = cs := by
        apply Array.ext_getElem?
        intro z
        rw [Array.getElem?_setIfInBounds]
        split
        · rename_i e; subst e
          split
          · exact hv.symm
          · rename_i hz; rw [Array.getElem?_eq_none (by omega)]
        · rfl
      simp [this]
    · rfl
  exact congrArg (fun h => ({ w with heap := h } : World)) hm
theorem put3_same {w : World} {h : Nat} {a b c : Value} (k : Rul3 w h a b c) : put3 w h a b c = w := by
  unfold put3
  rw [setCell_same k.heap rfl, setCell_same k.heap rfl, setCell_same k.heap rfl]
theorem IntO.put3 {base h : Nat} {w : World} {p : Option Addr} {c : Nat} {l : List Int} (ho : IntO base w p c l) (hh : h < base) (a b d : Value) : IntO base (put3 w h a b d) p c l :=
  ownsRow_setCell_below (ownsRow_setCell_below (ownsRow_setCell_below ho (a := ⟨h, 0, none⟩) hh a) (a := ⟨h, 1, none⟩) hh b) (a := ⟨h, 2, none⟩) hh d

theorem Rul3.setOther {w : World} {h : Nat} {a b c : Value} (k : Rul3 w h a b c) (g i : Nat) (hg : g ≠ h) (v : Value) : Rul3 (w.setCell ⟨g, i, none⟩ v) h a b c := ⟨by
  show (w.heap.modify g _)[h]? = _
  rw [Array.getElem?_modify, if_neg hg]
  exact k.heap⟩
theorem Rul3.putOther {w : World} {h : Nat} {a b c : Value} (k : Rul3 w h a b c) (g : Nat) (hg : g ≠ h) (x y z : Value) : Rul3 (put3 w g x y z) h a b c := ((k.setOther g 0 hg x).setOther g 1 hg y).setOther g 2 hg z

/-- no rule -/
def noRule : Value := .agg #[.int .i64 0, .int .i64 0, .slice none 0 0]
/-- a new rule, and no error -/
def RuleOk (w : World) (k r : Nat) (t : List Int) (e : Ending) (w' : World) : Prop :=
  ∃ p c, e = .returned (.tuple #[.agg #[.int .i64 (k : Int), .int .i64 (r : Int), .slice p t.length c], .nilIface]) ∧ IntO w.heap.size w' p c t ∧ Below w.heap.size w w'
/-- the rule with this number, and no error -/
def FromOk (w : World) (k r i : Nat) (e : Ending) (w' : World) : Prop := ∃ t, OkR k r t ∧ codeR k t = i ∧ RuleOk w k r t e w'


/-- where From refuses: the place and the number -/
def chkF (k r : Int) (i : Nat) : Option (Nat × Nat) :=
  if (k < 1 ∨ 4 < k) ∨ r < 0 ∨ 3 < r then some (0, 3) else if 256 < k.toNat ^ (2 * r.toNat + 1) then some (0, 4) else if k.toNat ^ (k.toNat ^ (2 * r.toNat + 1)) ≤ i then some (1, 3) else none
end Go.Proofs.YtmienemnjikgdaaDoor
end
section
namespace Go.Proofs.YtmienemnjikgdaaDoor
open Go.RowKit Go.Extern.Stop Go.Stop Go.Extern WordM RuleM NatM

/-- the first byte that begins no rule's text, of a text of n bytes that begins with these -/
def fwS (n a b c d : Nat) : Nat :=
  if n = 0 ∨ a < 49 ∨ 52 < a then 0 else if n = 1 ∨ b ≠ 46 then 1 else if n = 2 ∨ c < 48 ∨ 51 < c then 2 else if n = 3 ∨ d ≠ 46 then 3 else 4
def byteS (s : ByteArray) (i : Nat) : Nat := (bsOf s).getD i 0
theorem byteS_get {s : ByteArray} {i : Nat} (h : i < s.size) : byteS s i = (s[i]).toNat := by
  unfold byteS
  rw [List.getD_eq_getElem?_getD, bsOf_get h]; rfl
/-- the same of a text -/
def fwT (s : ByteArray) : Nat := fwS s.size (byteS s 0) (byteS s 1) (byteS s 2) (byteS s 3)
theorem fwT_le (s : ByteArray) : fwT s ≤ 4 := by
  unfold fwT fwS
  split <;> (try split) <;> (try split) <;> (try split) <;> omega
def FwPost (w : World) (s : ByteArray) (e : Ending) (w' : World) : Prop := e = .returned (.int .i64 (fwT s : Int)) ∧ w = w'
theorem fw_post {w : World} {s : ByteArray} {n : Nat} (h : fwT s = n) : FwPost w s (.returned (.int .i64 (n : Int))) w := ⟨by rw [h], rfl⟩

theorem fw_size {s : ByteArray} {n : Nat} (h : min s.size 4 = n) : fwT s = fwS n (byteS s 0) (byteS s 1) (byteS s 2) (byteS s 3) := by
  unfold fwT fwS
  split <;> split <;> (try split) <;> (try split) <;> (try split) <;> (try split) <;> (try split) <;> (try split) <;> omega

end Go.Proofs.YtmienemnjikgdaaDoor
end
section
namespace Go.Proofs.YtmienemnjikgdaaDoor
open Go.RowKit Go.Extern.Stop Go.Stop Go.Extern WordM RuleM NatM

theorem Rul3.put {w : World} {h : Nat} {a b c : Value} (k : Rul3 w h a b c) (a' b' c' : Value) : Rul3 (put3 w h a' b' c') h a' b' c' := by
  have set : ∀ {w : World} {cs : Array Value} {T : TypeId} (i : Nat) (v : Value), w.heap[h]? = some (.cells cs T (0, 0)) → (w.setCell ⟨h, i, none⟩ v).heap[h]? = some (.cells (cs.setIfInBounds i v) T (0, 0)) := fun {w cs T} i v hh => by
    show (w.heap.modify h _)[h]? = _
    rw [Array.getElem?_modify, if_pos rfl, hh]; rfl
  exact ⟨set 2 c' (set 1 b' (set 0 a' k.heap))⟩
theorem fwT_four {s : ByteArray} (h : fwT s = 4) : 4 ≤ s.size ∧ (49 ≤ byteS s 0 ∧ byteS s 0 ≤ 52) ∧ byteS s 1 = 46 ∧ (48 ≤ byteS s 2 ∧ byteS s 2 ≤ 51) ∧ byteS s 3 = 46 := by
  unfold fwT fwS at h
  split at h
  · omega
  · split at h
    · omega
    · split at h
      · omega
      · split at h
        · omega
        · omega
/-- what a rule's text says of symbols and radius, and the rest -/
def symK (s : ByteArray) : Nat := byteS s 0 - 48
def symR (s : ByteArray) : Nat := byteS s 2 - 48
def restS (s : ByteArray) : ByteArray := s.extract 4 s.size
theorem sym_range {s : ByteArray} (h : fwT s = 4) : 1 ≤ symK s ∧ symK s ≤ 4 ∧ symR s ≤ 3 := by
  have := fwT_four h
  unfold symK symR
  omega


/-- refused by nat.Parse: rule's Fault over nat's -/
def ErrU (w : World) (A : Nat → Addr) (i m : Nat) (e : Ending) (w' : World) : Prop :=
  ∃ b b', e = .returned (.tuple #[noRule, .iface 78 (.pointer (some ⟨b, 0, none⟩))]) ∧ (Tree.fault b ruleOp 4 (.fault b' natOp i (.leaf (A m)))).lies w' ∧ Below w.heap.size w w'
end Go.Proofs.YtmienemnjikgdaaDoor
end
