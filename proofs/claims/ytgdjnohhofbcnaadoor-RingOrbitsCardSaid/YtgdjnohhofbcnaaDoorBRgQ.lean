/- The document's own package of rings by its contracts, sixth part: Trace. -/
import Derived.Test.YtgdjnohhofbcnaaDoorBRgP
import Derived.Test.YtgdjnohhofbcnaaDoorB4
namespace Go.Proofs.YtgdjnohhofbcnaaDoor
open Go.RowKit Go.Extern.Stop Go.Stop Go.Extern WordM RuleM NatM

theorem IntV.grownO {B : Nat} {w w' : World} {p : Option Addr} {c : Nat} {row : Option Nat} {l : List Int} (h : IntV B w p c l) (hg : w.grownBy w' row) (hp : ∀ b off, p = some ⟨b, off, none⟩ → some b ≠ row) : IntV B w' p c l :=
  ⟨h.le, h.cap, h.nil, fun hn => by
    obtain ⟨b, off, he, hlt, hc⟩ := h.cell hn
    exact ⟨b, off, he, hlt, fun j x hx => hg.cell (hc j x hx) (hp b off he)⟩⟩
theorem wp_pushA {o : Oper} {a : Act} {K : Act → World → Prop} {Q : Exit → Act → World → Prop} {w : World} (s x : Operand)
    (ho : o.op = .call { callee := .builtin .append, args := #[s, x], argTypes := #[22, 22] }) (base : Nat) (p : Option Addr) (n c : Nat) (l : List Int) (hs : a.eval s = .slice p n c) (hn : n = l.length) (h : IntO base w p c l) (hB : base ≤ w.heap.size)
    (B : Nat) (y : Int) (hx : a.eval x = .slice (some ⟨B, 0, none⟩) 1 1) (hb : w.heap[B]? = some (.cells #[.int .i64 y] 3 (0, 0))) (hl : l.length ≤ 1000000)
    (hK : ∀ p' c' w', IntO base w' p' c' (l ++ [y]) → Below base w w' → w.grownBy w' (Value.slice p n c).ownBlock → (∀ b off, p' = some ⟨b, off, none⟩ → (Value.slice p n c).ownBlock = some b ∨ b = w.heap.size) → K (a.put o.dst (.slice p' (n + 1) c')) w') : o.wp Tryd.prog a w K Q := by
  obtain ⟨i0, hi, hz0, hz1, hz2⟩ := info_parts infoI
  subst hn
  refine wp_append_lies w s x 22 ho base 3 i0 (.int .i64 0) 1 8 Tryd.underlying22 hi hz0 hz1 hz2 rfl (by decide) _ l.length (cI l) hs h ⟨B, 0, none⟩ 1 1 [.int .i64 y] hx (by simp) (World.news_of_block hb) (by simp [Value.oneCell']) (by omega) (by unfold maxLen; omega) (by omega) hB w.heap.size rfl ?_
  intro g cap w' hown hgrow hg _
  have hxs : cI l ++ [Value.int .i64 y] = cI (l ++ [y]) := by rw [cI_app]; rfl
  rw [hxs] at hown
  have hown2 : w'.ownsRow base 3 1 (.slice (some ⟨g, 0, none⟩) (l.length + 1) cap) (l ++ [y]).length (cI (l ++ [y])) := by rw [List.length_append]; exact hown
  exact hK (some ⟨g, 0, none⟩) cap w' (by unfold IntO; rw [List.length_append]; rw [List.length_append] at hown2; exact hown2) ((Below.refl _ _).grown hgrow hB (fun j hj => (World.ownsRow.lt h j hj).1)) hgrow (fun b off he => by
    obtain ⟨rfl, rfl⟩ : g = b ∧ 0 = off := by simpa using he
    exact hg)
theorem wpList_pushA {ops : Array Oper} {rest : List Oper} {o : Oper} {a : Act} {Q : Exit → Act → World → Prop} {w : World} (hgd : o.guard = none) (s x : Operand)
    (ho : o.op = .call { callee := .builtin .append, args := #[s, x], argTypes := #[22, 22] }) (base : Nat) (p : Option Addr) (n c : Nat) (l : List Int) (hs : a.eval s = .slice p n c) (hn : n = l.length) (h : IntO base w p c l) (hB : base ≤ w.heap.size)
    (B : Nat) (y : Int) (hx : a.eval x = .slice (some ⟨B, 0, none⟩) 1 1) (hb : w.heap[B]? = some (.cells #[.int .i64 y] 3 (0, 0))) (hl : l.length ≤ 1000000)
    (hK : ∀ p' c' w', IntO base w' p' c' (l ++ [y]) → Below base w w' → w.grownBy w' (Value.slice p n c).ownBlock → (∀ b off, p' = some ⟨b, off, none⟩ → (Value.slice p n c).ownBlock = some b ∨ b = w.heap.size) → wpList Tryd.prog ops Q rest (a.put o.dst (.slice p' (n + 1) c')) w') : wpList Tryd.prog ops Q (o :: rest) a w :=
  wpList_plain hgd fun _ h' => wp_pushA s x ho base p n c l hs hn h hB B y hx hb hl fun p' c' w' h1 h2 h3 h4 => h' _ _ (hK p' c' w' h1 h2 h3 h4)
/-- the trace so far, the ring, and that they lie apart -/
def TrRel (w4 : World) (K R N m : Nat) (t l : List Int) (v9 v10 v11 : Value) (wr : World) : Prop :=
  ∃ (j : Nat) (p9 : Option Addr) (c9 : Nat) (p' : Option Addr) (c' : Nat), j ≤ N ∧ v11 = .int .i64 (j : Int) ∧ v9 = .slice p9 j c9 ∧ v10 = .slice p' m c' ∧ IntO w4.heap.size wr p9 c9 (traceW K R t j l) ∧ IntV wr.heap.size wr p' c' (stepsW K R t j l) ∧ (∀ b off, p' = some ⟨b, off, none⟩ → some b ≠ (Value.slice p9 j c9).ownBlock) ∧ Below w4.heap.size w4 wr
theorem IntO.notOwn {base : Nat} {w : World} {p : Option Addr} {c : Nat} {l : List Int} (h : IntO base w p c l) (row : Option Nat) (hr : ∀ z, row = some z → z < base) : ∀ b off, p = some ⟨b, off, none⟩ → some b ≠ row := by
  rintro b off rfl e
  exact h.apart (hr b e.symm) b off rfl rfl
set_option maxRecDepth 100000 in
set_option maxHeartbeats 16000000 in
theorem gtrace_ref_ok (K R N : Nat) (p q : Option Addr) (n c m d : Nat) (t l : List Int) (w : World) (hn : n = t.length) (hm : m = l.length) (h : IntV w.heap.size w p c t) (h' : IntV w.heap.size w q d l) (ho : OkR K R t) (h0 : 0 < l.length) (h4 : l.length ≤ 4096) (hw : okW K l) (hN : N ≤ 262144 / l.length) :
    Calls Tryd.prog 17 #[.agg #[.int .i64 (K : Int), .int .i64 (R : Int), .slice p n c], .slice q m d, .int .i64 (N : Int)] w (GRefOk w (traceW K R t N l)) := by
  have ST := Lib.hid (two_boxesG w (.int .i64 (K : Int)) (.int .i64 (R : Int)) (.slice p n c) (.int .i64 0) (.slice none 0 0) (.slice none 0 0))
  have hm0 : 0 < m := by omega
  have hm4 : m ≤ 4096 := by omega
  have hN2 : N ≤ 262144 := Nat.le_trans hN (Nat.div_le_self _ _)
  have H := Lib.hid (And.intro hn (And.intro hm (And.intro h (And.intro h' (And.intro ho (And.intro h0 (And.intro h4 (And.intro hw hN))))))))
  clear hn hm h h' ho h0 h4 hw hN
  go_enter Tryd.func17, Tryd.ntmps17
  go_upto_region 1 with fail
  obtain ⟨w0, hw0⟩ : ∃ w0, w0 = (w.alloc (.cells #[.int .i64 (K : Int), .int .i64 (R : Int), .slice p n c] 24)).alloc (.cells #[.int .i64 0, .slice none 0 0, .slice none 0 0] 34) := ⟨_, rfl⟩
  rw [← hw0]
  obtain ⟨hb0, hR0, hE0⟩ := ST.out w0 hw0
  have hszb : (w.alloc (.cells #[.int .i64 (K : Int), .int .i64 (R : Int), .slice p n c] 24)).heap.size = w.heap.size + 1 := by simp
  obtain ⟨_, hr0, hr1, hr2⟩ := hR0.facts
  have HE := Lib.hid (And.intro hR0 (And.intro hE0 hb0))
  clear hw0 hR0 hE0 hb0
  go_wp2_with fail
  refine (gsteps_ref_ok K R N p q n c m d t l w0 H.out.1 H.out.2.1 (H.out.2.2.1.next HE.out.2.2) (H.out.2.2.2.1.next HE.out.2.2) H.out.2.2.2.2.1 H.out.2.2.2.2.2.1 H.out.2.2.2.2.2.2.1 H.out.2.2.2.2.2.2.2.1 H.out.2.2.2.2.2.2.2.2).mono ?_
  rintro e w1 ⟨rfl, hb1⟩
  clear hr0 hr1 hr2
  go_upto_region 2 with fail
  obtain ⟨w3, hw3⟩ : ∃ x, x = w1.alloc (.cells #[.int .i64 0, .slice none 0 0, .slice none 0 0] 34) := ⟨_, rfl⟩
  obtain ⟨hb3, hE3⟩ := box_err w1 _ _ _ w3 hw3
  rw [← hw3]
  have h03 := hb1.trans (hb3.mono hb1.size)
  have H3 := Lib.hid (And.intro (HE.out.1.next h03) (And.intro (HE.out.2.1.next h03) (HE.out.2.2.trans (h03.mono HE.out.2.2.size))))
  obtain ⟨_, hk0, hk1, hk2⟩ := hE3.facts
  clear hb1 hw3 hb3 hE3 h03
  go_wp2_with fail
  refine (badG_no (.slice none 0 0) (.slice none 0 0) w3).mono ?_
  rintro e w4 ⟨rfl, hb4⟩
  have H4 := Lib.hid (And.intro (H3.out.1.next hb4) (And.intro (H3.out.2.1.next hb4) (H3.out.2.2.trans (hb4.mono H3.out.2.2.size))))
  have hlt4 := heap_ltN (H3.out.2.1.next hb4).heap
  clear hb4 hk0 hk1 hk2
  obtain ⟨_, hr0, hr1, hr2⟩ := H4.out.1.facts
  have hcp := copyI_any q m d l w4 H.out.2.1 (H.out.2.2.2.1.next H4.out.2.2) (by have := H.out.2.1; omega)
  unfold CopyPostI at hcp
  rw [← H.out.2.1] at hcp
  have HCP := Lib.hid hcp
  clear hcp hr0 hr1 hr2
  go_wp2_with fail
  refine HCP.out.mono ?_
  rintro e w5 ⟨p5, c5, rfl, ho5, hb5⟩
  have H5 := Lib.hid (And.intro ho5 hb5)
  clear ho5 hb5 HCP
  go_wp2_with fail
  go_loopw [9, 10, 11] (fun v9 v10 v11 wr => TrRel w4 K R N m t l v9 v10 v11 wr) (fun _ _ v _ => N - (intOf v).toNat)
  case atStart =>
    refine ⟨0, none, 0, p5, c5, Nat.zero_le _, rfl, rfl, rfl, IntO.nothing _ _, H5.out.1.toV, ?_, H5.out.2⟩
    rintro b off rfl e
    simp [Value.ownBlock] at e
  case round =>
    obtain ⟨j, p9, c9, p', c', hj, rfl, rfl, rfl, ho9, hv, hap, hb⟩ := hrel
    have HR := Lib.hid (And.intro ho9 (And.intro hb (And.intro (H4.out.1.next hb) (And.intro (H4.out.2.2.trans (hb.mono H4.out.2.2.size)) (And.intro (H4.out.2.1.next hb) (And.intro hv hap))))))
    clear ho9 hb hv hap
    have hlen : (stepsW K R t j l).length = m := by rw [stepsW_length]; exact H.out.2.1.symm
    have htl := traceW_length K R t j l
    by_cases hlt : j < N
    · obtain ⟨Y, hY⟩ : ∃ Y, F (stepsW K R t j l) 0 = Y := ⟨_, rfl⟩
      have hx0 : (stepsW K R t j l)[0]? = some Y := by rw [F_get (by omega), hY]
      obtain ⟨b, off, hpe, hbb, hcc⟩ := HR.out.2.2.2.2.2.1.cell (by rintro e; rw [e] at hlen; simp at hlen; omega)
      have hcx : wr.cell? ⟨b, off, none⟩ = some (.int .i64 Y) := hcc 0 Y hx0
      have hmc : m ≤ c' := by have := HR.out.2.2.2.2.2.1.le; omega
      subst hpe
      have hdA : Below wr.heap.size wr (wr.alloc (.cells #[.int .i64 Y] 3)) := (Below.refl _ _).alloc (Nat.le_refl _) _
      have hblk : (wr.alloc (.cells #[.int .i64 Y] 3)).heap[wr.heap.size]? = some (.cells #[.int .i64 Y] 3 (0, 0)) := heap_newN wr _
      have hoA : IntO w4.heap.size (wr.alloc (.cells #[.int .i64 Y] 3)) p9 c9 (traceW K R t j l) := HR.out.1.next hdA
      have hsA : w4.heap.size ≤ (wr.alloc (.cells #[.int .i64 Y] 3)).heap.size := Nat.le_trans HR.out.2.1.size hdA.size
      have hnx : traceW K R t j l ++ [Y] = traceW K R t (j + 1) l := by rw [traceW_succ, hY]
      have hbA := HR.out.2.1.trans (hdA.mono HR.out.2.1.size)
      have hvA := HR.out.2.2.2.2.2.1.next hdA
      have hok := stepsW_ok H.out.2.2.2.2.1 j l H.out.2.2.2.2.2.1 H.out.2.2.2.2.2.2.2.1
      have HT := Lib.hid (And.intro hoA (And.intro hsA (And.intro hblk (And.intro hnx (And.intro hbA (And.intro htl (And.intro (show (traceW K R t j l).length ≤ 1000000 by omega) (And.intro hvA (And.intro hlen hok)))))))))
      clear hY hx0 hbb hcc hdA hblk hoA hsA hnx hbA hvA hok hlen htl
      go_upto_region 10 with (at_builtin; refine wpList_pushA (by rfl) _ _ (by rfl) w4.heap.size p9 j c9 (traceW K R t j l) (by rfl) HT.out.2.2.2.2.2.1.symm HT.out.1 HT.out.2.1 wr.heap.size Y (by rfl) HT.out.2.2.1 HT.out.2.2.2.2.2.2.1 ?_; intro p8 c8 w8 ho8 hb8 hg8 hw8; have HP := Lib.hid (And.intro ho8 (And.intro (HT.out.2.2.2.2.1.trans hb8) (And.intro ((HT.out.2.2.2.2.2.2.2.1.grownO hg8 HR.out.2.2.2.2.2.2).mono hg8.size) (And.intro (show w8.heap.size ≥ wr.heap.size + 1 by have := hg8.size; simp at this; omega) hw8)))); clear ho8 hb8 hg8 hw8)
      obtain ⟨_, hc0, hc1, hc2⟩ := (H4.out.1.next HP.out.2.1).facts
      have HB8 := Lib.hid (H4.out.2.2.trans (HP.out.2.1.mono H4.out.2.2.size))
      clear hcx
      go_wp2_with fail
      refine (gimage_ref K R p (some ⟨b, off, none⟩) n c m c' t (stepsW K R t j l) w8 H.out.1 HT.out.2.2.2.2.2.2.2.2.1.symm (H.out.2.2.1.next HB8.out) HP.out.2.2.1 H.out.2.2.2.2.1 hm0 hm4 HT.out.2.2.2.2.2.2.2.2.2).mono ?_
      rintro e w6 ⟨p6, c6, rfl, ho6, hb6⟩
      rw [ringW_length, HT.out.2.2.2.2.2.2.2.2.1]
      rw [← stepsW_succ] at ho6
      have hown8 : IntO w4.heap.size w8 p8 c8 (traceW K R t (j + 1) l) := by rw [← HT.out.2.2.2.1]; exact HP.out.1
      have hap6 : ∀ b off, p6 = some ⟨b, off, none⟩ → some b ≠ (Value.slice p8 (j + 1) c8).ownBlock := ho6.notOwn _ (fun z hz => by
        have h1 := traceW_length K R t (j + 1) l
        have h2 := (hown8.lt z (by rw [← hz]; cases p8 <;> rfl)).2
        exact h2)
      have H6 := Lib.hid (And.intro (hown8.next hb6) (And.intro ho6.toV (And.intro hap6 (HP.out.2.1.trans (hb6.mono HP.out.2.1.size)))))
      clear ho6 hb6 hc0 hc1 hc2 hown8 hap6
      go_wp2_with fail
      go_roundw
      case rel => exact ⟨j + 1, p8, c8, p6, c6, by omega, by go_num, rfl, rfl, H6.out.1, H6.out.2.1, H6.out.2.2.1, H6.out.2.2.2⟩
      case measure => simp [intOf]; omega
    · obtain rfl : j = N := by omega
      have HL := Lib.hid htl
      obtain ⟨⟨hf0, hf1, hf2⟩, hc0, hc1, hc2⟩ := HR.out.2.2.2.2.1.facts
      clear hlen htl
      go_wp2_with fail
      refine bodyPost_ret (v := .tuple #[.slice p9 j c9, noErr]) (by simp [results, Tryd.results17, go_sem, hc0, hc1, hc2, noErr]) rfl ⟨p9, c9, by rw [HL.out]; rfl, ?_, put3_below HR.out.2.2.2.1 (Nat.le_succ _) _ _ _⟩
      exact IntO.base (by have := H4.out.2.2.size; omega) (ownsRow_setCell_below (ownsRow_setCell_below (ownsRow_setCell_below HR.out.1 (a := ⟨w.heap.size + 1, 0, none⟩) hlt4 _) (a := ⟨w.heap.size + 1, 1, none⟩) hlt4 _) (a := ⟨w.heap.size + 1, 2, none⟩) hlt4 _)
set_option maxRecDepth 100000 in
set_option maxHeartbeats 8000000 in
theorem gtrace_ref_bad (k r z : Int) (p q : Option Addr) (n c m d : Nat) (t l : List Int) (w : World) (hn : n = t.length) (hm : m = l.length) (h : IntV w.heap.size w p c t) (h' : IntV w.heap.size w q d l) (L : List (ByteArray × Int)) (M : Nat) (hz1 : -9223372036854775808 ≤ z) (hz2 : z ≤ 9223372036854775807) (hc : chkA k r t l z = some (L, M)) :
    Calls Tryd.prog 17 #[.agg #[.int .i64 k, .int .i64 r, .slice p n c], .slice q m d, .int .i64 z] w (GUnd w M L) := by
  have ST := Lib.hid (two_boxesG w (.int .i64 k) (.int .i64 r) (.slice p n c) (.int .i64 0) (.slice none 0 0) (.slice none 0 0))
  have hM0 : (M : Int) ≠ 0 := by have := chkA_num _ hc; simp only at this; omega
  have H := Lib.hid (And.intro hn (And.intro hm (And.intro h (And.intro h' (And.intro hc (And.intro hz1 hz2))))))
  clear hn hm h h' hc
  go_enter Tryd.func17, Tryd.ntmps17
  go_upto_region 1 with fail
  obtain ⟨w0, hw0⟩ : ∃ w0, w0 = (w.alloc (.cells #[.int .i64 k, .int .i64 r, .slice p n c] 24)).alloc (.cells #[.int .i64 0, .slice none 0 0, .slice none 0 0] 34) := ⟨_, rfl⟩
  rw [← hw0]
  obtain ⟨hb0, hR0, hE0⟩ := ST.out w0 hw0
  have hszb : (w.alloc (.cells #[.int .i64 k, .int .i64 r, .slice p n c] 24)).heap.size = w.heap.size + 1 := by simp
  obtain ⟨_, hr0, hr1, hr2⟩ := hR0.facts
  have HE := Lib.hid (And.intro hR0 (And.intro hE0 hb0))
  clear hw0 hR0 hE0 hb0
  go_wp2_with fail
  refine (gsteps_ref_bad k r z p q n c m d t l w0 H.out.1 H.out.2.1 (H.out.2.2.1.next HE.out.2.2) (H.out.2.2.2.1.next HE.out.2.2) L M H.out.2.2.2.2.2.1 H.out.2.2.2.2.2.2 H.out.2.2.2.2.1).mono ?_
  rintro e w1 ⟨go, ga, co, ca, rfl, hgo, hga, hw1, hb1⟩
  obtain ⟨nL, hnL⟩ : ∃ x, L.length = x := ⟨_, rfl⟩
  rw [hnL]
  clear hr0 hr1 hr2
  go_upto_region 2 with fail
  obtain ⟨w3, hw3⟩ : ∃ x, x = w1.alloc (.cells #[.int .i64 (M : Int), .slice (some ⟨go, 0, none⟩) nL co, .slice (some ⟨ga, 0, none⟩) nL ca] 34) := ⟨_, rfl⟩
  obtain ⟨hb3, hE3⟩ := box_err w1 _ _ _ w3 hw3
  rw [← hw3]
  have h03 := hb1.trans (hb3.mono hb1.size)
  have hlt0 := heap_ltN HE.out.2.1.heap
  have hs1 := hb1.size
  have H3 := Lib.hid (And.intro (HE.out.2.1.next h03) (And.intro (HE.out.2.2.trans (h03.mono HE.out.2.2.size)) (And.intro (hw1.below hb3) (And.intro hE3 hnL))))
  obtain ⟨_, hk0, hk1, hk2⟩ := hE3.facts
  have HG := Lib.hid (show go ≠ w.heap.size + 1 ∧ ga ≠ w.heap.size + 1 ∧ w.heap.size ≤ go ∧ w.heap.size ≤ ga by omega)
  have hne : w1.heap.size ≠ w.heap.size + 1 := by omega
  clear hb1 hw3 hb3 hE3 h03 hgo hga hw1 hnL hlt0 hs1
  go_wp2_with fail
  refine (badG_yes (M : Int) hM0 (.slice (some ⟨go, 0, none⟩) nL co) (.slice (some ⟨ga, 0, none⟩) nL ca) w3).mono ?_
  rintro e w4 ⟨rfl, hb4⟩
  obtain ⟨⟨hf0, hf1, hf2⟩, hc0, hc1, hc2⟩ := (H3.out.1.next hb4).facts
  have H4 := Lib.hid (And.intro (H3.out.2.1.trans (hb4.mono H3.out.2.1.size)) (H3.out.2.2.1.below hb4))
  clear hk0 hk1 hk2
  obtain ⟨_, hk0, hk1, hk2⟩ := (H3.out.2.2.2.1.next hb4).facts
  clear hb4
  go_wp2_with fail
  go_region
  go_wp2_with fail
  refine bodyPost_ret (v := .tuple #[.slice none 0 0, .agg #[.int .i64 (M : Int), .slice (some ⟨go, 0, none⟩) nL co, .slice (some ⟨ga, 0, none⟩) nL ca]]) (by simp [results, Tryd.results17, go_sem, hc0, hc1, hc2]) rfl ⟨go, ga, co, ca, by rw [H3.out.2.2.2.2], ?_, ?_⟩
  · exact (wantV_put3g H4.out.2 HG.out.1 HG.out.2.1 _ _ _).below (Below.refl _ _).drew
  · exact (put3_below H4.out.1 (Nat.le_succ _) _ _ _).drew
end Go.Proofs.YtgdjnohhofbcnaaDoor
