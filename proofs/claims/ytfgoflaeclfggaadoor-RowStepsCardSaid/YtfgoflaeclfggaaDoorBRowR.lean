/- The document's own package of rows by its contracts: Check. -/
import Derived.Test.YtfgoflaeclfggaaDoorB4
import Derived.Test.YtfgoflaeclfggaaDoorBErrBox
import Derived.Test.YtfgoflaeclfggaaDoorBAppI
namespace Go.Proofs.YtfgoflaeclfggaaDoor
open Go.RowKit Go.Extern.Stop Go.Stop Go.Extern WordM RuleM NatM
attribute [local go_sem ↓] Go.wp_at_zero Go.wp_at_succ

theorem row_err (w : World) (a b c d : Value) (w0 : World) (hw0 : w0 = (w.alloc (.cells #[a, b, c, d] 24)).alloc (.cells #[.int .i64 0, .slice none 0 0, .slice none 0 0] 33)) :
    Below w.heap.size w w0 ∧ Row4 w0 w.heap.size a b c d ∧ Err3 w0 (w.heap.size + 1) (.int .i64 0) (.slice none 0 0) (.slice none 0 0) := by
  obtain ⟨h1, h2⟩ := box_row w a b c d _ rfl
  obtain ⟨h3, h4⟩ := box_err (w.alloc (.cells #[a, b, c, d] 24)) (.int .i64 0) (.slice none 0 0) (.slice none 0 0) w0 hw0
  have hs : (w.alloc (.cells #[a, b, c, d] 24)).heap.size = w.heap.size + 1 := by simp
  rw [hs] at h4
  exact ⟨h1.trans (h3.mono h1.size), h2.next h3, h4⟩
theorem step_appI {ops : Array Oper} {o : Oper} {a : Act} {K : Act → World → Prop} {Q : Exit → Act → World → Prop} {E : Prop} {w : World} (hgd : o.guard = none) (s x : Operand)
    (ho : o.op = .call { callee := .builtin .append, args := #[s, x], argTypes := #[22, 22] }) (base : Nat) (p : Option Addr) (n c : Nat) (l : List Int) (hs : a.eval s = .slice p n c) (hn : n = l.length) (h : IntO base w p c l) (hB : base ≤ w.heap.size)
    (q : Option Addr) (m d : Nat) (k : List Int) (hx : a.eval x = .slice q m d) (hm : m = k.length) (h' : IntV w.heap.size w q d k) (hl : l.length ≤ 1000000) (hk : k.length ≤ 1000000) (N : Nat) (hN : n + m = N)
    (hK : ∀ p' c' w', IntO base w' p' c' (l ++ k) → Below base w w' → K (a.put o.dst (.slice p' N c')) w') :
    if Region.wanted o (yielded ops a.tmps) = true then Oper.wp Tryd.prog o a w K Q else E := by
  have hw : Region.wanted o (yielded ops a.tmps) = true := by simp [Region.wanted, hgd]
  rw [if_pos hw]
  subst hN
  exact wp_appI s x ho base p n c l hs hn h hB q m d k hx hm h' hl hk hK
set_option maxRecDepth 100000 in
set_option maxHeartbeats 8000000 in
theorem rchk_ref_len0 (k a : Int) (p q s : Option Addr) (c m d u e : Nat) (w : World) (k1 : ¬ k < 1) (k4 : ¬ 4 < k) (a1 : ¬ a < -4096) (a2 : ¬ 4096 < a)  :
    Calls Tryd.prog 17 #[.int .i64 k, .agg #[.int .i64 a, .slice p 0 c, .slice q m d, .slice s u e]] w (UnderPost w 3 [(rowOp, 2)]) := by
  go_enter Tryd.func17, Tryd.ntmps17
  go_upto_region 1 with fail
  obtain ⟨w0, hw0⟩ : ∃ w0, w0 = (w.alloc (.cells #[.int .i64 a, .slice p 0 c, .slice q m d, .slice s u e] 24)).alloc (.cells #[.int .i64 0, .slice none 0 0, .slice none 0 0] 33) := ⟨_, rfl⟩
  rw [← hw0]
  obtain ⟨hb0, hE0, hF0⟩ := row_err w _ _ _ _ w0 hw0
  have HE := Lib.hid (And.intro hE0 (And.intro hF0 hb0))
  obtain ⟨hr0, hr1, hr2, hr3⟩ := hE0.facts
  clear hw0 hE0 hF0 hb0
  go_wp2_with fail
  refine (raw_fresh rowOp 2 3 w0).mono ?_
  rintro e' w8 ⟨g, g', rfl, hg, hcg, hcg', hb8⟩
  obtain ⟨⟨hf0, hf1, hf2⟩, hc0, hc1, hc2⟩ := (HE.out.2.1.next hb8).facts
  have HB := Lib.hid (fun x1 y1 z1 => UnderPost.laid (op := rowOp) (pl := 2) (a := 3) HE.out.2.2 (Nat.le_succ _) HE.out.2.1.lt hg hcg hcg' hb8 x1 y1 z1)
  clear hb8 hcg hcg' hg hr0 hr1 hr2 hr3
  go_wp2_with fail
  refine bodyPost_ret (v := .agg #[.int .i64 3, .slice (some ⟨g, 0, none⟩) 1 1, .slice (some ⟨g', 0, none⟩) 1 1]) (by simp [results, Tryd.results17, go_sem, hc0, hc1, hc2]) rfl ?_
  exact HB.out _ _ _
set_option maxRecDepth 100000 in
set_option maxHeartbeats 8000000 in
theorem rchk_ref_len1 (k a : Int) (p q s : Option Addr) (n c m d e : Nat) (w : World) (k1 : ¬ k < 1) (k4 : ¬ 4 < k) (a1 : ¬ a < -4096) (a2 : ¬ 4096 < a) (h1 : 0 < n) (hn : n ≤ 17592186043904) :
    Calls Tryd.prog 17 #[.int .i64 k, .agg #[.int .i64 a, .slice p n c, .slice q m d, .slice s 0 e]] w (UnderPost w 3 [(rowOp, 3)]) := by
  have hn0 : ¬ (n : Int) = 0 := by omega
  go_enter Tryd.func17, Tryd.ntmps17
  go_upto_region 1 with fail
  obtain ⟨w0, hw0⟩ : ∃ w0, w0 = (w.alloc (.cells #[.int .i64 a, .slice p n c, .slice q m d, .slice s 0 e] 24)).alloc (.cells #[.int .i64 0, .slice none 0 0, .slice none 0 0] 33) := ⟨_, rfl⟩
  rw [← hw0]
  obtain ⟨hb0, hE0, hF0⟩ := row_err w _ _ _ _ w0 hw0
  have HE := Lib.hid (And.intro hE0 (And.intro hF0 hb0))
  obtain ⟨hr0, hr1, hr2, hr3⟩ := hE0.facts
  clear hw0 hE0 hF0 hb0
  go_wp2_with fail
  refine (raw_fresh rowOp 3 3 w0).mono ?_
  rintro e' w8 ⟨g, g', rfl, hg, hcg, hcg', hb8⟩
  obtain ⟨⟨hf0, hf1, hf2⟩, hc0, hc1, hc2⟩ := (HE.out.2.1.next hb8).facts
  have HB := Lib.hid (fun x1 y1 z1 => UnderPost.laid (op := rowOp) (pl := 3) (a := 3) HE.out.2.2 (Nat.le_succ _) HE.out.2.1.lt hg hcg hcg' hb8 x1 y1 z1)
  clear hb8 hcg hcg' hg hr0 hr1 hr2 hr3
  go_wp2_with fail
  refine bodyPost_ret (v := .agg #[.int .i64 3, .slice (some ⟨g, 0, none⟩) 1 1, .slice (some ⟨g', 0, none⟩) 1 1]) (by simp [results, Tryd.results17, go_sem, hc0, hc1, hc2]) rfl ?_
  exact HB.out _ _ _
set_option maxRecDepth 100000 in
set_option maxHeartbeats 8000000 in
theorem rchk_ref_len2 (k a : Int) (p q s : Option Addr) (n c m d u e : Nat) (w : World) (k1 : ¬ k < 1) (k4 : ¬ 4 < k) (a1 : ¬ a < -4096) (a2 : ¬ 4096 < a) (h2 : 0 < u) (h3 : 8192 < n) (hn : n ≤ 17592186043904) (hu : u ≤ 17592186043904) :
    Calls Tryd.prog 17 #[.int .i64 k, .agg #[.int .i64 a, .slice p n c, .slice q m d, .slice s u e]] w (UnderPost w 4 [(rowOp, 2)]) := by
  have hn0 : ¬ (n : Int) = 0 := by omega
  have hu0 : ¬ (u : Int) = 0 := by omega
  go_enter Tryd.func17, Tryd.ntmps17
  go_upto_region 1 with fail
  obtain ⟨w0, hw0⟩ : ∃ w0, w0 = (w.alloc (.cells #[.int .i64 a, .slice p n c, .slice q m d, .slice s u e] 24)).alloc (.cells #[.int .i64 0, .slice none 0 0, .slice none 0 0] 33) := ⟨_, rfl⟩
  rw [← hw0]
  obtain ⟨hb0, hE0, hF0⟩ := row_err w _ _ _ _ w0 hw0
  have HE := Lib.hid (And.intro hE0 (And.intro hF0 hb0))
  obtain ⟨hr0, hr1, hr2, hr3⟩ := hE0.facts
  clear hw0 hE0 hF0 hb0
  go_wp2_with fail
  refine (raw_fresh rowOp 2 4 w0).mono ?_
  rintro e' w8 ⟨g, g', rfl, hg, hcg, hcg', hb8⟩
  obtain ⟨⟨hf0, hf1, hf2⟩, hc0, hc1, hc2⟩ := (HE.out.2.1.next hb8).facts
  have HB := Lib.hid (fun x1 y1 z1 => UnderPost.laid (op := rowOp) (pl := 2) (a := 4) HE.out.2.2 (Nat.le_succ _) HE.out.2.1.lt hg hcg hcg' hb8 x1 y1 z1)
  clear hb8 hcg hcg' hg hr0 hr1 hr2 hr3
  go_wp2_with fail
  refine bodyPost_ret (v := .agg #[.int .i64 4, .slice (some ⟨g, 0, none⟩) 1 1, .slice (some ⟨g', 0, none⟩) 1 1]) (by simp [results, Tryd.results17, go_sem, hc0, hc1, hc2]) rfl ?_
  exact HB.out _ _ _
set_option maxRecDepth 100000 in
set_option maxHeartbeats 8000000 in
theorem rchk_ref_len3 (k a : Int) (p q s : Option Addr) (n c m d u e : Nat) (w : World) (k1 : ¬ k < 1) (k4 : ¬ 4 < k) (a1 : ¬ a < -4096) (a2 : ¬ 4096 < a) (h1 : 0 < n) (h3 : n ≤ 8192) (h4 : 8192 < u) (hu : u ≤ 17592186043904) :
    Calls Tryd.prog 17 #[.int .i64 k, .agg #[.int .i64 a, .slice p n c, .slice q m d, .slice s u e]] w (UnderPost w 4 [(rowOp, 3)]) := by
  have hn0 : ¬ (n : Int) = 0 := by omega
  have hu0 : ¬ (u : Int) = 0 := by omega
  go_enter Tryd.func17, Tryd.ntmps17
  go_upto_region 1 with fail
  obtain ⟨w0, hw0⟩ : ∃ w0, w0 = (w.alloc (.cells #[.int .i64 a, .slice p n c, .slice q m d, .slice s u e] 24)).alloc (.cells #[.int .i64 0, .slice none 0 0, .slice none 0 0] 33) := ⟨_, rfl⟩
  rw [← hw0]
  obtain ⟨hb0, hE0, hF0⟩ := row_err w _ _ _ _ w0 hw0
  have HE := Lib.hid (And.intro hE0 (And.intro hF0 hb0))
  obtain ⟨hr0, hr1, hr2, hr3⟩ := hE0.facts
  clear hw0 hE0 hF0 hb0
  go_wp2_with fail
  refine (raw_fresh rowOp 3 4 w0).mono ?_
  rintro e' w8 ⟨g, g', rfl, hg, hcg, hcg', hb8⟩
  obtain ⟨⟨hf0, hf1, hf2⟩, hc0, hc1, hc2⟩ := (HE.out.2.1.next hb8).facts
  have HB := Lib.hid (fun x1 y1 z1 => UnderPost.laid (op := rowOp) (pl := 3) (a := 4) HE.out.2.2 (Nat.le_succ _) HE.out.2.1.lt hg hcg hcg' hb8 x1 y1 z1)
  clear hb8 hcg hcg' hg hr0 hr1 hr2 hr3
  go_wp2_with fail
  refine bodyPost_ret (v := .agg #[.int .i64 4, .slice (some ⟨g, 0, none⟩) 1 1, .slice (some ⟨g', 0, none⟩) 1 1]) (by simp [results, Tryd.results17, go_sem, hc0, hc1, hc2]) rfl ?_
  exact HB.out _ _ _
set_option maxRecDepth 100000 in
set_option maxHeartbeats 8000000 in
theorem rchk_ref_len4 (k a : Int) (p q s : Option Addr) (n c m d u e : Nat) (w : World) (k1 : ¬ k < 1) (k4 : ¬ 4 < k) (a1 : ¬ a < -4096) (a2 : ¬ 4096 < a) (h1 : 0 < n) (h2 : 0 < u) (h3 : n ≤ 8192) (h4 : u ≤ 8192) (h5 : 16384 < m) (hm : m ≤ 17592186043904) :
    Calls Tryd.prog 17 #[.int .i64 k, .agg #[.int .i64 a, .slice p n c, .slice q m d, .slice s u e]] w (UnderPost w 4 [(rowOp, 4)]) := by
  have hn0 : ¬ (n : Int) = 0 := by omega
  have hu0 : ¬ (u : Int) = 0 := by omega
  go_enter Tryd.func17, Tryd.ntmps17
  go_upto_region 1 with fail
  obtain ⟨w0, hw0⟩ : ∃ w0, w0 = (w.alloc (.cells #[.int .i64 a, .slice p n c, .slice q m d, .slice s u e] 24)).alloc (.cells #[.int .i64 0, .slice none 0 0, .slice none 0 0] 33) := ⟨_, rfl⟩
  rw [← hw0]
  obtain ⟨hb0, hE0, hF0⟩ := row_err w _ _ _ _ w0 hw0
  have HE := Lib.hid (And.intro hE0 (And.intro hF0 hb0))
  obtain ⟨hr0, hr1, hr2, hr3⟩ := hE0.facts
  clear hw0 hE0 hF0 hb0
  go_wp2_with fail
  refine (raw_fresh rowOp 4 4 w0).mono ?_
  rintro e' w8 ⟨g, g', rfl, hg, hcg, hcg', hb8⟩
  obtain ⟨⟨hf0, hf1, hf2⟩, hc0, hc1, hc2⟩ := (HE.out.2.1.next hb8).facts
  have HB := Lib.hid (fun x1 y1 z1 => UnderPost.laid (op := rowOp) (pl := 4) (a := 4) HE.out.2.2 (Nat.le_succ _) HE.out.2.1.lt hg hcg hcg' hb8 x1 y1 z1)
  clear hb8 hcg hcg' hg hr0 hr1 hr2 hr3
  go_wp2_with fail
  refine bodyPost_ret (v := .agg #[.int .i64 4, .slice (some ⟨g, 0, none⟩) 1 1, .slice (some ⟨g', 0, none⟩) 1 1]) (by simp [results, Tryd.results17, go_sem, hc0, hc1, hc2]) rfl ?_
  exact HB.out _ _ _
set_option maxRecDepth 100000 in
set_option maxHeartbeats 8000000 in
theorem rchk_ref_bad (k a : Int) (p q s : Option Addr) (n c m d u e : Nat) (L C R : List Int) (w : World) (h : RowV w p q s n c m d u e L C R) (hn : n ≤ 17592186043904) (hm : m ≤ 17592186043904) (hu : u ≤ 17592186043904) (i j : Nat) (hc : chkRw k a L C R = some (i, j)) :
    Calls Tryd.prog 17 #[.int .i64 k, .agg #[.int .i64 a, .slice p n c, .slice q m d, .slice s u e]] w (UnderPost w j [(rowOp, (i : Int))]) := by
  by_cases hk : k < 1 ∨ 4 < k
  · unfold chkRw at hc
    rw [if_pos hk] at hc
    obtain ⟨rfl, rfl⟩ := Prod.mk.inj (Option.some.inj hc)
    clear h hn hm hu hc
    rcases (by omega : k < 1 ∨ (¬ k < 1 ∧ 4 < k)) with h1 | ⟨h1, h2⟩
    all_goals
      clear hk
      go_enter Tryd.func17, Tryd.ntmps17
      go_upto_region 1 with fail
      obtain ⟨w0, hw0⟩ : ∃ w0, w0 = (w.alloc (.cells #[.int .i64 a, .slice p n c, .slice q m d, .slice s u e] 24)).alloc (.cells #[.int .i64 0, .slice none 0 0, .slice none 0 0] 33) := ⟨_, rfl⟩
      rw [← hw0]
      obtain ⟨hb0, hE0, hF0⟩ := row_err w _ _ _ _ w0 hw0
      have HE := Lib.hid (And.intro hE0 (And.intro hF0 hb0))
      obtain ⟨hr0, hr1, hr2, hr3⟩ := hE0.facts
      clear hw0 hE0 hF0 hb0
      go_wp2_with fail
      refine (raw_fresh rowOp 0 3 w0).mono ?_
      rintro e' w8 ⟨g, g', rfl, hg, hcg, hcg', hb8⟩
      obtain ⟨⟨hf0, hf1, hf2⟩, hc0, hc1, hc2⟩ := (HE.out.2.1.next hb8).facts
      have HB := Lib.hid (fun x1 y1 z1 => UnderPost.laid (op := rowOp) (pl := 0) (a := 3) HE.out.2.2 (Nat.le_succ _) HE.out.2.1.lt hg hcg hcg' hb8 x1 y1 z1)
      clear hb8 hcg hcg' hg hr0 hr1 hr2 hr3
      go_wp2_with fail
      refine bodyPost_ret (v := .agg #[.int .i64 3, .slice (some ⟨g, 0, none⟩) 1 1, .slice (some ⟨g', 0, none⟩) 1 1]) (by simp [results, Tryd.results17, go_sem, hc0, hc1, hc2]) rfl ?_
      exact HB.out _ _ _
  have k1 : ¬ k < 1 := by omega
  have k4 : ¬ 4 < k := by omega
  by_cases ha : a < -4096 ∨ 4096 < a
  · unfold chkRw at hc
    rw [if_neg hk, if_pos ha] at hc
    obtain ⟨rfl, rfl⟩ := Prod.mk.inj (Option.some.inj hc)
    clear h hn hm hu hc hk
    rcases (by omega : a < -4096 ∨ (¬ a < -4096 ∧ 4096 < a)) with ha1 | ⟨ha1, ha2⟩
    all_goals
      clear ha
      go_enter Tryd.func17, Tryd.ntmps17
      go_upto_region 1 with fail
      obtain ⟨w0, hw0⟩ : ∃ w0, w0 = (w.alloc (.cells #[.int .i64 a, .slice p n c, .slice q m d, .slice s u e] 24)).alloc (.cells #[.int .i64 0, .slice none 0 0, .slice none 0 0] 33) := ⟨_, rfl⟩
      rw [← hw0]
      obtain ⟨hb0, hE0, hF0⟩ := row_err w _ _ _ _ w0 hw0
      have HE := Lib.hid (And.intro hE0 (And.intro hF0 hb0))
      obtain ⟨hr0, hr1, hr2, hr3⟩ := hE0.facts
      clear hw0 hE0 hF0 hb0
      go_wp2_with fail
      refine (raw_fresh rowOp 1 3 w0).mono ?_
      rintro e' w8 ⟨g, g', rfl, hg, hcg, hcg', hb8⟩
      obtain ⟨⟨hf0, hf1, hf2⟩, hc0, hc1, hc2⟩ := (HE.out.2.1.next hb8).facts
      have HB := Lib.hid (fun x1 y1 z1 => UnderPost.laid (op := rowOp) (pl := 1) (a := 3) HE.out.2.2 (Nat.le_succ _) HE.out.2.1.lt hg hcg hcg' hb8 x1 y1 z1)
      clear hb8 hcg hcg' hg hr0 hr1 hr2 hr3
      go_wp2_with fail
      refine bodyPost_ret (v := .agg #[.int .i64 3, .slice (some ⟨g, 0, none⟩) 1 1, .slice (some ⟨g', 0, none⟩) 1 1]) (by simp [results, Tryd.results17, go_sem, hc0, hc1, hc2]) rfl ?_
      exact HB.out _ _ _
  have a1 : ¬ a < -4096 := by omega
  have a2 : ¬ 4096 < a := by omega
  rw [chkRw_len hk ha] at hc
  cases hl : chkLn L.length C.length R.length with
  | some y =>
    rw [hl] at hc
    obtain rfl := Option.some.inj hc
    rw [← h.hn, ← h.hm, ← h.hu] at hl
    unfold chkLn at hl
    split at hl
    · obtain ⟨rfl, rfl⟩ := Prod.mk.inj (Option.some.inj hl)
      rename_i h1
      subst h1
      exact rchk_ref_len0 k a p q s c m d u e w k1 k4 a1 a2
    split at hl
    · obtain ⟨rfl, rfl⟩ := Prod.mk.inj (Option.some.inj hl)
      rename_i h1 h2
      subst h2
      exact rchk_ref_len1 k a p q s n c m d e w k1 k4 a1 a2 (by omega) hn
    split at hl
    · obtain ⟨rfl, rfl⟩ := Prod.mk.inj (Option.some.inj hl)
      rename_i h1 h2 h3
      exact rchk_ref_len2 k a p q s n c m d u e w k1 k4 a1 a2 (by omega) h3 hn hu
    split at hl
    · obtain ⟨rfl, rfl⟩ := Prod.mk.inj (Option.some.inj hl)
      rename_i h1 h2 h3 h4
      exact rchk_ref_len3 k a p q s n c m d u e w k1 k4 a1 a2 (by omega) (by omega) h4 hu
    split at hl
    · obtain ⟨rfl, rfl⟩ := Prod.mk.inj (Option.some.inj hl)
      rename_i h1 h2 h3 h4 h5
      exact rchk_ref_len4 k a p q s n c m d u e w k1 k4 a1 a2 (by omega) (by omega) (by omega) (by omega) h5 hm
    · cases hl
  | none =>
    rw [hl] at hc
    obtain ⟨z, hz, he⟩ := Option.map_eq_some_iff.1 hc
    obtain ⟨rfl, rfl⟩ := Prod.mk.inj he
    rw [← h.hn, ← h.hm, ← h.hu] at hl
    obtain ⟨l1, l2, l3, l4, l5⟩ := chkLn_none hl
    have hbn := badN_bad hz
    have hn0 : ¬ (n : Int) = 0 := by omega
    have hu0 : ¬ (u : Int) = 0 := by omega
    obtain ⟨N1, hN1⟩ : ∃ N1, n + m = N1 := ⟨_, rfl⟩
    obtain ⟨N2, hN2⟩ : ∃ N2, N1 + u = N2 := ⟨_, rfl⟩
    have hcp : ∀ W, IntV W.heap.size W p c L → Calls Tryd.prog 22 #[.slice p n c] W fun e' w' => ∃ pa ca, e' = .returned (.slice pa n ca) ∧ IntO W.heap.size w' pa ca L ∧ Below W.heap.size W w' := fun W hW =>
      (copyI_any p n c L W h.hn hW (by have := h.hn; omega)).mono fun e' w' ⟨pa, ca, he, ho, hb⟩ => ⟨pa, ca, by rw [he, ← h.hn], ho, hb⟩
    have hbr : ∀ (W : World) (x : Option Addr) (cz : Nat), IntV W.heap.size W x cz (L ++ C ++ R) → Calls Tryd.prog 45 #[.int .i64 k, .slice x N2 cz] W fun e' w' => e' = .returned (.int .i64 (z : Int)) ∧ W = w' := fun W x cz hx => by
      have := bad_ref k x N2 cz (L ++ C ++ R) W (by rw [List.length_append, List.length_append, ← h.hn, ← h.hm, ← h.hu, hN1, hN2]) hx
      rwa [hbn] at this
    have HC := Lib.hid (And.intro hcp hbr)
    have H := Lib.hid (And.intro h (And.intro hN1 hN2))
    clear h hcp hbr hbn hN1 hN2 hc hl hz he hk ha hn hm hu
    go_enter Tryd.func17, Tryd.ntmps17
    go_upto_region 1 with fail
    obtain ⟨w0, hw0⟩ : ∃ w0, w0 = (w.alloc (.cells #[.int .i64 a, .slice p n c, .slice q m d, .slice s u e] 24)).alloc (.cells #[.int .i64 0, .slice none 0 0, .slice none 0 0] 33) := ⟨_, rfl⟩
    rw [← hw0]
    obtain ⟨hb0, hE0, hF0⟩ := row_err w _ _ _ _ w0 hw0
    have HE := Lib.hid (And.intro hE0 (And.intro hF0 hb0))
    obtain ⟨hr0, hr1, hr2, hr3⟩ := hE0.facts
    clear hw0 hE0 hF0 hb0
    go_upto_region 15 with fail
    have hxA : ∀ wx : World, Below w0.heap.size w0 wx → wx.cell? ⟨w.heap.size, 0, none⟩ = some (.int .i64 a) ∧ wx.cell? ⟨w.heap.size, 1, none⟩ = some (.slice p n c) ∧ wx.cell? ⟨w.heap.size, 2, none⟩ = some (.slice q m d) ∧ wx.cell? ⟨w.heap.size, 3, none⟩ = some (.slice s u e) := fun wx hb => (HE.out.1.next hb).facts
    have hdr : Below w0.heap.size w0 w0.drew := (Below.refl _ _).drew
    go_region_held3 (fun wx => wx.cell? ⟨w.heap.size, 0, none⟩ = some (.int .i64 a) ∧ wx.cell? ⟨w.heap.size, 1, none⟩ = some (.slice p n c) ∧ wx.cell? ⟨w.heap.size, 2, none⟩ = some (.slice q m d) ∧ wx.cell? ⟨w.heap.size, 3, none⟩ = some (.slice s u e)) (first | exact hxA _ (by assumption) | exact hxA _ (Below.refl _ _) | exact hxA _ hdr | go_keep) (first
      | (go_at_call 22; refine (HC.out.1 _ ((H.out.1.l.next HE.out.2.2).next (by first | exact hdr | exact Below.refl _ _))).mono ?_; rintro e' w1 ⟨p1, c1, rfl, o1, hb1⟩; have hB1 : Below w0.heap.size w0 w1 := (by first | exact hdr.trans (hb1.mono hdr.size) | exact hb1); have q1 : IntO w0.heap.size w1 p1 c1 L := o1)
      | (refine step_appI (by rfl) _ _ (by rfl) w0.heap.size p2 N1 c2 (L ++ C) (by rfl) (by rw [List.length_append, ← H.out.1.hn, ← H.out.1.hm, H.out.2.1]) q2 hB2.size s u e R (by rfl) H.out.1.hu ((H.out.1.r.next HE.out.2.2).next hB2) (by rw [List.length_append, ← H.out.1.hn, ← H.out.1.hm]; omega) (by rw [← H.out.1.hu]; omega) N2 H.out.2.2 ?_; intro p3 c3 w3 q3 hb3; have hB3 : Below w0.heap.size w0 w3 := hB2.trans hb3)
      | (refine step_appI (by rfl) _ _ (by rfl) w0.heap.size p1 n c1 L (by rfl) H.out.1.hn q1 hB1.size q m d C (by rfl) H.out.1.hm ((H.out.1.c.next HE.out.2.2).next hB1) (by rw [← H.out.1.hn]; omega) (by rw [← H.out.1.hm]; omega) N1 H.out.2.1 ?_; intro p2 c2 w2 q2 hb2; have hB2 : Below w0.heap.size w0 w2 := hB1.trans hb2))
    all_goals
      have H3 := Lib.hid (And.intro (HE.out.2.1.next hB3) (And.intro q3.toV (HE.out.2.2.trans (hB3.mono HE.out.2.2.size))))
      clear hxA hdr o1 hb1 hB1 q1 hb2 hB2 q2 hb3 hB3 q3 hr0 hr1 hr2 hr3
      go_wp2_with fail
      refine (HC.out.2 w3 p3 c3 H3.out.2.1).mono ?_
      rintro e' w4 ⟨rfl, rfl⟩
      have hz0 : ¬ (z : Int) < 0 := by omega
      go_wp2_with fail
      refine (raw_fresh rowOp (z : Int) 2 w3).mono ?_
      rintro e' w8 ⟨g, g', rfl, hg, hcg, hcg', hb8⟩
      obtain ⟨⟨hf0, hf1, hf2⟩, hc0, hc1, hc2⟩ := (H3.out.1.next hb8).facts
      have HB := Lib.hid (fun x1 y1 z1 => UnderPost.laid (op := rowOp) (pl := (z : Int)) (a := 2) H3.out.2.2 (Nat.le_succ _) H3.out.1.lt hg hcg hcg' hb8 x1 y1 z1)
      clear hb8 hcg hcg' hg
      go_wp2_with fail
      refine bodyPost_ret (v := .agg #[.int .i64 2, .slice (some ⟨g, 0, none⟩) 1 1, .slice (some ⟨g', 0, none⟩) 1 1]) (by simp [results, Tryd.results17, go_sem, hc0, hc1, hc2]) rfl ?_
      exact HB.out _ _ _
set_option maxRecDepth 100000 in
set_option maxHeartbeats 8000000 in
theorem rchk_ref_ok (k : Nat) (a : Int) (p q s : Option Addr) (n c m d u e : Nat) (L C R : List Int) (w : World) (h : RowV w p q s n c m d u e L C R) (hw : OkRw k a L C R) :
    Calls Tryd.prog 17 #[.int .i64 (k : Int), .agg #[.int .i64 a, .slice p n c, .slice q m d, .slice s u e]] w (Tells (.agg #[.int .i64 0, .slice none 0 0, .slice none 0 0]) w) := by
  have k1 : ¬ (k : Int) < 1 := by have := hw.k1; omega
  have k4 : ¬ 4 < (k : Int) := by have := hw.k4; omega
  have a1 : ¬ a < -4096 := by have := hw.a1; omega
  have a2 : ¬ 4096 < a := by have := hw.a2; omega
  have l1 : 0 < n := by have := hw.l0; have := h.hn; omega
  have l2 : 0 < u := by have := hw.r0; have := h.hu; omega
  have l3 : n ≤ 8192 := by have := hw.l1; have := h.hn; omega
  have l4 : u ≤ 8192 := by have := hw.r1; have := h.hu; omega
  have l5 : m ≤ 16384 := by have := hw.c1; have := h.hm; omega
  have hbn := badN_ok hw.all
  have hn0 : ¬ (n : Int) = 0 := by omega
  have hu0 : ¬ (u : Int) = 0 := by omega
  obtain ⟨N1, hN1⟩ : ∃ N1, n + m = N1 := ⟨_, rfl⟩
  obtain ⟨N2, hN2⟩ : ∃ N2, N1 + u = N2 := ⟨_, rfl⟩
  have hcp : ∀ W, IntV W.heap.size W p c L → Calls Tryd.prog 22 #[.slice p n c] W fun e' w' => ∃ pa ca, e' = .returned (.slice pa n ca) ∧ IntO W.heap.size w' pa ca L ∧ Below W.heap.size W w' := fun W hW =>
    (copyI_any p n c L W h.hn hW (by have := h.hn; omega)).mono fun e' w' ⟨pa, ca, he, ho, hb⟩ => ⟨pa, ca, by rw [he, ← h.hn], ho, hb⟩
  have hbr : ∀ (W : World) (x : Option Addr) (cz : Nat), IntV W.heap.size W x cz (L ++ C ++ R) → Calls Tryd.prog 45 #[.int .i64 (k : Int), .slice x N2 cz] W fun e' w' => e' = .returned (.int .i64 (-1)) ∧ W = w' := fun W x cz hx => by
    have := bad_ref (k : Int) x N2 cz (L ++ C ++ R) W (by rw [List.length_append, List.length_append, ← h.hn, ← h.hm, ← h.hu, hN1, hN2]) hx
    rwa [hbn] at this
  have HC := Lib.hid (And.intro hcp hbr)
  have H := Lib.hid (And.intro h (And.intro hN1 hN2))
  clear h hcp hbr hbn hN1 hN2 hw
  go_enter Tryd.func17, Tryd.ntmps17
  go_upto_region 1 with fail
  obtain ⟨w0, hw0⟩ : ∃ w0, w0 = (w.alloc (.cells #[.int .i64 a, .slice p n c, .slice q m d, .slice s u e] 24)).alloc (.cells #[.int .i64 0, .slice none 0 0, .slice none 0 0] 33) := ⟨_, rfl⟩
  rw [← hw0]
  obtain ⟨hb0, hE0, hF0⟩ := row_err w _ _ _ _ w0 hw0
  have HE := Lib.hid (And.intro hE0 (And.intro hF0 hb0))
  obtain ⟨hr0, hr1, hr2, hr3⟩ := hE0.facts
  clear hw0 hE0 hF0 hb0
  go_upto_region 15 with fail
  have hxA : ∀ wx : World, Below w0.heap.size w0 wx → wx.cell? ⟨w.heap.size, 0, none⟩ = some (.int .i64 a) ∧ wx.cell? ⟨w.heap.size, 1, none⟩ = some (.slice p n c) ∧ wx.cell? ⟨w.heap.size, 2, none⟩ = some (.slice q m d) ∧ wx.cell? ⟨w.heap.size, 3, none⟩ = some (.slice s u e) := fun wx hb => (HE.out.1.next hb).facts
  have hdr : Below w0.heap.size w0 w0.drew := (Below.refl _ _).drew
  go_region_held3 (fun wx => wx.cell? ⟨w.heap.size, 0, none⟩ = some (.int .i64 a) ∧ wx.cell? ⟨w.heap.size, 1, none⟩ = some (.slice p n c) ∧ wx.cell? ⟨w.heap.size, 2, none⟩ = some (.slice q m d) ∧ wx.cell? ⟨w.heap.size, 3, none⟩ = some (.slice s u e)) (first | exact hxA _ (by assumption) | exact hxA _ (Below.refl _ _) | exact hxA _ hdr | go_keep) (first
    | (go_at_call 22; refine (HC.out.1 _ ((H.out.1.l.next HE.out.2.2).next (by first | exact hdr | exact Below.refl _ _))).mono ?_; rintro e' w1 ⟨p1, c1, rfl, o1, hb1⟩; have hB1 : Below w0.heap.size w0 w1 := (by first | exact hdr.trans (hb1.mono hdr.size) | exact hb1); have q1 : IntO w0.heap.size w1 p1 c1 L := o1)
    | (refine step_appI (by rfl) _ _ (by rfl) w0.heap.size p2 N1 c2 (L ++ C) (by rfl) (by rw [List.length_append, ← H.out.1.hn, ← H.out.1.hm, H.out.2.1]) q2 hB2.size s u e R (by rfl) H.out.1.hu ((H.out.1.r.next HE.out.2.2).next hB2) (by rw [List.length_append, ← H.out.1.hn, ← H.out.1.hm]; omega) (by rw [← H.out.1.hu]; omega) N2 H.out.2.2 ?_; intro p3 c3 w3 q3 hb3; have hB3 : Below w0.heap.size w0 w3 := hB2.trans hb3)
    | (refine step_appI (by rfl) _ _ (by rfl) w0.heap.size p1 n c1 L (by rfl) H.out.1.hn q1 hB1.size q m d C (by rfl) H.out.1.hm ((H.out.1.c.next HE.out.2.2).next hB1) (by rw [← H.out.1.hn]; omega) (by rw [← H.out.1.hm]; omega) N1 H.out.2.1 ?_; intro p2 c2 w2 q2 hb2; have hB2 : Below w0.heap.size w0 w2 := hB1.trans hb2))
  all_goals
    have H3 := Lib.hid (And.intro (HE.out.2.1.next hB3) (And.intro q3.toV (HE.out.2.2.trans (hB3.mono HE.out.2.2.size))))
    clear hxA hdr o1 hb1 hB1 q1 hb2 hB2 q2 hb3 hB3 q3 hr0 hr1 hr2 hr3
    go_wp2_with fail
    refine (HC.out.2 w3 p3 c3 H3.out.2.1).mono ?_
    rintro e' w4 ⟨rfl, rfl⟩
    obtain ⟨⟨hf0, hf1, hf2⟩, hc0, hc1, hc2⟩ := H3.out.1.facts
    go_wp2_with fail
    refine bodyPost_ret (v := .agg #[.int .i64 0, .slice none 0 0, .slice none 0 0]) (by simp [results, Tryd.results17, go_sem, hc0, hc1, hc2]) rfl ⟨rfl, ?_⟩
    exact put3_below H3.out.2.2 (Nat.le_succ _) _ _ _
end Go.Proofs.YtfgoflaeclfggaaDoor
