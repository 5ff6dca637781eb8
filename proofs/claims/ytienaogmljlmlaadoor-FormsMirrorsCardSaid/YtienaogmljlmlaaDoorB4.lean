/- Plain mathematics of rules that are made from rules: mirrored, renamed, wider and narrower.
Plain mathematics of rules one behind the other, powers, shifts.
Package forms by its contracts, first part: power, and a table made by a function value.
Package forms by its contracts, second part: the function values.
Plain mathematics of the rounds of forms' function values.
Package forms by its contracts, third part: the function values that read a table.
An error told by one package after another: a chain of Faults over api's error.
Package forms by its contracts, fourth part: check, checkBoth, widen, compose.
Package forms by its contracts, fifth part: widen, compose, repeat, narrow.
Package forms by its contracts, sixth part: repeat.
Package forms by its contracts, seventh part: narrow.
Package forms by its contracts, eighth part: the calls on one rule.
Plain mathematics of permutations of the symbols. -/
import Derived.Test.YtienaogmljlmlaaDoorB3
import Derived.Shelf.Abstract
import Derived.Deep.RegionHeld3
import Derived.Deep.DrawnRows
import Derived.Test.YtienaogmljlmlaaDoorB2
import Derived.Test.YtienaogmljlmlaaDoorB1
import Derived.Deep.RegionWith
section
namespace Go.Proofs.YtienaogmljlmlaaDoor.RuleM
open WordM
/-! ### a table by a function on windows -/
def tabN (S : Nat) (G : Nat → Int) : List Int := (List.range S).map G
theorem tabN_length (S : Nat) (G : Nat → Int) : (tabN S G).length = S := by unfold tabN; simp
theorem tabN_get {S : Nat} {G : Nat → Int} {i : Nat} (h : i < S) : (tabN S G)[i]? = some (G i) := by
  unfold tabN
  rw [List.getElem?_map, List.getElem?_range h]; rfl
theorem tabN_ent {S : Nat} {G : Nat → Int} {i : Nat} (h : i < S) : ent (tabN S G) i = G i := by
  have h1 := ent_get (t := tabN S G) (i := i) (by rw [tabN_length]; exact h)
  rw [tabN_get h] at h1
  exact (Option.some.inj h1).symm
theorem tabN_succ (S : Nat) (G : Nat → Int) : tabN (S + 1) G = tabN S G ++ [G S] := by
  unfold tabN
  rw [List.range_succ, List.map_append]; rfl
theorem tabN_ext {S : Nat} {G H : Nat → Int} (h : ∀ i, i < S → G i = H i) : tabN S G = tabN S H := by
  unfold tabN
  exact List.map_congr_left fun i hi => h i (List.mem_range.1 hi)
theorem tabN_self {S : Nat} {t : List Int} (h : t.length = S) : tabN S (ent t) = t := by
  apply List.ext_getElem?
  intro i
  by_cases hi : i < S
  · rw [tabN_get hi, ent_get (by omega)]
  · rw [List.getElem?_eq_none (by rw [tabN_length]; omega), List.getElem?_eq_none (by omega)]
theorem tabN_ok {S k : Nat} {G : Nat → Int} (h : ∀ i, i < S → 0 ≤ G i ∧ G i < (k : Int)) : okW k (tabN S G) := fun x hx => by
  unfold tabN at hx
  obtain ⟨i, hi, rfl⟩ := List.mem_map.1 hx
  exact h i (List.mem_range.1 hi)
theorem tabN_okR {k r : Nat} {G : Nat → Int} (h1 : 1 ≤ k) (h4 : k ≤ 4) (h3 : r ≤ 3) (h : ∀ i, i < k ^ (2 * r + 1) → 0 ≤ G i ∧ G i < (k : Int)) : OkR k r (tabN (k ^ (2 * r + 1)) G) :=
  ⟨h1, h4, h3, tabN_length _ _, tabN_ok h⟩

/-! ### digits -/
theorem digW_app (k : Nat) : ∀ (m n x : Nat), digW k (n + m) x = digW k n (x / k ^ m) ++ digW k m x
  | 0, n, x => by simp [digW]
  | m + 1, n, x => by
    rw [← Nat.add_assoc]
    show digW k (n + m) (x / k) ++ [((x % k : Nat) : Int)] = digW k n (x / k ^ (m + 1)) ++ (digW k m (x / k) ++ [((x % k : Nat) : Int)])
    rw [digW_app k m n (x / k), Nat.div_div_eq_div_mul, ← List.append_assoc, Nat.pow_succ, Nat.mul_comm k]
theorem digW_mod (k : Nat) : ∀ (n x : Nat), digW k n (x % k ^ n) = digW k n x
  | 0, x => rfl
  | n + 1, x => by
    unfold digW
    rw [Nat.pow_succ, Nat.mod_mul_left_div_self, digW_mod k n (x / k), Nat.mod_mul_left_mod]
theorem digW_valmod {k : Nat} (hk : 1 ≤ k) (n x : Nat) : valW k (digW k n x) = x % k ^ n := by
  rw [← digW_mod, digW_val hk n _ (Nat.mod_lt _ (Nat.pow_pos hk))]
/-- the digits of a word's number -/
theorem digW_of' {k n : Nat} (hk : 1 ≤ k) {X : List Int} (h : okW k X) (hn : X.length = n) : digW k n (valW k X) = X := by subst hn; exact digW_of hk h
/-- a window of digits -/
theorem win_dig {k : Nat} (a n b x : Nat) : win (digW k (a + n + b) x) a n = digW k n (x / k ^ b) := by
  unfold win
  rw [digW_app, digW_app, List.append_assoc, List.drop_append_of_le_length (by rw [digW_length]; exact Nat.le_refl _), List.drop_of_length_le (by rw [digW_length]; exact Nat.le_refl _), List.nil_append, List.take_append_of_le_length (by rw [digW_length]; exact Nat.le_refl _), List.take_of_length_le (by rw [digW_length]; exact Nat.le_refl _)]
theorem win_val {k : Nat} (hk : 1 ≤ k) (a n b x : Nat) : valW k (win (digW k (a + n + b) x) a n) = x / k ^ b % k ^ n := by
  rw [win_dig, digW_valmod hk]

/-! ### an image of one window; a table is told by its images -/
theorem img_one {k r : Nat} {t X : List Int} (h : X.length = 2 * r + 1) : imgW k r t X = [ent t (valW k X)] := by
  unfold imgW
  rw [h, show 2 * r + 1 - 2 * r = 1 by omega]
  show [ent t (valW k (win X 0 (2 * r + 1)))] = _
  rw [← h, win_all]
theorem table_ext {k r : Nat} {t u : List Int} (ht : OkR k r t) (hu : OkR k r u) (h : ∀ X : List Int, okW k X → X.length = 2 * r + 1 → imgW k r t X = imgW k r u X) : t = u := by
  rw [← tabN_self ht.len, ← tabN_self hu.len]
  refine tabN_ext fun i hi => ?_
  have := h (digW k (2 * r + 1) i) (digW_ok ht.k1 _ _) (digW_length _ _ _)
  rw [img_one (digW_length _ _ _), img_one (digW_length _ _ _), digW_val ht.k1 _ _ hi] at this
  exact List.cons.inj this |>.1
theorem img_ext {k r : Nat} {t u w : List Int} (hw : okW k w) (h : ∀ X : List Int, okW k X → X.length = 2 * r + 1 → ent t (valW k X) = ent u (valW k X)) : imgW k r t w = imgW k r u w := by
  unfold imgW
  refine List.map_congr_left fun i hi => ?_
  have := List.mem_range.1 hi
  exact h _ (win_ok hw _ _) (win_length (by omega))

/-! ### the rule of the mirror -/
def mirT (k r : Nat) (t : List Int) : List Int := tabN (k ^ (2 * r + 1)) fun i => ent t (valW k (digW k (2 * r + 1) i).reverse)
theorem rev_lt {k n : Nat} (hk : 1 ≤ k) (i : Nat) : valW k (digW k n i).reverse < k ^ n := by
  have := valW_lt (okW_rev (digW_ok hk n i))
  rwa [List.length_reverse, digW_length] at this
theorem mirT_ok {k r : Nat} {t : List Int} (h : OkR k r t) : OkR k r (mirT k r t) :=
  tabN_okR h.k1 h.k4 h.r3 fun i _ => ent_ok h.ok (by rw [h.len]; exact rev_lt h.k1 i)
theorem mirT_ent {k r : Nat} {t X : List Int} (hk : 1 ≤ k) (ho : okW k X) (hl : X.length = 2 * r + 1) : ent (mirT k r t) (valW k X) = ent t (valW k X.reverse) := by
  have hlt := valW_lt ho
  rw [hl] at hlt
  unfold mirT
  rw [tabN_ent hlt, digW_of' hk ho hl]
theorem win_rev {w : List Int} {i n : Nat} (h : i + n ≤ w.length) : win w.reverse i n = (win w (w.length - n - i) n).reverse := by
  unfold win
  apply List.ext_getElem?
  intro j
  by_cases hj : j < n
  · rw [List.getElem?_take, if_pos hj, List.getElem?_drop, List.getElem?_reverse (by omega), List.getElem?_reverse (by rw [List.length_take, List.length_drop]; omega), List.getElem?_take, List.length_take, List.length_drop, if_pos (by omega), List.getElem?_drop]
    congr 1
    omega
  · rw [List.getElem?_eq_none (by rw [List.length_take, List.length_drop, List.length_reverse]; omega), List.getElem?_eq_none (by rw [List.length_reverse, List.length_take, List.length_drop]; omega)]
theorem img_mir {k r : Nat} {t w : List Int} (h : OkR k r t) (hw : okW k w) : imgW k r (mirT k r t) w.reverse = (imgW k r t w).reverse := by
  apply List.ext_getElem?
  intro i
  by_cases hi : i < w.length - 2 * r
  · rw [imgW_get (by rw [List.length_reverse]; exact hi), List.getElem?_reverse (by rw [imgW_length]; exact hi), imgW_length, imgW_get (by omega), mirT_ent h.k1 (win_ok (okW_rev hw) _ _) (win_length (by rw [List.length_reverse]; omega)), win_rev (by omega), List.reverse_reverse]
    congr 4
  · rw [List.getElem?_eq_none (by rw [imgW_length, List.length_reverse]; omega), List.getElem?_eq_none (by rw [List.length_reverse, imgW_length]; omega)]
theorem mir_mir {k r : Nat} {t : List Int} (h : OkR k r t) : mirT k r (mirT k r t) = t :=
  table_ext (mirT_ok (mirT_ok h)) h fun X hX hl => by
    rw [img_one hl, img_one hl, mirT_ent h.k1 hX hl, mirT_ent h.k1 (okW_rev hX) (by rw [List.length_reverse]; exact hl), List.reverse_reverse]

/-! ### other names -/
/-- p is a permutation of k symbols, q the one back -/
structure PermR (k : Nat) (p q : List Int) : Prop where
  lp : p.length = k
  lq : q.length = k
  op : okW k p
  oq : okW k q
  pq : ∀ x : Nat, x < k → ent p (ent q x).toNat = x
  qp : ∀ x : Nat, x < k → ent q (ent p x).toNat = x
def nmW (p X : List Int) : List Int := X.map fun x => ent p x.toNat
theorem nmW_length (p X : List Int) : (nmW p X).length = X.length := by unfold nmW; simp
theorem nmW_ok {k : Nat} {p X : List Int} (hp : okW k p) (hl : p.length = k) (hX : okW k X) : okW k (nmW p X) := fun y hy => by
  unfold nmW at hy
  obtain ⟨x, hx, rfl⟩ := List.mem_map.1 hy
  have := hX x hx
  exact ent_ok hp (by omega)
theorem nmW_back {k : Nat} {p q X : List Int} (h : PermR k p q) (hX : okW k X) : nmW p (nmW q X) = X := by
  unfold nmW
  rw [List.map_map]
  have : ∀ x ∈ X, ((fun x => ent p x.toNat) ∘ fun x => ent q x.toNat) x = x := fun x hx => by
    have h0 := hX x hx
    show ent p (ent q x.toNat).toNat = x
    have := h.pq x.toNat (by omega)
    rw [this]; omega
  rw [List.map_congr_left this, List.map_id']
theorem PermR.swap {k : Nat} {p q : List Int} (h : PermR k p q) : PermR k q p := ⟨h.lq, h.lp, h.oq, h.op, h.qp, h.pq⟩
def renT (k r : Nat) (t p q : List Int) : List Int := tabN (k ^ (2 * r + 1)) fun i => ent p (ent t (valW k (nmW q (digW k (2 * r + 1) i)))).toNat
theorem nm_lt {k n : Nat} {q : List Int} (hk : 1 ≤ k) (hq : okW k q) (hl : q.length = k) (i : Nat) : valW k (nmW q (digW k n i)) < k ^ n := by
  have := valW_lt (nmW_ok hq hl (digW_ok hk n i))
  rwa [nmW_length, digW_length] at this
theorem renT_ok {k r : Nat} {t p q : List Int} (h : OkR k r t) (hp : PermR k p q) : OkR k r (renT k r t p q) :=
  tabN_okR h.k1 h.k4 h.r3 fun i _ => by
    have := ent_ok h.ok (i := valW k (nmW q (digW k (2 * r + 1) i))) (by rw [h.len]; exact nm_lt h.k1 hp.oq hp.lq i)
    exact ent_ok hp.op (by rw [hp.lp]; omega)
theorem renT_ent {k r : Nat} {t p q X : List Int} (hk : 1 ≤ k) (ho : okW k X) (hl : X.length = 2 * r + 1) : ent (renT k r t p q) (valW k X) = ent p (ent t (valW k (nmW q X))).toNat := by
  have hlt := valW_lt ho
  rw [hl] at hlt
  unfold renT
  rw [tabN_ent hlt, digW_of' hk ho hl]
theorem win_nm (p w : List Int) (i n : Nat) : win (nmW p w) i n = nmW p (win w i n) := by
  unfold win nmW
  rw [List.map_take, List.map_drop]
theorem img_ren {k r : Nat} {t p q w : List Int} (h : OkR k r t) (hp : PermR k p q) (hw : okW k w) : imgW k r (renT k r t p q) (nmW p w) = nmW p (imgW k r t w) := by
  apply List.ext_getElem?
  intro i
  by_cases hi : i < w.length - 2 * r
  · rw [imgW_get (by rw [nmW_length]; exact hi), renT_ent h.k1 (win_ok (nmW_ok hp.op hp.lp hw) _ _) (win_length (by rw [nmW_length]; omega)), win_nm, nmW_back hp.swap (win_ok hw _ _)]
    show _ = (nmW p (imgW k r t w))[i]?
    unfold nmW
    rw [List.getElem?_map, imgW_get hi]; rfl
  · rw [List.getElem?_eq_none (by rw [imgW_length, nmW_length]; omega), List.getElem?_eq_none (by rw [nmW_length, imgW_length]; omega)]
theorem ren_ren {k r : Nat} {t p q : List Int} (h : OkR k r t) (hp : PermR k p q) : renT k r (renT k r t p q) q p = t :=
  table_ext (renT_ok (renT_ok h hp) hp.swap) h fun X hX hl => by
    have hnl : (nmW p X).length = 2 * r + 1 := by rw [nmW_length]; exact hl
    have hno := nmW_ok hp.op hp.lp hX
    have hlt := valW_lt hX
    rw [hl] at hlt
    have he := ent_ok h.ok (i := valW k X) (by rw [h.len]; exact hlt)
    rw [img_one hl, img_one hl, renT_ent h.k1 hX hl, renT_ent h.k1 hno hnl, nmW_back hp.swap hX]
    have := hp.qp (ent t (valW k X)).toNat (by omega)
    rw [this]
    congr 1
    omega

/-! ### wider -/
def widT (k r : Nat) (t : List Int) (R : Nat) : List Int := tabN (k ^ (2 * R + 1)) fun i => ent t (i / k ^ (R - r) % k ^ (2 * r + 1))
theorem widT_ok {k r R : Nat} {t : List Int} (h : OkR k r t) (h3 : R ≤ 3) : OkR k R (widT k r t R) :=
  tabN_okR h.k1 h.k4 h3 fun i _ => ent_ok h.ok (by rw [h.len]; exact Nat.mod_lt _ (Nat.pow_pos h.k1))
theorem widT_ent {k r R : Nat} {t X : List Int} (hk : 1 ≤ k) (hr : r ≤ R) (ho : okW k X) (hl : X.length = 2 * R + 1) : ent (widT k r t R) (valW k X) = ent t (valW k (win X (R - r) (2 * r + 1))) := by
  have hlt := valW_lt ho
  rw [hl] at hlt
  unfold widT
  rw [tabN_ent hlt]
  have := win_val hk (R - r) (2 * r + 1) (R - r) (valW k X)
  rw [show R - r + (2 * r + 1) + (R - r) = 2 * R + 1 by omega, digW_of' hk ho hl] at this
  rw [this]
theorem img_wid {k r R : Nat} {t w : List Int} (h : OkR k r t) (hr : r ≤ R) (hw : okW k w) : imgW k R (widT k r t R) w = win (imgW k r t w) (R - r) (w.length - 2 * R) := by
  apply List.ext_getElem?
  intro i
  by_cases hi : i < w.length - 2 * R
  · rw [imgW_get hi, widT_ent h.k1 hr (win_ok hw _ _) (win_length (by omega))]
    unfold win
    rw [List.getElem?_take, if_pos hi, List.getElem?_drop, imgW_get (by omega)]
    have := win_piece w i (2 * R + 1) (R - r) (2 * r + 1) (by omega)
    unfold win at this ⊢
    rw [this, Nat.add_comm i]
  · rw [List.getElem?_eq_none (by rw [imgW_length]; omega), List.getElem?_eq_none (by unfold win; rw [List.length_take]; omega)]
theorem wid_self {k r : Nat} {t : List Int} (h : OkR k r t) : widT k r t r = t :=
  table_ext (widT_ok h h.r3) h fun X hX hl => by
    rw [img_one hl, img_one hl, widT_ent h.k1 (Nat.le_refl _) hX hl, Nat.sub_self, ← hl, win_all]
theorem wid_wid {k r s R : Nat} {t : List Int} (h : OkR k r t) (hr : r ≤ s) (hs : s ≤ R) (h3 : R ≤ 3) : widT k s (widT k r t s) R = widT k r t R :=
  table_ext (widT_ok (widT_ok h (by omega)) h3) (widT_ok h h3) fun X hX hl => by
    rw [img_one hl, img_one hl, widT_ent h.k1 hs hX hl, widT_ent h.k1 hr (win_ok hX _ _) (win_length (by omega)), widT_ent h.k1 (by omega) hX hl]
    have := win_piece X (R - s) (2 * s + 1) (s - r) (2 * r + 1) (by omega)
    rw [show R - s + (s - r) = R - r by omega] at this
    unfold win at this ⊢
    rw [this]
/-- a word of which X is the middle -/
def midW (X : List Int) (d : Nat) : List Int := List.replicate d 0 ++ X ++ List.replicate d 0
theorem midW_length (X : List Int) (d : Nat) : (midW X d).length = d + X.length + d := by unfold midW; simp; omega
theorem midW_ok {k : Nat} {X : List Int} (hk : 1 ≤ k) (h : okW k X) (d : Nat) : okW k (midW X d) :=
  okW_app (okW_app (okW_rep ⟨by omega, by omega⟩ _) h) (okW_rep ⟨by omega, by omega⟩ _)
theorem midW_win (X : List Int) (d n : Nat) (hn : X.length = n) : win (midW X d) d n = X := by
  subst hn
  unfold win midW
  rw [List.append_assoc, List.drop_append_of_le_length (by simp), List.drop_of_length_le (by simp), List.nil_append, List.take_append_of_le_length (by simp), List.take_of_length_le (by simp)]
theorem wid_inj {k r R : Nat} {t u : List Int} (h : OkR k r t) (g : OkR k r u) (hr : r ≤ R) (e : widT k r t R = widT k r u R) : t = u :=
  table_ext h g fun X hX hl => by
    have h1 := widT_ent (t := t) (R := R) h.k1 hr (midW_ok h.k1 hX (R - r)) (by rw [midW_length]; omega)
    have h2 := widT_ent (t := u) (R := R) h.k1 hr (midW_ok h.k1 hX (R - r)) (by rw [midW_length]; omega)
    rw [midW_win _ _ _ hl] at h1 h2
    rw [img_one hl, img_one hl, ← h1, ← h2, e]

/-! ### the narrow form -/
structure NarR (k r : Nat) (t : List Int) (s : Nat) (u : List Int) : Prop where
  ok : OkR k s u
  le : s ≤ r
  wid : widT k s u r = t
  least : ∀ (s' : Nat) (u' : List Int), s' < s → OkR k s' u' → widT k s' u' r ≠ t
theorem NarR.unique {k r s s' : Nat} {t u u' : List Int} (h : NarR k r t s u) (g : NarR k r t s' u') : s = s' ∧ u = u' := by
  have : s = s' := by
    rcases Nat.lt_trichotomy s s' with h1 | h1 | h1
    · exact absurd h.wid (g.least _ _ h1 h.ok)
    · exact h1
    · exact absurd g.wid (h.least _ _ h1 g.ok)
  subst this
  exact ⟨rfl, wid_inj h.ok g.ok h.le (by rw [h.wid, g.wid])⟩
/-- what is narrow of the wide form is narrow of the rule -/
theorem NarR.of_wid {k r R s : Nat} {t u : List Int} (ht : OkR k r t) (hr : r ≤ R) (h3 : R ≤ 3) (h : NarR k R (widT k r t R) s u) : NarR k r t s u := by
  have hs : s ≤ r := by
    rcases Nat.lt_or_ge r s with h1 | h1
    · exact absurd rfl (h.least r t h1 ht)
    · exact h1
  refine ⟨h.ok, hs, ?_, fun s' u' hs' hu' e => ?_⟩
  · exact wid_inj (widT_ok h.ok ht.r3) ht hr (by rw [wid_wid h.ok hs hr h3, h.wid])
  · refine h.least s' u' hs' hu' ?_
    rw [← wid_wid hu' (by omega) hr h3, e]
theorem NarR.to_wid {k r R s : Nat} {t u : List Int} (ht : OkR k r t) (hr : r ≤ R) (h3 : R ≤ 3) (h : NarR k r t s u) : NarR k R (widT k r t R) s u := by
  refine ⟨h.ok, by have := h.le; omega, ?_, fun s' u' hs' hu' e => ?_⟩
  · rw [← wid_wid h.ok h.le hr h3, h.wid]
  · refine h.least s' u' hs' hu' ?_
    have := h.le
    exact wid_inj (widT_ok hu' ht.r3) ht hr (by rw [wid_wid hu' (by omega) hr h3, e])
theorem NarR.self {k r s : Nat} {t u : List Int} (hr : r ≤ 3) (h : NarR k r t s u) : NarR k s u s u := by
  refine ⟨h.ok, Nat.le_refl _, wid_self h.ok, fun s' u' hs' hu' e => ?_⟩
  refine h.least s' u' hs' hu' ?_
  rw [← wid_wid hu' (by omega) h.le hr, e, h.wid]
/-- the same map: at the greater radius -/
theorem same_iff {k r r' s s' : Nat} {t t' u u' : List Int} (ht : OkR k r t) (ht' : OkR k r' t') (h : NarR k r t s u) (h' : NarR k r' t' s' u') :
    (s = s' ∧ u = u') ↔ widT k r t (max r r') = widT k r' t' (max r r') := by
  have h3 : max r r' ≤ 3 := by have := ht.r3; have := ht'.r3; omega
  have hN := h.to_wid ht (R := max r r') (by omega) h3
  have hN' := h'.to_wid ht' (R := max r r') (by omega) h3
  constructor
  · rintro ⟨rfl, rfl⟩
    rw [← hN.wid, ← hN'.wid]
  · intro e
    rw [← e] at hN'
    exact hN.unique hN'
/-- the inner table of a table: what stands at 0 w 0 -/
def innT (k R : Nat) (t : List Int) : List Int := tabN (k ^ (2 * R + 1)) fun i => ent t (i * k)
theorem innT_ok {k R : Nat} {t : List Int} (h : OkR k (R + 1) t) : OkR k R (innT k R t) :=
  tabN_okR h.k1 h.k4 (by have := h.r3; omega) fun i hi => ent_ok h.ok (by
    rw [h.len, show 2 * (R + 1) + 1 = (2 * R + 1) + 1 + 1 by omega, Nat.pow_succ, Nat.pow_succ]
    have h1 : i * k < k ^ (2 * R + 1) * k := Nat.mul_lt_mul_of_pos_right hi h.k1
    exact Nat.lt_of_lt_of_le h1 (Nat.le_mul_of_pos_right _ h.k1))
theorem inn_wid {k R : Nat} {u : List Int} (h : OkR k R u) : innT k R (widT k R u (R + 1)) = u := by
  rw [← tabN_self h.len]
  unfold innT
  refine tabN_ext fun i hi => ?_
  have hk := h.k1
  have h1 : i * k < k ^ (2 * (R + 1) + 1) := by
    rw [show 2 * (R + 1) + 1 = (2 * R + 1) + 1 + 1 by omega, Nat.pow_succ, Nat.pow_succ]
    exact Nat.lt_of_lt_of_le (Nat.mul_lt_mul_of_pos_right hi hk) (Nat.le_mul_of_pos_right _ hk)
  rw [tabN_self h.len]
  unfold widT
  rw [tabN_ent h1, show R + 1 - R = 1 by omega, Nat.pow_one, Nat.mul_div_cancel _ hk, Nat.mod_eq_of_lt hi]
/-- where the inner table does not tell, nothing narrower does -/
theorem nar_stop {k R : Nat} {t : List Int} (h : OkR k (R + 1) t) (hne : widT k R (innT k R t) (R + 1) ≠ t) : NarR k (R + 1) t (R + 1) t := by
  refine ⟨h, Nat.le_refl _, wid_self h, fun s' u' hs' hu' e => hne ?_⟩
  have h3 := h.r3
  have e2 := wid_wid hu' (s := R) (R := R + 1) (by omega) (by omega) h3
  rw [e] at e2
  have := inn_wid (widT_ok hu' (R := R) (by omega))
  rw [e2] at this
  rw [this, e2]
theorem nar_zero {k : Nat} {t : List Int} (h : OkR k 0 t) : NarR k 0 t 0 t := ⟨h, Nat.le_refl _, wid_self h, fun s' _ hs' => absurd hs' (by omega)⟩
theorem nar_step {k r R s : Nat} {t u v : List Int} (hv : OkR k R v) (hR : R ≤ r) (h3 : r ≤ 3) (hw : widT k R v r = t) (h : NarR k R v s u) : NarR k r t s u := by
  rw [← hw]
  exact h.to_wid hv hR h3
end Go.Proofs.YtienaogmljlmlaaDoor.RuleM
end
section
namespace Go.Proofs.YtienaogmljlmlaaDoor.RuleM
open WordM
/-! ### one behind the other -/
def cmpT (k a b : Nat) (ta tb : List Int) : List Int := tabN (k ^ (2 * (a + b) + 1)) fun i => ent ta (valW k (imgW k b tb (digW k (2 * (a + b) + 1) i)))
theorem cmpT_ok {k a b : Nat} {ta tb : List Int} (ha : OkR k a ta) (hb : OkR k b tb) (h3 : a + b ≤ 3) : OkR k (a + b) (cmpT k a b ta tb) :=
  tabN_okR ha.k1 ha.k4 h3 fun i _ => by
    have h1 := valW_lt (imgW_ok hb (digW_ok hb.k1 (2 * (a + b) + 1) i))
    rw [imgW_length, digW_length, show 2 * (a + b) + 1 - 2 * b = 2 * a + 1 by omega] at h1
    exact ent_ok ha.ok (by rw [ha.len]; exact h1)
theorem cmpT_ent {k a b : Nat} {ta tb X : List Int} (hk : 1 ≤ k) (ho : okW k X) (hl : X.length = 2 * (a + b) + 1) : ent (cmpT k a b ta tb) (valW k X) = ent ta (valW k (imgW k b tb X)) := by
  have hlt := valW_lt ho
  rw [hl] at hlt
  unfold cmpT
  rw [tabN_ent hlt, digW_of' hk ho hl]
theorem win_img {k r : Nat} {t w : List Int} {i n : Nat} (h : i + n + 2 * r ≤ w.length) : win (imgW k r t w) i n = imgW k r t (win w i (n + 2 * r)) := by
  show ((imgW k r t w).drop i).take n = imgW k r t ((w.drop i).take (n + 2 * r))
  rw [img_piece (by omega), Nat.add_sub_cancel]
theorem img_cmp {k a b : Nat} {ta tb w : List Int} (hb : OkR k b tb) (hw : okW k w) : imgW k (a + b) (cmpT k a b ta tb) w = imgW k a ta (imgW k b tb w) := by
  apply List.ext_getElem?
  intro i
  by_cases hi : i < w.length - 2 * (a + b)
  · rw [imgW_get hi, imgW_get (by rw [imgW_length]; omega), cmpT_ent hb.k1 (win_ok hw _ _) (win_length (by omega)), win_img (by omega)]
    rw [show 2 * a + 1 + 2 * b = 2 * (a + b) + 1 by omega]
  · rw [List.getElem?_eq_none (by rw [imgW_length]; omega), List.getElem?_eq_none (by rw [imgW_length, imgW_length]; omega)]
theorem cmp_assoc {k a b c : Nat} {ta tb tc : List Int} (ha : OkR k a ta) (hb : OkR k b tb) (hc : OkR k c tc) (h3 : a + b + c ≤ 3) :
    cmpT k (a + b) c (cmpT k a b ta tb) tc = cmpT k a (b + c) ta (cmpT k b c tb tc) := by
  have h1 := cmpT_ok ha hb (by omega)
  have h2 := cmpT_ok hb hc (by omega)
  have e : a + (b + c) = a + b + c := by omega
  have h3' := cmpT_ok ha h2 (by omega)
  rw [e] at h3'
  refine table_ext (cmpT_ok h1 hc h3) h3' fun X hX hl => ?_
  rw [img_cmp hc hX, img_cmp hb (imgW_ok hc hX), ← e, img_cmp h2 hX, img_cmp hc hX]

/-! ### powers -/
def idT (k : Nat) : List Int := tabN k fun i => (i : Int)
theorem idT_ok {k : Nat} (h1 : 1 ≤ k) (h4 : k ≤ 4) : OkR k 0 (idT k) := by
  have := tabN_okR (r := 0) (G := fun i => (i : Int)) h1 h4 (by omega) (fun i hi => by simp at hi; omega)
  simpa [idT] using this
theorem idT_ent {k : Nat} {X : List Int} (ho : okW k X) (hl : X.length = 1) : [ent (idT k) (valW k X)] = X := by
  match X, hl with
  | [x], _ =>
    have h := ho x (List.mem_singleton.2 rfl)
    have e : valW k [x] = x.toNat := by show valW k ([] ++ [x]) = _; rw [valW_snoc]; show 0 * k + _ = _; omega
    rw [e]
    unfold idT
    rw [tabN_ent (by omega)]
    congr 1
    omega
theorem img_id {k : Nat} {w : List Int} (hw : okW k w) : imgW k 0 (idT k) w = w := by
  apply List.ext_getElem?
  intro i
  by_cases hi : i < w.length
  · rw [imgW_get (by omega)]
    have h := idT_ent (win_ok hw i 1) (win_length (by omega))
    have h2 : (win w i 1)[0]? = w[i]? := by unfold win; rw [List.getElem?_take, if_pos (by omega), List.getElem?_drop, Nat.add_zero]
    have h3 := congrArg (fun l : List Int => l[0]?) h
    rw [← h2, ← h3]; rfl
  · rw [List.getElem?_eq_none (by rw [imgW_length]; omega), List.getElem?_eq_none (by omega)]
theorem cmp_id {k r : Nat} {t : List Int} (h : OkR k r t) : cmpT k r 0 t (idT k) = t :=
  table_ext (cmpT_ok h (idT_ok h.k1 h.k4) h.r3) h fun X hX hl => by
    have := img_cmp (ta := t) (a := r) (idT_ok h.k1 h.k4) hX
    rw [img_id hX] at this
    exact this
theorem id_cmp {k r : Nat} {t : List Int} (h : OkR k r t) : cmpT k 0 r (idT k) t = t := by
  have h1 := cmpT_ok (idT_ok h.k1 h.k4) h (by have := h.r3; omega)
  rw [Nat.zero_add] at h1
  refine table_ext h1 h fun X hX hl => ?_
  have := img_cmp (ta := idT k) (a := 0) h hX
  rw [img_id (imgW_ok h hX), Nat.zero_add] at this
  exact this
/-- the table of t times the rule -/
def powT (k r : Nat) (t : List Int) : Nat → List Int
  | 0 => idT k
  | n + 1 => cmpT k r (r * n) t (powT k r t n)
theorem powT_ok {k r : Nat} {t : List Int} (h : OkR k r t) : ∀ (n : Nat), r * n ≤ 3 → OkR k (r * n) (powT k r t n)
  | 0, _ => idT_ok h.k1 h.k4
  | n + 1, h3 => by
    rw [Nat.mul_succ] at h3
    have := cmpT_ok h (powT_ok h n (by omega)) (by omega)
    rw [Nat.mul_succ, Nat.add_comm]
    exact this
theorem pow_add {k r : Nat} {t : List Int} (h : OkR k r t) : ∀ (m n : Nat), r * (m + n) ≤ 3 → powT k r t (m + n) = cmpT k (r * m) (r * n) (powT k r t m) (powT k r t n)
  | 0, n, h3 => by
    rw [Nat.zero_add] at h3 ⊢
    rw [Nat.mul_zero]
    show _ = cmpT k 0 (r * n) (idT k) _
    rw [id_cmp (powT_ok h n h3)]
  | m + 1, n, h3 => by
    have h3' : r * m + r * n + r ≤ 3 := by
      have e : r * (m + 1 + n) = r * m + r * n + r := by rw [show m + 1 + n = m + n + 1 by omega, Nat.mul_succ, Nat.mul_add]
      omega
    rw [show m + 1 + n = m + n + 1 by omega]
    show cmpT k r (r * (m + n)) t (powT k r t (m + n)) = cmpT k (r * (m + 1)) (r * n) (cmpT k r (r * m) t (powT k r t m)) (powT k r t n)
    rw [pow_add h m n (by rw [Nat.mul_add]; omega), Nat.mul_add, ← cmp_assoc h (powT_ok h m (by omega)) (powT_ok h n (by omega)) (by omega), Nat.mul_succ, Nat.add_comm r]
theorem pow_one {k r : Nat} {t : List Int} (h : OkR k r t) : powT k r t 1 = t := cmp_id h
/-- the image as often -/
def imgN (k r : Nat) (t w : List Int) : Nat → List Int
  | 0 => w
  | n + 1 => imgW k r t (imgN k r t w n)
theorem imgN_ok {k r : Nat} {t w : List Int} (h : OkR k r t) (hw : okW k w) : ∀ n, okW k (imgN k r t w n)
  | 0 => hw
  | n + 1 => imgW_ok h (imgN_ok h hw n)
theorem imgN_length {k r : Nat} {t w : List Int} : ∀ n, (imgN k r t w n).length = w.length - 2 * (r * n)
  | 0 => rfl
  | n + 1 => by
    show (imgW k r t (imgN k r t w n)).length = _
    rw [imgW_length, imgN_length n, Nat.mul_succ]; omega
theorem img_pow {k r : Nat} {t w : List Int} (h : OkR k r t) (hw : okW k w) : ∀ n, r * n ≤ 3 → imgW k (r * n) (powT k r t n) w = imgN k r t w n
  | 0, _ => img_id hw
  | n + 1, h3 => by
    rw [Nat.mul_succ] at h3
    show imgW k (r * (n + 1)) (cmpT k r (r * n) t (powT k r t n)) w = imgW k r t (imgN k r t w n)
    rw [Nat.mul_succ, Nat.add_comm, img_cmp (powT_ok h n (by omega)) hw, img_pow h hw n (by omega)]
/-! ### shifts -/
def shiN (d : Int) : Nat := d.natAbs
def shiT (k : Nat) (d : Int) : List Int := tabN (k ^ (2 * d.natAbs + 1)) fun i => if d < 0 then ((i / k ^ (2 * d.natAbs) : Nat) : Int) else ((i % k : Nat) : Int)
theorem shiT_ok {k : Nat} {d : Int} (h1 : 1 ≤ k) (h4 : k ≤ 4) (h3 : d.natAbs ≤ 3) : OkR k d.natAbs (shiT k d) :=
  tabN_okR h1 h4 h3 fun i hi => by
    have ha : i / k ^ (2 * d.natAbs) < k := (Nat.div_lt_iff_lt_mul (Nat.pow_pos h1)).2 (by rw [Nat.mul_comm, ← Nat.pow_succ]; exact hi)
    have hb : i % k < k := Nat.mod_lt _ h1
    show 0 ≤ (if d < 0 then ((i / k ^ (2 * d.natAbs) : Nat) : Int) else ((i % k : Nat) : Int)) ∧ (if d < 0 then ((i / k ^ (2 * d.natAbs) : Nat) : Int) else ((i % k : Nat) : Int)) < (k : Int)
    generalize i / k ^ (2 * d.natAbs) = x at ha ⊢
    generalize i % k = y at hb ⊢
    split <;> omega
end Go.Proofs.YtienaogmljlmlaaDoor.RuleM
end
section
namespace Go.Proofs.YtienaogmljlmlaaDoor
open Go.RowKit Go.Extern.Stop Go.Stop Go.Extern WordM RuleM NatM

theorem small_p7 {k j : Nat} (h4 : k ≤ 4) (h : j ≤ 7) : k ^ j ≤ 16384 := Nat.le_trans (Nat.pow_le_pow_left h4 _) (Nat.le_trans (Nat.pow_le_pow_right (by omega) h) (by decide))
set_option maxHeartbeats 1000000 in
theorem fpower_any (k n : Nat) (w : World) (h4 : k ≤ 4) (h7 : n ≤ 7) :
    Calls Tryd.prog 37 #[.int .i64 (k : Int), .int .i64 (n : Int)] w fun e w' => e = .returned (.int .i64 ((k ^ n : Nat) : Int)) ∧ w = w' := by
  go_enter Tryd.func37, Tryd.ntmps37
  go_wp2_with fail
  go_loop [5, 7] (fun v5 v6 => ∃ j : Nat, j ≤ n ∧ v6 = .int .i64 (j : Int) ∧ v5 = .int .i64 ((k ^ j : Nat) : Int)) (fun _ v => n - (intOf v).toNat)
  case atStart => exact ⟨0, Nat.zero_le _, rfl, by simp⟩
  case round =>
    obtain ⟨j, hj, rfl, rfl⟩ := hrel
    by_cases hlt : j < n
    · have hs := small_p7 (j := j) h4 (by omega)
      have hn := Nat.pow_succ k j
      obtain ⟨s, hs'⟩ : ∃ s, k ^ j = s := ⟨_, rfl⟩
      rw [hs'] at hn hs ⊢
      have hsq : s * k ≤ 16384 * 4 := Nat.mul_le_mul hs h4
      have hsm : ((s : Int) * (k : Int)) = ((s * k : Nat) : Int) := by push_cast; rfl
      obtain ⟨u, hu⟩ : ∃ u, s * k = u := ⟨_, rfl⟩
      rw [hu] at hsq hsm hn
      have w2 : IntKind.i64.wrap ((s : Int) * (k : Int)) = (u : Int) := by rw [hsm, IntWalk.i64_in _ (by omega)]
      have HU := Lib.hid hn
      clear hn hs' hsm hu
      go_wp2_with fail
      go_round
      case rel => exact ⟨j + 1, by omega, by go_num, by rw [HU.out]⟩
      case measure => simp [intOf]; omega
    · obtain rfl : j = n := by omega
      go_wp2_with fail
      go_ret
      exact ⟨rfl, rfl⟩

/-- what a function value is asked: of every window its symbol, in whatever later world -/
def Gives (w : World) (F : FuncId) (C : Array Value) (S : Nat) (G : Nat → Int) : Prop :=
  ∀ (i : Nat), i < S → ∀ wx : World, Below w.heap.size w wx → Calls Tryd.prog F (#[.int .i64 (i : Int)] ++ C) wx (Tells (.int .i64 (G i)) wx)
/-- a new rule -/
def TabPost (w : World) (K R : Int) (t : List Int) (e : Ending) (w' : World) : Prop :=
  ∃ p c, e = .returned (.agg #[.int .i64 K, .int .i64 R, .slice p t.length c]) ∧ IntO w.heap.size w' p c t ∧ Below w.heap.size w w'
def TabRel (w : World) (h g S : Nat) (G : Nat → Int) (v17 : Value) (wr : World) : Prop :=
  ∃ j : Nat, j ≤ S ∧ v17 = .int .i64 (j : Int) ∧ IntO (h + 1) wr (some ⟨g, 0, none⟩) S (tabN j G ++ List.replicate (S - j) 0) ∧ Below w.heap.size w wr ∧ Rul3 wr h (.int .i64 0) (.int .i64 0) (.slice none 0 0)
set_option maxRecDepth 100000 in
set_option maxHeartbeats 4000000 in
theorem tabulate_any (K R : Nat) (F : FuncId) (C : Array Value) (w : World) (G : Nat → Int) (h4 : K ≤ 4) (h3 : R ≤ 3) (he : Enters Tryd.prog F) (hg : Gives w F C (K ^ (2 * R + 1)) G) :
    Calls Tryd.prog 27 #[.int .i64 (K : Int), .int .i64 (R : Int), .func (.func F) #[] C] w (TabPost w K R (tabN (K ^ (2 * R + 1)) G)) := by
  have hpw := fun W => fpower_any K (2 * R + 1) W h4 (by omega)
  have hS16 := pow_le (k := K) (r := R) h4 h3
  obtain ⟨S, hS⟩ : ∃ S, K ^ (2 * R + 1) = S := ⟨_, rfl⟩
  rw [hS] at hS16 hg
  simp only [hS] at hpw ⊢
  obtain ⟨m, hm⟩ : ∃ m, 2 * R + 1 = m := ⟨_, rfl⟩
  have e1 : IntKind.i64.wrap (2 * (R : Int)) = 2 * (R : Int) := by rw [IntWalk.i64_in _ (by omega)]
  have e2 : IntKind.i64.wrap (2 * (R : Int) + 1) = (m : Int) := by rw [IntWalk.i64_in _ (by omega)]; omega
  rw [hm] at hpw
  have hmk := fun W => makeI S (by omega) W
  have H := Lib.hid (And.intro hpw (And.intro hg hmk))
  clear hpw hg hS hm hmk
  go_enter Tryd.func27, Tryd.ntmps27
  go_wp2_with fail
  obtain ⟨w0, hw0⟩ : ∃ w0, w0 = w.alloc (.cells #[.int .i64 0, .int .i64 0, .slice none 0 0] 24) := ⟨_, rfl⟩
  have hb0 : Below w.heap.size w w0 := by rw [hw0]; exact (Below.refl _ _).alloc (Nat.le_refl _) _
  have hE0 : Rul3 w0 w.heap.size (.int .i64 0) (.int .i64 0) (.slice none 0 0) := by rw [hw0]; exact Rul3.new w _ _ _
  rw [← hw0]
  have HE := Lib.hid (And.intro hE0 hb0)
  clear hw0 hE0 hb0
  refine (H.out.1 w0).mono ?_
  rintro e w1 ⟨rfl, rfl⟩
  have hmk := H.out.2.2 w0
  go_wp2_with fail
  have ho0 := (IntO.made w0 S (by omega)).base HE.out.1.lt
  have hbm : Below w.heap.size w (w0.alloc (.cells (madeCells #[.int .i64 0] S) 3)) := HE.out.2.alloc HE.out.2.size _
  have hEm : Rul3 (w0.alloc (.cells (madeCells #[.int .i64 0] S) 3)) w.heap.size (.int .i64 0) (.int .i64 0) (.slice none 0 0) := HE.out.1.next ((Below.refl _ _).alloc (Nat.le_refl _) _)
  have hlt := HE.out.1.lt
  have HO := Lib.hid (And.intro ho0 (And.intro hbm (And.intro hEm hlt)))
  clear hmk ho0 hbm hEm hlt
  go_loopw [17] (fun v17 wr => TabRel w w.heap.size w0.heap.size S G v17 wr) (fun v _ => S - (intOf v).toNat)
  case atStart => exact ⟨0, Nat.zero_le _, rfl, by simpa [tabN] using HO.out.1, HO.out.2.1, HO.out.2.2.1⟩
  case round =>
    obtain ⟨j, hj, rfl, ho, hb, hE⟩ := hrel
    by_cases hlt : j < S
    · have hen : (Sem.run Tryd.prog (callFunc F (#[Value.int IntKind.i64 (j : Int)] ++ C)) wr) = .ok (.enter F (#[Value.int IntKind.i64 (j : Int)] ++ C)) wr := he _ _
      go_wp2_with fail
      refine (H.out.2.1 j hlt wr hb).mono ?_
      rintro e wx ⟨rfl, hbx⟩
      have hb2 := hb.trans (hbx.mono hb.size)
      have ho2 := ho.next hbx
      have hE2 := hE.next hbx
      clear hb ho hE hbx hen
      have hset : ∀ v : Int, (tabN j G ++ List.replicate (S - j) (0 : Int)).set j v = tabN j G ++ v :: List.replicate (S - (j + 1)) 0 := fun v => by
        rw [show S - j = (S - (j + 1)) + 1 by omega, List.replicate_succ, List.set_append_right _ _ (by rw [tabN_length]; omega), tabN_length, Nat.sub_self]; rfl
      have hlen : (tabN j G ++ List.replicate (S - j) (0 : Int)).length = S := by rw [List.length_append, tabN_length, List.length_replicate]; omega
      have hnew : tabN j G ++ G j :: List.replicate (S - (j + 1)) 0 = tabN (j + 1) G ++ List.replicate (S - (j + 1)) 0 := by rw [tabN_succ, List.append_assoc]; rfl
      obtain ⟨xs, hxs⟩ : ∃ xs, tabN j G ++ List.replicate (S - j) (0 : Int) = xs := ⟨_, rfl⟩
      rw [hxs] at ho2 hlen
      simp only [hxs] at hset
      have hown : wx.ownsRow (w.heap.size + 1) 3 1 (.slice (some ⟨w0.heap.size, 0, none⟩) S S) S (cI xs) := by
        unfold IntO at ho2
        rwa [hlen] at ho2
      have hfy : wx.frozen? ⟨w0.heap.size, j, none⟩ = false := hown.frozenAt j
      obtain ⟨y0, hy0⟩ := getI (l := xs) (k := j) (by omega)
      have hcy : wx.cell? ⟨w0.heap.size, j, none⟩ = some (.int .i64 y0) := (hown.cellAt j (by omega)).trans (cI_get hy0)
      obtain ⟨s1, _⟩ := hown.stored j (.int .i64 (G j))
      rw [← cI_set, hset, hnew] at s1
      have hlt0 := HO.out.2.2.2
      have hb3 : Below w.heap.size w (wx.setCell ⟨w0.heap.size, j, none⟩ (.int .i64 (G j))) := hb2.setCell (p := ⟨w0.heap.size, j, none⟩) (Nat.le_of_lt hlt0) _
      have hE3 : Rul3 (wx.setCell ⟨w0.heap.size, j, none⟩ (.int .i64 (G j))) w.heap.size (.int .i64 0) (.int .i64 0) (.slice none 0 0) := hE2.setOther w0.heap.size j (Nat.ne_of_gt hlt0) _
      have hlen2 : (tabN (j + 1) G ++ List.replicate (S - (j + 1)) (0 : Int)).length = S := by rw [List.length_append, tabN_length, List.length_replicate]; omega
      have HS := Lib.hid (And.intro s1 (And.intro hb3 (And.intro hE3 hlen2)))
      clear s1 hb3 hE3 hlen2 hset hxs hown hy0 ho2 hb2 hE2 hlen hnew hlt0
      go_wp2_with fail
      go_roundw
      case rel => exact ⟨j + 1, by omega, by go_num, by unfold IntO; rw [HS.out.2.2.2]; exact HS.out.1, HS.out.2.1, HS.out.2.2.1⟩
      case measure => simp [intOf]; omega
    · obtain rfl : j = S := by omega
      rw [Nat.sub_self, List.replicate_zero, List.append_nil] at ho
      have hl := tabN_length j G
      obtain ⟨hfr, hc0, hc1, hc2⟩ := hE.facts
      have HF := Lib.hid (And.intro ho (And.intro hb (And.intro hE hl)))
      clear ho hb hl hE
      go_wp2_with fail
      have hl2 := HF.out.2.2.2
      refine bodyPost_ret (v := .agg #[.int .i64 (K : Int), .int .i64 (R : Int), .slice (some ⟨w0.heap.size, 0, none⟩) j j]) (by simp [results, Tryd.results27, go_sem, hc0, hc1, hc2]) rfl ⟨some ⟨w0.heap.size, 0, none⟩, j, by rw [hl2], ?_, ?_⟩
      · have := HF.out.1.put3 (h := w.heap.size) (Nat.lt_succ_self _) (.int .i64 (K : Int)) (.int .i64 (R : Int)) (.slice (some ⟨w0.heap.size, 0, none⟩) j j)
        exact this.base (by omega)
      · exact put3_below HF.out.2.1 (Nat.le_refl _) _ _ _
end Go.Proofs.YtienaogmljlmlaaDoor
end
section
namespace Go.Proofs.YtienaogmljlmlaaDoor
open Go.RowKit Go.Extern.Stop Go.Stop Go.Extern WordM RuleM NatM

/-- a variable that a function value holds -/
structure One (w : World) (b : Nat) (T : TypeId) (v : Value) : Prop where
  heap : w.heap[b]? = some (.cells #[v] T (0, 0))
theorem One.new (w : World) (T : TypeId) (v : Value) : One (w.alloc (.cells #[v] T)) w.heap.size T v := ⟨heap_newN w _⟩
theorem One.next {w w' : World} {b : Nat} {T : TypeId} {v : Value} (hb : Below w.heap.size w w') (k : One w b T v) : One w' b T v := ⟨(hb.block b (heap_ltN k.heap)).trans k.heap⟩
theorem One.cell {w : World} {b : Nat} {T : TypeId} {v : Value} (k : One w b T v) : w.cell? ⟨b, 0, none⟩ = some v := by
  rw [cell_of_row _ _ _ _ _ _ k.heap]; rfl
theorem One.lt {w : World} {b : Nat} {T : TypeId} {v : Value} (k : One w b T v) : b < w.heap.size := heap_ltN k.heap

theorem enter_shift : Enters Tryd.prog 38 := enters_of Tryd.func38 (by kernel_rfl) rfl
theorem enter_mirror : Enters Tryd.prog 28 := enters_of Tryd.func28 (by kernel_rfl) rfl
theorem enter_rename : Enters Tryd.prog 33 := enters_of Tryd.func33 (by kernel_rfl) rfl
theorem enter_widen : Enters Tryd.prog 59 := enters_of Tryd.func59 (by kernel_rfl) rfl
theorem enter_narrow : Enters Tryd.prog 58 := enters_of Tryd.func58 (by kernel_rfl) rfl
theorem enter_compose : Enters Tryd.prog 56 := enters_of Tryd.func56 (by kernel_rfl) rfl
theorem enter_repeat : Enters Tryd.prog 57 := enters_of Tryd.func57 (by kernel_rfl) rfl

theorem give_repeat (k : Nat) (w : World) : Gives w 57 #[] k (fun i => (i : Int)) := by
  intro i hi wx hb
  show Calls Tryd.prog 57 #[.int .i64 (i : Int)] wx _
  go_enter Tryd.func57, Tryd.ntmps57
  go_wp2_with fail
  go_ret
  exact ⟨rfl, Below.refl _ _⟩
/-- the window's first symbol, or its last -/
theorem give_shift (k f : Nat) (d : Int) (b1 b2 b3 : Nat) (S : Nat) (w : World) (hk : 1 ≤ k) (hf : 1 ≤ f) (hS : S ≤ 16384) (h1 : One w b1 3 (.int .i64 d)) (h2 : One w b2 3 (.int .i64 (f : Int))) (h3 : One w b3 3 (.int .i64 (k : Int))) :
    Gives w 38 #[.pointer (some ⟨b1, 0, none⟩), .pointer (some ⟨b2, 0, none⟩), .pointer (some ⟨b3, 0, none⟩)] S (fun i => if d < 0 then ((i / f : Nat) : Int) else ((i % k : Nat) : Int)) := by
  intro i hi wx hb
  show Calls Tryd.prog 38 #[.int .i64 (i : Int), .pointer (some ⟨b1, 0, none⟩), .pointer (some ⟨b2, 0, none⟩), .pointer (some ⟨b3, 0, none⟩)] wx _
  have hc1 := (h1.next hb).cell
  have hc2 := (h2.next hb).cell
  have hc3 := (h3.next hb).cell
  have hi16 : i ≤ 16384 := by omega
  have tQ : (i : Int).tdiv (f : Int) = ((i / f : Nat) : Int) := by rw [Int.tdiv_eq_ediv_of_nonneg (by omega)]; rfl
  have tM : (i : Int).tmod (k : Int) = ((i % k : Nat) : Int) := by rw [Int.tmod_eq_emod_of_nonneg (by omega)]; rfl
  have hq : i / f ≤ i := Nat.div_le_self _ _
  have hm : i % k ≤ i := Nat.mod_le _ _
  obtain ⟨q, hq'⟩ : ∃ q, i / f = q := ⟨_, rfl⟩
  obtain ⟨m, hm'⟩ : ∃ m, i % k = m := ⟨_, rfl⟩
  have hf0 : ¬ (f : Int) = 0 := by omega
  have hk0 : ¬ (k : Int) = 0 := by omega
  simp only [hq', hm'] at tQ tM hq hm ⊢
  have tQ' : IntKind.i64.wrap (q : Int) = (q : Int) := by rw [IntWalk.i64_in _ (by omega)]
  clear h1 h2 h3 hb hq' hm' hi
  by_cases hd : d < 0
  · rw [if_pos hd]
    go_enter Tryd.func38, Tryd.ntmps38
    go_wp2_with fail
    go_ret
    exact ⟨rfl, Below.refl _ _⟩
  · rw [if_neg hd]
    go_enter Tryd.func38, Tryd.ntmps38
    go_wp2_with fail
    go_ret
    exact ⟨rfl, Below.refl _ _⟩
end Go.Proofs.YtienaogmljlmlaaDoor
end
section
namespace Go.Proofs.YtienaogmljlmlaaDoor.RuleM
open WordM
/-! ### rounds of the function values -/
theorem digW_cons (k j i : Nat) : digW k (j + 1) i = ((i / k ^ j % k : Nat) : Int) :: digW k j i := by
  rw [Nat.add_comm, digW_app]
  unfold digW digW
  simp
theorem revN_step {k : Nat} (i j : Nat) : valW k (digW k (j + 1) i).reverse = valW k (digW k j i).reverse * k + i / k ^ j % k := by
  rw [digW_cons, List.reverse_cons, valW_snoc, Int.toNat_natCast]
theorem valW_cons {k : Nat} (x : Int) (l : List Int) : valW k (x :: l) = x.toNat * k ^ l.length + valW k l := by
  have := valW_app k [x] l
  rw [List.singleton_append] at this
  rw [this]
  congr 2
  show valW k ([] ++ [x]) = _
  rw [valW_snoc]
  show 0 * k + _ = _
  omega
theorem nmN_step {k : Nat} (q : List Int) (i j : Nat) : valW k (nmW q (digW k (j + 1) i)) = valW k (nmW q (digW k j i)) + (ent q (i / k ^ j % k)).toNat * k ^ j := by
  rw [digW_cons]
  show valW k (ent q ((i / k ^ j % k : Nat) : Int).toNat :: nmW q (digW k j i)) = _
  rw [valW_cons, nmW_length, digW_length, Int.toNat_natCast]
  omega
theorem imgN_step {k b : Nat} (t : List Int) (hk : 1 ≤ k) (i j : Nat) : valW k (imgW k b t (digW k (j + 1 + 2 * b) i)) = valW k (imgW k b t (digW k (j + 2 * b) i)) + (ent t (i / k ^ j % k ^ (2 * b + 1))).toNat * k ^ j := by
  have e : imgW k b t (digW k (j + 1 + 2 * b) i) = ent t (i / k ^ j % k ^ (2 * b + 1)) :: imgW k b t (digW k (j + 2 * b) i) := by
    apply List.ext_getElem?
    intro x
    cases x with
    | zero =>
      rw [imgW_get (by rw [digW_length]; omega), List.getElem?_cons_zero]
      have := win_val hk 0 (2 * b + 1) j i
      rw [show 0 + (2 * b + 1) + j = j + 1 + 2 * b by omega] at this
      rw [this]
    | succ x =>
      rw [List.getElem?_cons_succ]
      by_cases hx : x < j
      · rw [imgW_get (by rw [digW_length]; omega), imgW_get (by rw [digW_length]; omega)]
        congr 3
        rw [show j + 1 + 2 * b = j + 2 * b + 1 by omega, digW_cons]
        rfl
      · rw [List.getElem?_eq_none (by rw [imgW_length, digW_length]; omega), List.getElem?_eq_none (by rw [imgW_length, digW_length]; omega)]
  rw [e, valW_cons, imgW_length, digW_length, show j + 2 * b - 2 * b = j by omega, Nat.add_comm]
theorem div_pow_succ (i k j : Nat) : i / k ^ j / k = i / k ^ (j + 1) := by rw [Nat.div_div_eq_div_mul, Nat.pow_succ]
theorem nm_le {k : Nat} {q : List Int} (hk : 1 ≤ k) (hq : okW k q) (hl : q.length = k) (i j : Nat) : valW k (nmW q (digW k j i)) ≤ k ^ j := Nat.le_of_lt (nm_lt hk hq hl i)
theorem rev_le {k : Nat} (hk : 1 ≤ k) (i j : Nat) : valW k (digW k j i).reverse ≤ k ^ j := Nat.le_of_lt (rev_lt hk i)
theorem img_lt {k b : Nat} {t : List Int} (h : OkR k b t) (i j : Nat) : valW k (imgW k b t (digW k (j + 2 * b) i)) < k ^ j := by
  have := valW_lt (imgW_ok h (digW_ok h.k1 (j + 2 * b) i))
  rwa [imgW_length, digW_length, Nat.add_sub_cancel] at this
end Go.Proofs.YtienaogmljlmlaaDoor.RuleM
end
section
namespace Go.Proofs.YtienaogmljlmlaaDoor
open Go.RowKit Go.Extern.Stop Go.Stop Go.Extern WordM RuleM NatM

theorem row_at {B : Nat} {w : World} {p : Option Addr} {c : Nat} {t : List Int} (h : IntV B w p c t) {i : Nat} (hi : i < t.length) : ∃ b off, p = some ⟨b, off, none⟩ ∧ w.cell? ⟨b, off + i, none⟩ = some (.int .i64 (ent t i)) := by
  obtain ⟨b, off, hp, hb, hc⟩ := h.cell (by rintro rfl; simp at hi)
  exact ⟨b, off, hp, hc _ _ (ent_get hi)⟩

set_option maxRecDepth 100000 in
set_option maxHeartbeats 4000000 in
theorem give_mirror (k r : Nat) (p : Option Addr) (n c : Nat) (t : List Int) (bx : Nat) (w : World) (hn : n = t.length) (ho : OkR k r t) (h : IntV w.heap.size w p c t) (hx : Rul3 w bx (.int .i64 (k : Int)) (.int .i64 (r : Int)) (.slice p n c)) :
    Gives w 28 #[.pointer (some ⟨bx, 0, none⟩)] (k ^ (2 * r + 1)) (fun i => ent t (valW k (digW k (2 * r + 1) i).reverse)) := by
  intro i hi wx hbx
  show Calls Tryd.prog 28 #[.int .i64 (i : Int), .pointer (some ⟨bx, 0, none⟩)] wx _
  have h1 := ho.k1
  have h4 := ho.k4
  have h3 := ho.r3
  have hS := pow_le (k := k) (r := r) h4 h3
  have hi16 : i ≤ 16384 := by omega
  have hk0 : ¬ (k : Int) = 0 := by omega
  obtain ⟨m, hm⟩ : ∃ m, 2 * r + 1 = m := ⟨_, rfl⟩
  have e1 : IntKind.i64.wrap (2 * (r : Int)) = 2 * (r : Int) := by rw [IntWalk.i64_in _ (by omega)]
  have e2 : IntKind.i64.wrap (2 * (r : Int) + 1) = (m : Int) := by rw [IntWalk.i64_in _ (by omega)]; omega
  have hm7 : m ≤ 7 := by omega
  have H := Lib.hid (And.intro hn (And.intro ho (And.intro (h.next hbx) (And.intro (hx.next hbx) hm))))
  simp only [hm]
  clear hn ho h hx hm hbx hi hS
  obtain ⟨_, hc0, hc1, hc2⟩ := H.out.2.2.2.1.facts
  go_enter Tryd.func28, Tryd.ntmps28
  go_wp2_with fail
  clear hc0 hc1 hc2
  go_loopw [0, 4, 9] (fun v0 v4 v9 wr => ∃ j X Z : Nat, j ≤ m ∧ v9 = .int .i64 (j : Int) ∧ v0 = .int .i64 (X : Int) ∧ v4 = .int .i64 (Z : Int) ∧ X ≤ 16384 ∧ Hid (i / k ^ j = X) ∧ Hid (valW k (digW k j i).reverse = Z) ∧ Below wx.heap.size wx wr) (fun _ _ v _ => m - (intOf v).toNat)
  case atStart => exact ⟨0, i, 0, Nat.zero_le _, rfl, rfl, rfl, hi16, by simp [Hid], rfl, Below.refl _ _⟩
  case round =>
    obtain ⟨j, X, Z, hj, rfl, rfl, rfl, hX, hXj, hZj, hb⟩ := hrel
    obtain ⟨_, hc0, hc1, hc2⟩ := (H.out.2.2.2.1.next hb).facts
    by_cases hlt : j < m
    · have hZ1 := rev_le h1 i (j + 1) (k := k)
      have hst := revN_step (k := k) i j
      have hp7 := small_p7 (j := j + 1) h4 (by omega)
      obtain ⟨D, hD⟩ : ∃ D, X % k = D := ⟨_, rfl⟩
      obtain ⟨Q, hQ⟩ : ∃ Q, X / k = Q := ⟨_, rfl⟩
      obtain ⟨Y, hY⟩ : ∃ Y, valW k (digW k (j + 1) i).reverse = Y := ⟨_, rfl⟩
      rw [hXj.out, hZj.out, hY, hD] at hst
      rw [hY] at hZ1
      obtain ⟨u, hu⟩ : ∃ u, Z * k = u := ⟨_, rfl⟩
      have hzk : ((Z : Int) * (k : Int)) = (u : Int) := by rw [← hu]; push_cast; rfl
      rw [hu] at hst
      have tD : (X : Int).tmod (k : Int) = (D : Int) := by rw [Int.tmod_eq_emod_of_nonneg (by omega), ← hD]; rfl
      have tQ : (X : Int).tdiv (k : Int) = (Q : Int) := by rw [Int.tdiv_eq_ediv_of_nonneg (by omega), ← hQ]; rfl
      have hQX : Q ≤ X := by rw [← hQ]; exact Nat.div_le_self _ _
      have tQ' : IntKind.i64.wrap (Q : Int) = (Q : Int) := by rw [IntWalk.i64_in _ (by omega)]
      have wzk : IntKind.i64.wrap ((Z : Int) * (k : Int)) = (u : Int) := by rw [hzk, IntWalk.i64_in _ (by omega)]
      have wuD : IntKind.i64.wrap ((u : Int) + (D : Int)) = (Y : Int) := by rw [IntWalk.i64_in _ (by omega)]; omega
      have hQ2 : i / k ^ (j + 1) = Q := by rw [← div_pow_succ, hXj.out, hQ]
      have HQ := Lib.hid (And.intro hQ2 (And.intro hY (And.intro (hb.drew) (show Q ≤ 16384 by omega))))
      have hcd : ∀ a, wr.drew.cell? a = wr.cell? a := fun _ => rfl
      have hd0 := (hcd _).trans hc0
      clear hD hQ hY hu hzk hst hZ1 hp7 hXj hZj hQ2 hb hQX hcd
      go_wp2_with fail
      go_region
      go_wp2_with fail
      go_roundw
      case rel => exact ⟨j + 1, Q, Y, by omega, by go_num, rfl, rfl, HQ.out.2.2.2, HQ.out.1, HQ.out.2.1, HQ.out.2.2.1⟩
      case measure => simp [intOf]; omega
    · obtain rfl : j = m := by omega
      have hlt2 : Z < t.length := by rw [H.out.2.1.len, H.out.2.2.2.2, ← hZj.out]; exact rev_lt h1 i
      obtain ⟨b, off, rfl, hcx⟩ := row_at (H.out.2.2.1.next hb) hlt2
      have hzn : Z < n := by rw [H.out.1]; exact hlt2
      have HF := Lib.hid (And.intro hb hZj)
      clear hb hZj hlt2 hXj
      go_wp2_with fail
      go_ret
      exact ⟨by rw [HF.out.2.out]; rfl, HF.out.1⟩

set_option maxRecDepth 100000 in
set_option maxHeartbeats 4000000 in
theorem give_rename (k r : Nat) (p p1 p2 : Option Addr) (n c n1 c1 n2 c2 : Nat) (t q P : List Int) (bx b1 b2 : Nat) (w : World) (hn : n = t.length) (hn1 : n1 = q.length) (hn2 : n2 = P.length) (ho : OkR k r t) (hP : PermR k P q) (h : IntV w.heap.size w p c t) (hq : IntV w.heap.size w p1 c1 q) (hPv : IntV w.heap.size w p2 c2 P) (hx : Rul3 w bx (.int .i64 (k : Int)) (.int .i64 (r : Int)) (.slice p n c)) (h1x : One w b1 22 (.slice p1 n1 c1)) (h2x : One w b2 22 (.slice p2 n2 c2)) :
    Gives w 33 #[.pointer (some ⟨bx, 0, none⟩), .pointer (some ⟨b1, 0, none⟩), .pointer (some ⟨b2, 0, none⟩)] (k ^ (2 * r + 1)) (fun i => ent P (ent t (valW k (nmW q (digW k (2 * r + 1) i)))).toNat) := by
  intro i hi wx hbx
  show Calls Tryd.prog 33 #[.int .i64 (i : Int), .pointer (some ⟨bx, 0, none⟩), .pointer (some ⟨b1, 0, none⟩), .pointer (some ⟨b2, 0, none⟩)] wx _
  have h1 := ho.k1
  have h4 := ho.k4
  have h3 := ho.r3
  have hS := pow_le (k := k) (r := r) h4 h3
  have hi16 : i ≤ 16384 := by omega
  have hk0 : ¬ (k : Int) = 0 := by omega
  obtain ⟨m, hm⟩ : ∃ m, 2 * r + 1 = m := ⟨_, rfl⟩
  have e1 : IntKind.i64.wrap (2 * (r : Int)) = 2 * (r : Int) := by rw [IntWalk.i64_in _ (by omega)]
  have e2 : IntKind.i64.wrap (2 * (r : Int) + 1) = (m : Int) := by rw [IntWalk.i64_in _ (by omega)]; omega
  have hm7 : m ≤ 7 := by omega
  have hnk : n1 = k := by rw [hn1, hP.lq]
  have hnk2 : n2 = k := by rw [hn2, hP.lp]
  have H := Lib.hid (And.intro hn (And.intro ho (And.intro (h.next hbx) (And.intro (hx.next hbx) (And.intro hm (And.intro hP (And.intro (hq.next hbx) (And.intro (hPv.next hbx) (And.intro (h1x.next hbx) (And.intro (h2x.next hbx) (And.intro hnk hnk2)))))))))))
  simp only [hm]
  clear hn ho h hx hm hbx hi hS hn1 hn2 hP hq hPv h1x h2x hnk hnk2
  obtain ⟨_, hc0, hc1, hc2⟩ := H.out.2.2.2.1.facts
  go_enter Tryd.func33, Tryd.ntmps33
  go_wp2_with fail
  clear hc0 hc1 hc2
  go_loopw [0, 6, 7, 12] (fun v0 v6 v7 v12 wr => ∃ j X Z G : Nat, j ≤ m ∧ v12 = .int .i64 (j : Int) ∧ v0 = .int .i64 (X : Int) ∧ v6 = .int .i64 (Z : Int) ∧ v7 = .int .i64 (G : Int) ∧ X ≤ 16384 ∧ Hid (i / k ^ j = X) ∧ Hid (valW k (nmW q (digW k j i)) = Z) ∧ Hid (k ^ j = G) ∧ Below wx.heap.size wx wr) (fun _ _ _ v _ => m - (intOf v).toNat)
  case atStart => exact ⟨0, i, 0, 1, Nat.zero_le _, rfl, rfl, rfl, rfl, hi16, by simp [Hid], rfl, rfl, Below.refl _ _⟩
  case round =>
    obtain ⟨j, X, Z, G, hj, rfl, rfl, rfl, rfl, hX, hXj, hZj, hGj, hb⟩ := hrel
    obtain ⟨_, hc0, hc1, hc2⟩ := (H.out.2.2.2.1.next hb).facts
    have hPm := H.out.2.2.2.2.2.1
    have h1c := (H.out.2.2.2.2.2.2.2.2.1.next hb).cell
    have h2c := (H.out.2.2.2.2.2.2.2.2.2.1.next hb).cell
    by_cases hlt : j < m
    · have hZ1 := nm_le h1 hPm.oq hPm.lq i (j + 1)
      have hst := nmN_step (k := k) q i j
      have hp7 := small_p7 (j := j + 1) h4 (by omega)
      have hp6 := small_p7 (j := j) h4 (by omega)
      obtain ⟨D, hD⟩ : ∃ D, X % k = D := ⟨_, rfl⟩
      obtain ⟨Q, hQ⟩ : ∃ Q, X / k = Q := ⟨_, rfl⟩
      obtain ⟨Y, hY⟩ : ∃ Y, valW k (nmW q (digW k (j + 1) i)) = Y := ⟨_, rfl⟩
      have hDk : D < k := by rw [← hD]; exact Nat.mod_lt _ (by omega)
      rw [hXj.out, hZj.out, hY, hD, hGj.out] at hst
      rw [hGj.out] at hp6
      rw [hY] at hZ1
      have hDq : D < q.length := by rw [hPm.lq]; exact hDk
      obtain ⟨bq, oq, rfl, hcx⟩ := row_at (H.out.2.2.2.2.2.2.1.next hb) hDq
      have heo := ent_ok hPm.oq hDq
      have hDn : D < n1 := by rw [H.out.2.2.2.2.2.2.2.2.2.2.1]; exact hDk
      obtain ⟨E, hE⟩ : ∃ E, ent q D = E := ⟨_, rfl⟩
      rw [hE] at hcx heo hst
      obtain ⟨E, rfl⟩ : ∃ E' : Nat, E = (E' : Int) := ⟨E.toNat, by omega⟩
      rw [Int.toNat_natCast] at hst
      obtain ⟨u, hu⟩ : ∃ u, E * G = u := ⟨_, rfl⟩
      have hzk : ((E : Int) * (G : Int)) = (u : Int) := by rw [← hu]; push_cast; rfl
      rw [hu] at hst
      obtain ⟨G2, hG2⟩ : ∃ G2, k ^ (j + 1) = G2 := ⟨_, rfl⟩
      have hGk : ((G : Int) * (k : Int)) = (G2 : Int) := by rw [← hG2, Nat.pow_succ, hGj.out]; push_cast; rfl
      rw [hG2] at hp7 hZ1
      have tD : (X : Int).tmod (k : Int) = (D : Int) := by rw [Int.tmod_eq_emod_of_nonneg (by omega), ← hD]; rfl
      have tQ : (X : Int).tdiv (k : Int) = (Q : Int) := by rw [Int.tdiv_eq_ediv_of_nonneg (by omega), ← hQ]; rfl
      have hQX : Q ≤ X := by rw [← hQ]; exact Nat.div_le_self _ _
      have tQ' : IntKind.i64.wrap (Q : Int) = (Q : Int) := by rw [IntWalk.i64_in _ (by omega)]
      have wzk : IntKind.i64.wrap ((E : Int) * (G : Int)) = (u : Int) := by rw [hzk, IntWalk.i64_in _ (by omega)]
      have wuD : IntKind.i64.wrap ((Z : Int) + (u : Int)) = (Y : Int) := by rw [IntWalk.i64_in _ (by omega)]; omega
      have wG : IntKind.i64.wrap ((G : Int) * (k : Int)) = (G2 : Int) := by rw [hGk, IntWalk.i64_in _ (by omega)]
      have hQ2 : i / k ^ (j + 1) = Q := by rw [← div_pow_succ, hXj.out, hQ]
      have HQ := Lib.hid (And.intro hQ2 (And.intro hY (And.intro (hb.drew) (And.intro (show Q ≤ 16384 by omega) hG2))))
      have hd0 : wr.drew.cell? ⟨bx, 0, none⟩ = _ := hc0
      clear hD hQ hY hu hzk hst hZ1 hp7 hp6 hXj hZj hQ2 hb hQX hPm hDk hDq hE hG2 hGk hGj heo
      go_wp2_with fail
      go_region
      go_wp2_with fail
      go_roundw
      case rel => exact ⟨j + 1, Q, Y, G2, by omega, by go_num, rfl, rfl, rfl, HQ.out.2.2.2.1, HQ.out.1, HQ.out.2.1, HQ.out.2.2.2.2, HQ.out.2.2.1⟩
      case measure => simp [intOf]; omega
    · obtain rfl : j = m := by omega
      have hlt2 : Z < t.length := by rw [H.out.2.1.len, H.out.2.2.2.2.1, ← hZj.out]; exact nm_lt h1 hPm.oq hPm.lq i
      obtain ⟨b, off, rfl, hcx⟩ := row_at (H.out.2.2.1.next hb) hlt2
      have hzn : Z < n := by rw [H.out.1]; exact hlt2
      have heo := ent_ok H.out.2.1.ok hlt2
      obtain ⟨E, hE⟩ : ∃ E, ent t Z = E := ⟨_, rfl⟩
      rw [hE] at hcx heo
      obtain ⟨E, rfl⟩ : ∃ E' : Nat, E = (E' : Int) := ⟨E.toNat, by omega⟩
      have hEk : E < k := by omega
      have hEp : E < P.length := by rw [hPm.lp]; exact hEk
      have hEn : E < n2 := by rw [H.out.2.2.2.2.2.2.2.2.2.2.2]; exact hEk
      obtain ⟨bp, op, rfl, hcp⟩ := row_at (H.out.2.2.2.2.2.2.2.1.next hb) hEp
      have HF := Lib.hid (And.intro hb.drew (And.intro hZj hE))
      clear hb hZj hlt2 hXj hPm hE hEp hEk hGj heo
      go_wp2_with fail
      go_region
      go_wp2_with fail
      go_ret
      exact ⟨by rw [HF.out.2.1.out, HF.out.2.2, Int.toNat_natCast]; rfl, HF.out.1⟩

set_option maxRecDepth 100000 in
set_option maxHeartbeats 4000000 in
theorem give_widen (k r R f : Nat) (p : Option Addr) (n c : Nat) (t : List Int) (bx b1 : Nat) (w : World) (hn : n = t.length) (ho : OkR k r t) (hR : R ≤ 3) (hf : f = k ^ (R - r)) (h : IntV w.heap.size w p c t) (hx : Rul3 w bx (.int .i64 (k : Int)) (.int .i64 (r : Int)) (.slice p n c)) (h1x : One w b1 3 (.int .i64 (f : Int))) :
    Gives w 59 #[.pointer (some ⟨bx, 0, none⟩), .pointer (some ⟨b1, 0, none⟩)] (k ^ (2 * R + 1)) (fun i => ent t (i / k ^ (R - r) % k ^ (2 * r + 1))) := by
  intro i hi wx hbx
  show Calls Tryd.prog 59 #[.int .i64 (i : Int), .pointer (some ⟨bx, 0, none⟩), .pointer (some ⟨b1, 0, none⟩)] wx _
  have h1 := ho.k1
  have h4 := ho.k4
  have hS := pow_le (k := k) (r := R) h4 hR
  have hi16 : i ≤ 16384 := by omega
  have hf0 : 1 ≤ f := by rw [hf]; exact Nat.pow_pos h1
  have hfi : ¬ (f : Int) = 0 := by omega
  have hnS : n = k ^ (2 * r + 1) := by rw [hn, ho.len]
  have hn0 : 1 ≤ n := by rw [hnS]; exact pow_pos h1
  have hni : ¬ (n : Int) = 0 := by omega
  obtain ⟨Q, hQ⟩ : ∃ Q, i / f = Q := ⟨_, rfl⟩
  obtain ⟨M, hM⟩ : ∃ M, Q % n = M := ⟨_, rfl⟩
  have hQi : Q ≤ i := by rw [← hQ]; exact Nat.div_le_self _ _
  have hMn : M < n := by rw [← hM]; exact Nat.mod_lt _ hn0
  have tQ : (i : Int).tdiv (f : Int) = (Q : Int) := by rw [Int.tdiv_eq_ediv_of_nonneg (by omega), ← hQ]; rfl
  have tQ' : IntKind.i64.wrap (Q : Int) = (Q : Int) := by rw [IntWalk.i64_in _ (by omega)]
  have tM : (Q : Int).tmod (n : Int) = (M : Int) := by rw [Int.tmod_eq_emod_of_nonneg (by omega), ← hM]; rfl
  have hv : i / k ^ (R - r) % k ^ (2 * r + 1) = M := by rw [← hf, ← hnS, hQ, hM]
  simp only [hv]
  obtain ⟨b, off, rfl, hcx⟩ := row_at (h.next hbx) (i := M) (by rw [← hn]; exact hMn)
  obtain ⟨_, hc0, hc1, hc2⟩ := (hx.next hbx).facts
  have h1c := (h1x.next hbx).cell
  clear hn ho h hx hbx hi hS h1x hnS hf hv hQ hM hR
  go_enter Tryd.func59, Tryd.ntmps59
  go_wp2_with fail
  go_region
  go_wp2_with fail
  go_ret
  exact ⟨rfl, (Below.refl _ _).drew⟩

set_option maxRecDepth 100000 in
set_option maxHeartbeats 4000000 in
theorem give_narrow (k R : Nat) (p : Option Addr) (n c : Nat) (t : List Int) (u v : Value) (bx b1 : Nat) (w : World) (hn : n = t.length) (ho : OkR k (R + 1) t) (h : IntV w.heap.size w p c t) (hx : Rul3 w bx (.int .i64 (k : Int)) (.int .i64 ((R : Int) + 1)) (.slice p n c)) (h1x : Rul3 w b1 (.int .i64 (k : Int)) u v) :
    Gives w 58 #[.pointer (some ⟨bx, 0, none⟩), .pointer (some ⟨b1, 0, none⟩)] (k ^ (2 * R + 1)) (fun i => ent t (i * k)) := by
  intro i hi wx hbx
  show Calls Tryd.prog 58 #[.int .i64 (i : Int), .pointer (some ⟨bx, 0, none⟩), .pointer (some ⟨b1, 0, none⟩)] wx _
  have h1 := ho.k1
  have h4 := ho.k4
  have h3 := ho.r3
  have hlt : i * k < t.length := by
    rw [ho.len, show 2 * (R + 1) + 1 = (2 * R + 1) + 1 + 1 by omega, Nat.pow_succ, Nat.pow_succ]
    exact Nat.lt_of_lt_of_le (Nat.mul_lt_mul_of_pos_right hi h1) (Nat.le_mul_of_pos_right _ h1)
  have hS := pow_le (k := k) (r := R + 1) h4 h3
  have hlen := ho.len
  obtain ⟨U, hU⟩ : ∃ U, i * k = U := ⟨_, rfl⟩
  simp only [hU] at hlt ⊢
  have hik : ((i : Int) * (k : Int)) = (U : Int) := by rw [← hU]; push_cast; rfl
  have wik : IntKind.i64.wrap ((i : Int) * (k : Int)) = (U : Int) := by rw [hik, IntWalk.i64_in _ (by omega)]
  have hUn : U < n := by omega
  obtain ⟨b, off, rfl, hcx⟩ := row_at (h.next hbx) hlt
  obtain ⟨_, hc0, hc1, hc2⟩ := (hx.next hbx).facts
  obtain ⟨_, hd0, hd1, hd2⟩ := (h1x.next hbx).facts
  clear hn ho h hx hbx hi hS h1x hlen hlt hU hik hc0 hc1 hd1 hd2
  go_enter Tryd.func58, Tryd.ntmps58
  go_wp2_with fail
  go_ret
  exact ⟨rfl, Below.refl _ _⟩

set_option maxRecDepth 100000 in
set_option maxHeartbeats 4000000 in
theorem give_compose (k ra rb : Nat) (p p1 : Option Addr) (n c n1 c1 : Nat) (t u : List Int) (bx b1 : Nat) (w : World) (hn : n = t.length) (hn1 : n1 = u.length) (ho : OkR k ra t) (hu : OkR k rb u) (h3 : ra + rb ≤ 3) (h : IntV w.heap.size w p c t) (h' : IntV w.heap.size w p1 c1 u) (hx : Rul3 w bx (.int .i64 (k : Int)) (.int .i64 (ra : Int)) (.slice p n c)) (h1x : Rul3 w b1 (.int .i64 (k : Int)) (.int .i64 (rb : Int)) (.slice p1 n1 c1)) :
    Gives w 56 #[.pointer (some ⟨bx, 0, none⟩), .pointer (some ⟨b1, 0, none⟩)] (k ^ (2 * (ra + rb) + 1)) (fun i => ent t (valW k (imgW k rb u (digW k (2 * (ra + rb) + 1) i)))) := by
  intro i hi wx hbx
  show Calls Tryd.prog 56 #[.int .i64 (i : Int), .pointer (some ⟨bx, 0, none⟩), .pointer (some ⟨b1, 0, none⟩)] wx _
  have h1 := ho.k1
  have h4 := ho.k4
  have hS := pow_le (k := k) (r := ra + rb) h4 h3
  have hi16 : i ≤ 16384 := by omega
  have hk0 : ¬ (k : Int) = 0 := by omega
  have hnS : n1 = k ^ (2 * rb + 1) := by rw [hn1, hu.len]
  have hn0 : 1 ≤ n1 := by rw [hnS]; exact pow_pos h1
  have hni : ¬ (n1 : Int) = 0 := by omega
  obtain ⟨m, hm⟩ : ∃ m, 2 * ra + 1 = m := ⟨_, rfl⟩
  have e1 : IntKind.i64.wrap (2 * (ra : Int)) = 2 * (ra : Int) := by rw [IntWalk.i64_in _ (by omega)]
  have e2 : IntKind.i64.wrap (2 * (ra : Int) + 1) = (m : Int) := by rw [IntWalk.i64_in _ (by omega)]; omega
  have hm7 : m ≤ 7 := by omega
  have hmr : 2 * (ra + rb) + 1 = m + 2 * rb := by omega
  have H := Lib.hid (And.intro hn (And.intro ho (And.intro (h.next hbx) (And.intro (hx.next hbx) (And.intro hm (And.intro hu (And.intro (h'.next hbx) (And.intro (h1x.next hbx) (And.intro hnS hn1)))))))))
  simp only [hmr]
  clear hn ho h hx hm hbx hi hS hn1 hu h' h1x hnS hmr h3
  obtain ⟨_, hc0, hc1, hc2⟩ := H.out.2.2.2.1.facts
  go_enter Tryd.func56, Tryd.ntmps56
  go_wp2_with fail
  clear hc0 hc1 hc2
  go_loopw [0, 5, 6, 11] (fun v0 v6 v7 v12 wr => ∃ j X Z G : Nat, j ≤ m ∧ v12 = .int .i64 (j : Int) ∧ v0 = .int .i64 (X : Int) ∧ v6 = .int .i64 (Z : Int) ∧ v7 = .int .i64 (G : Int) ∧ X ≤ 16384 ∧ Hid (i / k ^ j = X) ∧ Hid (valW k (imgW k rb u (digW k (j + 2 * rb) i)) = Z) ∧ Hid (k ^ j = G) ∧ Below wx.heap.size wx wr) (fun _ _ _ v _ => m - (intOf v).toNat)
  case atStart => exact ⟨0, i, 0, 1, Nat.zero_le _, rfl, rfl, rfl, rfl, hi16, by simp [Hid], by rw [imgW_nil (by rw [digW_length]; omega)]; rfl, rfl, Below.refl _ _⟩
  case round =>
    obtain ⟨j, X, Z, G, hj, rfl, rfl, rfl, rfl, hX, hXj, hZj, hGj, hb⟩ := hrel
    obtain ⟨_, hc0, hc1, hc2⟩ := (H.out.2.2.2.1.next hb).facts
    obtain ⟨_, hd0, hd1, hd2⟩ := (H.out.2.2.2.2.2.2.2.1.next hb).facts
    have hPm := H.out.2.2.2.2.2.1
    by_cases hlt : j < m
    · have hZ1 := img_lt hPm i (j + 1)
      have hst := imgN_step (k := k) (b := rb) u h1 i j
      have hp7 := small_p7 (j := j + 1) h4 (by omega)
      have hp6 := small_p7 (j := j) h4 (by omega)
      rw [← H.out.2.2.2.2.2.2.2.2.1] at hst
      obtain ⟨D, hD⟩ : ∃ D, X % n1 = D := ⟨_, rfl⟩
      obtain ⟨Q, hQ⟩ : ∃ Q, X / k = Q := ⟨_, rfl⟩
      obtain ⟨Y, hY⟩ : ∃ Y, valW k (imgW k rb u (digW k (j + 1 + 2 * rb) i)) = Y := ⟨_, rfl⟩
      have hDn : D < n1 := by rw [← hD]; exact Nat.mod_lt _ hn0
      rw [hXj.out, hZj.out, hY, hD, hGj.out] at hst
      rw [hGj.out] at hp6
      rw [hY] at hZ1
      have hDq : D < u.length := by rw [← H.out.2.2.2.2.2.2.2.2.2]; exact hDn
      obtain ⟨bq, oq, rfl, hcx⟩ := row_at (H.out.2.2.2.2.2.2.1.next hb) hDq
      have heo := ent_ok hPm.ok hDq
      obtain ⟨E, hE⟩ : ∃ E, ent u D = E := ⟨_, rfl⟩
      rw [hE] at hcx heo hst
      obtain ⟨E, rfl⟩ : ∃ E' : Nat, E = (E' : Int) := ⟨E.toNat, by omega⟩
      rw [Int.toNat_natCast] at hst
      obtain ⟨U, hU⟩ : ∃ U, E * G = U := ⟨_, rfl⟩
      have hzk : ((E : Int) * (G : Int)) = (U : Int) := by rw [← hU]; push_cast; rfl
      rw [hU] at hst
      obtain ⟨G2, hG2⟩ : ∃ G2, k ^ (j + 1) = G2 := ⟨_, rfl⟩
      have hGk : ((G : Int) * (k : Int)) = (G2 : Int) := by rw [← hG2, Nat.pow_succ, hGj.out]; push_cast; rfl
      rw [hG2] at hp7 hZ1
      have tD : (X : Int).tmod (n1 : Int) = (D : Int) := by rw [Int.tmod_eq_emod_of_nonneg (by omega), ← hD]; rfl
      have tQ : (X : Int).tdiv (k : Int) = (Q : Int) := by rw [Int.tdiv_eq_ediv_of_nonneg (by omega), ← hQ]; rfl
      have hQX : Q ≤ X := by rw [← hQ]; exact Nat.div_le_self _ _
      have tQ' : IntKind.i64.wrap (Q : Int) = (Q : Int) := by rw [IntWalk.i64_in _ (by omega)]
      have wzk : IntKind.i64.wrap ((E : Int) * (G : Int)) = (U : Int) := by rw [hzk, IntWalk.i64_in _ (by omega)]
      have wuD : IntKind.i64.wrap ((Z : Int) + (U : Int)) = (Y : Int) := by rw [IntWalk.i64_in _ (by omega)]; omega
      have wG : IntKind.i64.wrap ((G : Int) * (k : Int)) = (G2 : Int) := by rw [hGk, IntWalk.i64_in _ (by omega)]
      have hQ2 : i / k ^ (j + 1) = Q := by rw [← div_pow_succ, hXj.out, hQ]
      have HQ := Lib.hid (And.intro hQ2 (And.intro hY (And.intro (hb.drew) (And.intro (show Q ≤ 16384 by omega) hG2))))
      have hd0 : wr.drew.cell? ⟨bx, 0, none⟩ = _ := hc0
      clear hD hQ hY hU hzk hst hZ1 hp7 hp6 hXj hZj hQ2 hb hQX hPm hDq hE hG2 hGk hGj heo
      go_wp2_with fail
      go_region
      go_wp2_with fail
      go_roundw
      case rel => exact ⟨j + 1, Q, Y, G2, by omega, by go_num, rfl, rfl, rfl, HQ.out.2.2.2.1, HQ.out.1, HQ.out.2.1, HQ.out.2.2.2.2, HQ.out.2.2.1⟩
      case measure => simp [intOf]; omega
    · obtain rfl : j = m := by omega
      have hlt2 : Z < t.length := by rw [H.out.2.1.len, H.out.2.2.2.2.1, ← hZj.out]; exact img_lt hPm i j
      obtain ⟨b, off, rfl, hcx⟩ := row_at (H.out.2.2.1.next hb) hlt2
      have hzn : Z < n := by rw [H.out.1]; exact hlt2
      have HF := Lib.hid (And.intro hb hZj)
      clear hb hZj hlt2 hXj hPm hGj
      go_wp2_with fail
      go_ret
      exact ⟨by rw [HF.out.2.out]; rfl, HF.out.1⟩
end Go.Proofs.YtienaogmljlmlaaDoor
end
section
namespace Go.Proofs.YtienaogmljlmlaaDoor
open Go.RowKit Go.Extern.Stop Go.Stop Go.Extern

/-- block b begins a chain: these packages and places, one within another, and then the error of the number -/
def Chn (w : World) (A : Nat → Addr) (b : Nat) (L : List (ByteArray × Int)) (m : Nat) : Prop :=
  ∃ (op : ByteArray) (pl : Int) (bs : List (Nat × ByteArray × Int)), (op, pl) :: bs.map Prod.snd = L ∧ (chainT ((b, op, pl) :: bs) (A m)).lies w
theorem Chn.next {w w' : World} {A : Nat → Addr} {b : Nat} {L : List (ByteArray × Int)} {m : Nat} (hb : Below w.heap.size w w') (h : Chn w A b L m) : Chn w' A b L m := by
  obtain ⟨op, pl, bs, h1, h2⟩ := h
  exact ⟨op, pl, bs, h1, Tree.lies_below hb h2⟩
theorem Chn.one {w : World} {A : Nat → Addr} {b : Nat} {op : ByteArray} {pl : Int} {m : Nat} (h : (Tree.fault b op pl (.leaf (A m))).lies w) : Chn w A b [(op, pl)] m := ⟨op, pl, [], rfl, h⟩
/-- an error, alone -/
def FErr1 (w : World) (A : Nat → Addr) (L : List (ByteArray × Int)) (m : Nat) (e : Ending) (w' : World) : Prop :=
  ∃ b, e = .returned (.iface 79 (.pointer (some ⟨b, 0, none⟩))) ∧ Chn w' A b L m ∧ Below w.heap.size w w'
/-- an error behind a first result -/
def FErr2 (w : World) (A : Nat → Addr) (L : List (ByteArray × Int)) (m : Nat) (u : Value) (e : Ending) (w' : World) : Prop :=
  ∃ b, e = .returned (.tuple #[u, .iface 79 (.pointer (some ⟨b, 0, none⟩))]) ∧ Chn w' A b L m ∧ Below w.heap.size w w'
theorem Err1.chn {w : World} {A : Nat → Addr} {op : ByteArray} {pl : Int} {m : Nat} {e : Ending} {w' : World} (h : Err1 w A op pl m e w') : FErr1 w A [(op, pl)] m e w' := by
  obtain ⟨b, he, hl, hb⟩ := h
  exact ⟨b, he, Chn.one hl, hb⟩
theorem Err2.chn {w : World} {A : Nat → Addr} {op : ByteArray} {pl : Int} {m : Nat} {u : Value} {e : Ending} {w' : World} (h : Err2 w A op pl m u e w') : FErr2 w A [(op, pl)] m u e w' := by
  obtain ⟨b, he, hl, hb⟩ := h
  exact ⟨b, he, Chn.one hl, hb⟩
theorem under_chn (op : ByteArray) (pl : Int) (b : Nat) (L : List (ByteArray × Int)) (m : Nat) (w : World) (A : Nat → Addr) (h : Chn w A b L m) :
    Calls Tryd.prog 47 #[.string op, .int .i64 pl, .iface 79 (.pointer (some ⟨b, 0, none⟩))] w (FErr1 w A ((op, pl) :: L) m) := by
  obtain ⟨op', pl', bs, rfl, hl⟩ := h
  exact (under_any op pl (chainT ((b, op', pl') :: bs) (A m)) w hl rfl).mono fun e w' ⟨he, hb, _, hl'⟩ => ⟨w.heap.size, he, ⟨op, pl, (b, op', pl') :: bs, rfl, hl'⟩, hb⟩
theorem under_none (op : ByteArray) (pl : Int) (w : World) :
    Calls Tryd.prog 47 #[.string op, .int .i64 pl, .nilIface] w (Tells .nilIface w) := Tells.of_same (under_nil op pl w)
end Go.Proofs.YtienaogmljlmlaaDoor
end
section
namespace Go.Proofs.YtienaogmljlmlaaDoor
open Go.RowKit Go.Extern.Stop Go.Stop Go.Extern WordM RuleM NatM

def formsOp : ByteArray := { data := #[102, 111, 114, 109, 115] }
theorem start_rule (w : World) (a b c : Value) : ∀ (w0 : World), w0 = w.alloc (.cells #[a, b, c] 24) → Below w.heap.size w w0 ∧ Rul3 w0 w.heap.size a b c := fun w0 hw0 =>
  ⟨by rw [hw0]; exact (Below.refl _ _).alloc (Nat.le_refl _) _, by rw [hw0]; exact Rul3.new w _ _ _⟩

set_option maxRecDepth 100000 in
set_option maxHeartbeats 4000000 in
theorem fcheck_ok (K R : Nat) (at' : Int) (p : Option Addr) (n c : Nat) (t : List Int) (w : World) (hn : n = t.length) (h : IntV w.heap.size w p c t) (ho : OkR K R t) :
    Calls Tryd.prog 26 #[.agg #[.int .i64 (K : Int), .int .i64 (R : Int), .slice p n c], .int .i64 at'] w (Tells .nilIface w) := by
  have ST := Lib.hid (start_rule w (.int .i64 (K : Int)) (.int .i64 (R : Int)) (.slice p n c))
  have H := Lib.hid (And.intro hn (And.intro h ho))
  clear hn h ho
  go_enter Tryd.func26, Tryd.ntmps26
  go_wp2_with fail
  obtain ⟨w0, hw0⟩ : ∃ w0, w0 = w.alloc (.cells #[.int .i64 (K : Int), .int .i64 (R : Int), .slice p n c] 24) := ⟨_, rfl⟩
  rw [← hw0]
  obtain ⟨hb0, hE0⟩ := ST.out w0 hw0
  obtain ⟨_, hc0, hc1, hc2⟩ := hE0.facts
  have HE := Lib.hid hb0
  clear hw0 hE0 hb0
  go_wp2_with fail
  refine (rcheck_ok K R p n c t w0 H.out.1 (H.out.2.1.next HE.out) H.out.2.2).mono ?_
  rintro e w1 ⟨rfl, hb1⟩
  have H1 := Lib.hid (HE.out.trans (hb1.mono HE.out.size))
  clear hb1 hc0 hc1 hc2
  go_wp2_with fail
  refine (under_none _ _ _).mono ?_
  rintro e w2 ⟨rfl, hb2⟩
  have H2 := Lib.hid (H1.out.trans (hb2.mono H1.out.size))
  clear hb2
  go_wp2_with fail
  go_ret
  exact ⟨rfl, H2.out⟩
set_option maxRecDepth 100000 in
set_option maxHeartbeats 4000000 in
theorem fcheck_bad (k r at' : Int) (p : Option Addr) (n c : Nat) (t : List Int) (w : World) (A : Nat → Addr) (hr : Roots w A) (hn : n = t.length) (h : IntV w.heap.size w p c t) (i : Nat) (hc : chkR k r t = some i) :
    Calls Tryd.prog 26 #[.agg #[.int .i64 k, .int .i64 r, .slice p n c], .int .i64 at'] w (FErr1 w A [(formsOp, at'), (ruleOp, (i : Int))] 1) := by
  have ST := Lib.hid (start_rule w (.int .i64 k) (.int .i64 r) (.slice p n c))
  have H := Lib.hid (And.intro hn (And.intro h (And.intro hr hc)))
  clear hn h hr hc
  go_enter Tryd.func26, Tryd.ntmps26
  go_wp2_with fail
  obtain ⟨w0, hw0⟩ : ∃ w0, w0 = w.alloc (.cells #[.int .i64 k, .int .i64 r, .slice p n c] 24) := ⟨_, rfl⟩
  rw [← hw0]
  obtain ⟨hb0, hE0⟩ := ST.out w0 hw0
  obtain ⟨_, hc0, hc1, hc2⟩ := hE0.facts
  have HE := Lib.hid hb0
  clear hw0 hE0 hb0
  go_wp2_with fail
  refine (rcheck_bad k r p n c t w0 A (H.out.2.2.1.below HE.out) H.out.1 (H.out.2.1.next HE.out) i H.out.2.2.2).mono ?_
  rintro e w1 ⟨b1, rfl, hl1, hb1⟩
  have H1 := Lib.hid (And.intro (HE.out.trans (hb1.mono HE.out.size)) (Chn.one hl1))
  clear hb1 hc0 hc1 hc2 hl1
  go_wp2_with fail
  refine (under_chn formsOp at' b1 _ 1 w1 A H1.out.2).mono ?_
  rintro e w2 ⟨b2, rfl, hl2, hb2⟩
  have H2 := Lib.hid (And.intro (H1.out.1.trans (hb2.mono H1.out.1.size)) hl2)
  clear hb2 hl2
  go_wp2_with fail
  go_ret
  exact ⟨b2, rfl, H2.out.2, H2.out.1⟩

theorem two_rules (w : World) (a b c x y z : Value) (w0 : World) (hw0 : w0 = (w.alloc (.cells #[a, b, c] 24)).alloc (.cells #[x, y, z] 24)) :
    Below w.heap.size w w0 ∧ Rul3 w0 w.heap.size a b c ∧ Rul3 w0 (w.heap.size + 1) x y z := by
  have h1 : Below w.heap.size w (w.alloc (.cells #[a, b, c] 24)) := (Below.refl _ _).alloc (Nat.le_refl _) _
  have h2 : Below (w.alloc (.cells #[a, b, c] 24)).heap.size (w.alloc (.cells #[a, b, c] 24)) w0 := by rw [hw0]; exact (Below.refl _ _).alloc (Nat.le_refl _) _
  have hs : (w.alloc (.cells #[a, b, c] 24)).heap.size = w.heap.size + 1 := by simp
  have h3 : Rul3 w0 (w.alloc (.cells #[a, b, c] 24)).heap.size x y z := by rw [hw0]; exact ⟨heap_newN _ _⟩
  rw [hs] at h3
  exact ⟨h1.trans (h2.mono h1.size), (Rul3.new w a b c).next h2, h3⟩
theorem three_rules (w : World) (a b c x y z x' y' z' : Value) (w0 : World) (hw0 : w0 = ((w.alloc (.cells #[a, b, c] 24)).alloc (.cells #[x, y, z] 24)).alloc (.cells #[x', y', z'] 24)) :
    Below w.heap.size w w0 ∧ Rul3 w0 w.heap.size a b c ∧ Rul3 w0 (w.heap.size + 1) x y z ∧ Rul3 w0 (w.heap.size + 1 + 1) x' y' z' := by
  obtain ⟨w1, hw1⟩ : ∃ w1, w1 = (w.alloc (.cells #[a, b, c] 24)).alloc (.cells #[x, y, z] 24) := ⟨_, rfl⟩
  obtain ⟨h1, h2, h3⟩ := two_rules w a b c x y z w1 hw1
  have hs : w1.heap.size = w.heap.size + 1 + 1 := by rw [hw1]; simp
  rw [← hw1] at hw0
  have h4 : Below w1.heap.size w1 w0 := by rw [hw0]; exact (Below.refl _ _).alloc (Nat.le_refl _) _
  have h5 : Rul3 w0 w1.heap.size x' y' z' := by rw [hw0]; exact ⟨heap_newN _ _⟩
  rw [hs] at h5
  exact ⟨h1.trans (h4.mono h1.size), h2.next h4, h3.next h4, h5⟩
/-- the fault of the first of two rules, or that of the second -/
def chkF2 (k r : Int) (t : List Int) (k' r' : Int) (t' : List Int) : Option (List (ByteArray × Int) × Nat) := match chkR k r t with
  | some i => some ([(formsOp, 0), (ruleOp, (i : Int))], 1)
  | none => (chkR k' r' t').map fun (i : Nat) => ([(formsOp, 1), (ruleOp, (i : Int))], 1)
set_option maxRecDepth 100000 in
set_option maxHeartbeats 4000000 in
theorem fboth_ok (K R K' R' : Nat) (p p' : Option Addr) (n c n' c' : Nat) (t t' : List Int) (w : World) (hn : n = t.length) (hn' : n' = t'.length) (h : IntV w.heap.size w p c t) (h' : IntV w.heap.size w p' c' t') (ho : OkR K R t) (ho' : OkR K' R' t') :
    Calls Tryd.prog 34 #[.agg #[.int .i64 (K : Int), .int .i64 (R : Int), .slice p n c], .agg #[.int .i64 (K' : Int), .int .i64 (R' : Int), .slice p' n' c']] w (Tells .nilIface w) := by
  have ST := Lib.hid (two_rules w (.int .i64 (K : Int)) (.int .i64 (R : Int)) (.slice p n c) (.int .i64 (K' : Int)) (.int .i64 (R' : Int)) (.slice p' n' c'))
  have H := Lib.hid (And.intro hn (And.intro h (And.intro ho (And.intro hn' (And.intro h' ho')))))
  clear hn h ho hn' h' ho'
  go_enter Tryd.func34, Tryd.ntmps34
  go_upto_region 1 with fail
  obtain ⟨w0, hw0⟩ : ∃ w0, w0 = (w.alloc (.cells #[.int .i64 (K : Int), .int .i64 (R : Int), .slice p n c] 24)).alloc (.cells #[.int .i64 (K' : Int), .int .i64 (R' : Int), .slice p' n' c'] 24) := ⟨_, rfl⟩
  rw [← hw0]
  obtain ⟨hb0, hE0, hF0⟩ := ST.out w0 hw0
  obtain ⟨_, hc0, hc1, hc2⟩ := hE0.facts
  have HE := Lib.hid (And.intro hb0 hF0)
  clear hw0 hE0 hb0 hF0
  go_wp2_with fail
  refine (fcheck_ok K R 0 p n c t w0 H.out.1 (H.out.2.1.next HE.out.1) H.out.2.2.1).mono ?_
  rintro e w1 ⟨rfl, hb1⟩
  have H1 := Lib.hid (HE.out.1.trans (hb1.mono HE.out.1.size))
  clear hc0 hc1 hc2
  obtain ⟨_, hc0, hc1, hc2⟩ := (HE.out.2.next hb1).facts
  clear hb1
  go_wp2_with fail
  refine (fcheck_ok K' R' 1 p' n' c' t' w1 H.out.2.2.2.1 (H.out.2.2.2.2.1.next H1.out) H.out.2.2.2.2.2).mono ?_
  rintro e w2 ⟨rfl, hb2⟩
  have H2 := Lib.hid (H1.out.trans (hb2.mono H1.out.size))
  clear hb2 hc0 hc1 hc2
  go_wp2_with fail
  go_ret
  exact ⟨rfl, H2.out⟩
set_option maxRecDepth 100000 in
set_option maxHeartbeats 4000000 in
theorem fboth_bad (k r k' r' : Int) (p p' : Option Addr) (n c n' c' : Nat) (t t' : List Int) (w : World) (A : Nat → Addr) (hr : Roots w A) (hn : n = t.length) (hn' : n' = t'.length) (h : IntV w.heap.size w p c t) (h' : IntV w.heap.size w p' c' t') (L : List (ByteArray × Int)) (m : Nat) (hc : chkF2 k r t k' r' t' = some (L, m)) :
    Calls Tryd.prog 34 #[.agg #[.int .i64 k, .int .i64 r, .slice p n c], .agg #[.int .i64 k', .int .i64 r', .slice p' n' c']] w (FErr1 w A L m) := by
  have ST := Lib.hid (two_rules w (.int .i64 k) (.int .i64 r) (.slice p n c) (.int .i64 k') (.int .i64 r') (.slice p' n' c'))
  unfold chkF2 at hc
  cases hk : chkR k r t with
  | some i =>
    rw [hk] at hc
    obtain ⟨rfl, rfl⟩ := Prod.mk.inj (Option.some.inj hc)
    have H := Lib.hid (And.intro hn (And.intro h (And.intro hk hr)))
    clear hn h hk hr hn' h' hc
    go_enter Tryd.func34, Tryd.ntmps34
    go_upto_region 1 with fail
    obtain ⟨w0, hw0⟩ : ∃ w0, w0 = (w.alloc (.cells #[.int .i64 k, .int .i64 r, .slice p n c] 24)).alloc (.cells #[.int .i64 k', .int .i64 r', .slice p' n' c'] 24) := ⟨_, rfl⟩
    rw [← hw0]
    obtain ⟨hb0, hE0, hF0⟩ := ST.out w0 hw0
    obtain ⟨_, hc0, hc1, hc2⟩ := hE0.facts
    have HE := Lib.hid hb0
    clear hw0 hE0 hb0 hF0
    go_wp2_with fail
    refine (fcheck_bad k r 0 p n c t w0 A (H.out.2.2.2.below HE.out) H.out.1 (H.out.2.1.next HE.out) i H.out.2.2.1).mono ?_
    rintro e w1 ⟨b1, rfl, hl1, hb1⟩
    have H1 := Lib.hid (And.intro (HE.out.trans (hb1.mono HE.out.size)) hl1)
    clear hb1 hl1 hc0 hc1 hc2
    go_wp2_with fail
    go_ret
    exact ⟨b1, rfl, H1.out.2, H1.out.1⟩
  | none =>
    rw [hk] at hc
    obtain ⟨i, hi, hL⟩ := Option.map_eq_some_iff.1 hc
    obtain ⟨rfl, rfl⟩ := Prod.mk.inj hL
    obtain ⟨K, R, rfl, rfl, ho⟩ := chkR_none hk
    have H := Lib.hid (And.intro hn (And.intro h (And.intro ho (And.intro hr (And.intro hn' (And.intro h' hi))))))
    clear hn h hk hr hn' h' hc hi hL ho
    go_enter Tryd.func34, Tryd.ntmps34
    go_upto_region 1 with fail
    obtain ⟨w0, hw0⟩ : ∃ w0, w0 = (w.alloc (.cells #[.int .i64 (K : Int), .int .i64 (R : Int), .slice p n c] 24)).alloc (.cells #[.int .i64 k', .int .i64 r', .slice p' n' c'] 24) := ⟨_, rfl⟩
    rw [← hw0]
    obtain ⟨hb0, hE0, hF0⟩ := ST.out w0 hw0
    obtain ⟨_, hc0, hc1, hc2⟩ := hE0.facts
    have HE := Lib.hid (And.intro hb0 hF0)
    clear hw0 hE0 hb0 hF0
    go_wp2_with fail
    refine (fcheck_ok K R 0 p n c t w0 H.out.1 (H.out.2.1.next HE.out.1) H.out.2.2.1).mono ?_
    rintro e w1 ⟨rfl, hb1⟩
    have H1 := Lib.hid (HE.out.1.trans (hb1.mono HE.out.1.size))
    clear hc0 hc1 hc2
    obtain ⟨_, hc0, hc1, hc2⟩ := (HE.out.2.next hb1).facts
    clear hb1
    go_wp2_with fail
    refine (fcheck_bad k' r' 1 p' n' c' t' w1 A (H.out.2.2.2.1.below H1.out) H.out.2.2.2.2.1 (H.out.2.2.2.2.2.1.next H1.out) i H.out.2.2.2.2.2.2).mono ?_
    rintro e w2 ⟨b2, rfl, hl2, hb2⟩
    have H2 := Lib.hid (And.intro (H1.out.trans (hb2.mono H1.out.size)) hl2)
    clear hb2 hl2 hc0 hc1 hc2
    go_wp2_with fail
    go_ret
    exact ⟨b2, rfl, H2.out.2, H2.out.1⟩
end Go.Proofs.YtienaogmljlmlaaDoor
end
section
namespace Go.Proofs.YtienaogmljlmlaaDoor
open Go.RowKit Go.Extern.Stop Go.Stop Go.Extern WordM RuleM NatM
attribute [local go_sem ↓] Go.wp_at_zero Go.wp_at_succ

theorem TabPost.under {w w0 : World} {K R : Int} {t : List Int} {e : Ending} {w' : World} (hb : Below w.heap.size w w0) (h : TabPost w0 K R t e w') : TabPost w K R t e w' := by
  obtain ⟨p, c, he, ho, hb'⟩ := h
  exact ⟨p, c, he, ho.base hb.size, hb.trans (hb'.mono hb.size)⟩
theorem rule_and_one (w : World) (a b c x y z : Value) (T : TypeId) (v : Value) (w0 : World) (hw0 : w0 = ((w.alloc (.cells #[a, b, c] 24)).alloc (.cells #[x, y, z] 24)).alloc (.cells #[v] T)) :
    Below w.heap.size w w0 ∧ Rul3 w0 w.heap.size a b c ∧ Rul3 w0 (w.heap.size + 1) x y z ∧ One w0 (w.heap.size + 1 + 1) T v := by
  obtain ⟨w1, hw1⟩ : ∃ w1, w1 = (w.alloc (.cells #[a, b, c] 24)).alloc (.cells #[x, y, z] 24) := ⟨_, rfl⟩
  obtain ⟨h1, h2, h3⟩ := two_rules w a b c x y z w1 hw1
  have hs : w1.heap.size = w.heap.size + 1 + 1 := by rw [hw1]; simp
  rw [← hw1] at hw0
  have h4 : Below w1.heap.size w1 w0 := by rw [hw0]; exact (Below.refl _ _).alloc (Nat.le_refl _) _
  have h5 : One w0 w1.heap.size T v := by rw [hw0]; exact One.new _ _ _
  rw [hs] at h5
  exact ⟨h1.trans (h4.mono h1.size), h2.next h4, h3.next h4, h5⟩
set_option maxRecDepth 100000 in
set_option maxHeartbeats 4000000 in
theorem widen_any (K R S : Nat) (p : Option Addr) (n c : Nat) (t : List Int) (w : World) (hn : n = t.length) (h : IntV w.heap.size w p c t) (ho : OkR K R t) (hR : R ≤ S) (h3 : S ≤ 3) :
    Calls Tryd.prog 42 #[.agg #[.int .i64 (K : Int), .int .i64 (R : Int), .slice p n c], .int .i64 (S : Int)] w (TabPost w K S (widT K R t S)) := by
  have ST := Lib.hid (two_rules w (.int .i64 (K : Int)) (.int .i64 (R : Int)) (.slice p n c) (.int .i64 0) (.int .i64 0) (.slice none 0 0))
  have e1 : IntKind.i64.wrap ((S : Int) - (R : Int)) = ((S - R : Nat) : Int) := by rw [IntWalk.i64_in _ (by omega)]; omega
  have hpw := fun W => fpower_any K (S - R) W ho.k4 (by omega)
  obtain ⟨f, hf⟩ : ∃ f, K ^ (S - R) = f := ⟨_, rfl⟩
  obtain ⟨d, hd⟩ : ∃ d, S - R = d := ⟨_, rfl⟩
  rw [hd] at e1
  simp only [hd] at hpw hf
  simp only [hf] at hpw
  have H := Lib.hid (And.intro hn (And.intro h (And.intro ho (And.intro hpw (And.intro h3 (And.intro hf hd))))))
  clear hn h ho hpw hf hd hR h3
  go_enter Tryd.func42, Tryd.ntmps42
  go_upto_region 1 with fail
  obtain ⟨w0, hw0⟩ : ∃ w0, w0 = (w.alloc (.cells #[.int .i64 (K : Int), .int .i64 (R : Int), .slice p n c] 24)).alloc (.cells #[.int .i64 0, .int .i64 0, .slice none 0 0] 24) := ⟨_, rfl⟩
  rw [← hw0]
  obtain ⟨hb0, hE0, hF0⟩ := ST.out w0 hw0
  obtain ⟨_, hc0, hc1, hc2⟩ := hE0.facts
  have HE := Lib.hid (And.intro hb0 (And.intro hE0 hF0))
  clear hw0 hE0 hb0 hF0
  go_wp2_with fail
  refine (H.out.2.2.2.1 w0).mono ?_
  rintro e w1 ⟨rfl, rfl⟩
  go_upto_region 2 with fail
  obtain ⟨w1, hw1⟩ : ∃ w1, w1 = w0.alloc (.cells #[.int .i64 (f : Int)] 3) := ⟨_, rfl⟩
  have hb1 : Below w0.heap.size w0 w1 := by rw [hw1]; exact (Below.refl _ _).alloc (Nat.le_refl _) _
  have hO1 : One w1 w0.heap.size 3 (.int .i64 (f : Int)) := by rw [hw1]; exact One.new _ _ _
  rw [← hw1]
  have hbw := HE.out.1.trans (hb1.mono HE.out.1.size)
  have hE1 := HE.out.2.1.next hb1
  have hF1 := HE.out.2.2.next hb1
  have hg := give_widen K R S f p n c t w.heap.size w0.heap.size w1 H.out.1 H.out.2.2.1 H.out.2.2.2.2.1 (by rw [H.out.2.2.2.2.2.2]; exact H.out.2.2.2.2.2.1.symm) (H.out.2.1.next hbw) hE1 hO1
  have htb := tabulate_any K S 59 #[.pointer (some ⟨w.heap.size, 0, none⟩), .pointer (some ⟨w0.heap.size, 0, none⟩)] w1 _ H.out.2.2.1.k4 H.out.2.2.2.2.1 enter_widen hg
  have htb2 : Calls Tryd.prog 27 #[.int .i64 (K : Int), .int .i64 (S : Int), .func (.func 59) #[] #[.pointer (some ⟨w.heap.size, 0, none⟩), .pointer (some ⟨w0.heap.size, 0, none⟩)]] w1 (TabPost w1 K S (widT K R t S)) := htb
  have H1 := Lib.hid (And.intro htb2 (And.intro hbw hF1))
  clear hc0 hc1 hc2
  obtain ⟨_, hc0, hc1, hc2⟩ := hE1.facts
  obtain ⟨L, hL⟩ : ∃ L, (widT K R t S).length = L := ⟨_, rfl⟩
  have HL := Lib.hid hL
  clear hw1 hb1 hO1 hbw hE1 hF1 hg htb htb2 hL
  go_wp2_with fail
  refine H1.out.1.mono ?_
  rintro e w2 ⟨p2, c2, rfl, ho2, hb2⟩
  rw [HL.out]
  clear hc0 hc1 hc2
  obtain ⟨⟨hf0, hf1, hf2⟩, hc0, hc1, hc2⟩ := (H1.out.2.2.next hb2).facts
  have H2 := Lib.hid (And.intro (ho2.base H1.out.2.2.lt) (H1.out.2.1.trans (hb2.mono H1.out.2.1.size)))
  clear ho2 hb2
  go_wp2_with fail
  refine bodyPost_ret (v := .agg #[.int .i64 (K : Int), .int .i64 (S : Int), .slice p2 L c2]) (by simp [results, Tryd.results42, go_sem, hc0, hc1, hc2]) rfl ⟨p2, c2, by rw [HL.out], ?_, put3_below H2.out.2 (Nat.le_succ _) _ _ _⟩
  exact (H2.out.1.put3 (h := w.heap.size + 1) (Nat.lt_succ_self _) _ _ _).base (by omega)

set_option maxRecDepth 100000 in
set_option maxHeartbeats 4000000 in
theorem compose_any (K a b : Nat) (p p' : Option Addr) (n c n' c' : Nat) (t u : List Int) (w : World) (hn : n = t.length) (hn' : n' = u.length) (h : IntV w.heap.size w p c t) (h' : IntV w.heap.size w p' c' u) (ho : OkR K a t) (hu : OkR K b u) (h3 : a + b ≤ 3) :
    Calls Tryd.prog 35 #[.agg #[.int .i64 (K : Int), .int .i64 (a : Int), .slice p n c], .agg #[.int .i64 (K : Int), .int .i64 (b : Int), .slice p' n' c']] w (TabPost w K ((a + b : Nat) : Int) (cmpT K a b t u)) := by
  have ST := Lib.hid (three_rules w (.int .i64 (K : Int)) (.int .i64 (a : Int)) (.slice p n c) (.int .i64 (K : Int)) (.int .i64 (b : Int)) (.slice p' n' c') (.int .i64 0) (.int .i64 0) (.slice none 0 0))
  obtain ⟨S, hS⟩ : ∃ S, a + b = S := ⟨_, rfl⟩
  have e1 : IntKind.i64.wrap ((a : Int) + (b : Int)) = (S : Int) := by rw [IntWalk.i64_in _ (by omega)]; omega
  have H := Lib.hid (And.intro hn (And.intro h (And.intro ho (And.intro hn' (And.intro h' (And.intro hu (And.intro h3 hS)))))))
  rw [hS]
  clear hn h ho hn' h' hu h3 hS
  go_enter Tryd.func35, Tryd.ntmps35
  go_upto_region 1 with fail
  obtain ⟨w0, hw0⟩ : ∃ w0, w0 = ((w.alloc (.cells #[.int .i64 (K : Int), .int .i64 (a : Int), .slice p n c] 24)).alloc (.cells #[.int .i64 (K : Int), .int .i64 (b : Int), .slice p' n' c'] 24)).alloc (.cells #[.int .i64 0, .int .i64 0, .slice none 0 0] 24) := ⟨_, rfl⟩
  rw [← hw0]
  obtain ⟨hb0, hE0, hG0, hF0⟩ := ST.out w0 hw0
  have hg := give_compose K a b p p' n c n' c' t u w.heap.size (w.heap.size + 1) w0 H.out.1 H.out.2.2.2.1 H.out.2.2.1 H.out.2.2.2.2.2.1 H.out.2.2.2.2.2.2.1 (H.out.2.1.next hb0) (H.out.2.2.2.2.1.next hb0) hE0 hG0
  have htb := tabulate_any K (a + b) 56 #[.pointer (some ⟨w.heap.size, 0, none⟩), .pointer (some ⟨w.heap.size + 1, 0, none⟩)] w0 _ H.out.2.2.1.k4 H.out.2.2.2.2.2.2.1 enter_compose hg
  have htb2 : Calls Tryd.prog 27 #[.int .i64 (K : Int), .int .i64 (S : Int), .func (.func 56) #[] #[.pointer (some ⟨w.heap.size, 0, none⟩), .pointer (some ⟨w.heap.size + 1, 0, none⟩)]] w0 (TabPost w0 K S (cmpT K a b t u)) := by
    rw [← H.out.2.2.2.2.2.2.2]; exact htb
  obtain ⟨_, hc0, hc1, hc2⟩ := hE0.facts
  obtain ⟨_, hd0, hd1, hd2⟩ := hG0.facts
  obtain ⟨L, hL⟩ : ∃ L, (cmpT K a b t u).length = L := ⟨_, rfl⟩
  have HE := Lib.hid (And.intro htb2 (And.intro hb0 (And.intro hF0 hL)))
  clear hw0 hE0 hb0 hF0 hG0 htb htb2 hg hL
  go_wp2_with fail
  refine HE.out.1.mono ?_
  rintro e w2 ⟨p2, c2, rfl, ho2, hb2⟩
  rw [HE.out.2.2.2]
  clear hc0 hc1 hc2 hd0 hd1 hd2
  obtain ⟨⟨hf0, hf1, hf2⟩, hc0, hc1, hc2⟩ := (HE.out.2.2.1.next hb2).facts
  have H2 := Lib.hid (And.intro (ho2.base HE.out.2.2.1.lt) (HE.out.2.1.trans (hb2.mono HE.out.2.1.size)))
  clear ho2 hb2
  go_wp2_with fail
  refine bodyPost_ret (v := .agg #[.int .i64 (K : Int), .int .i64 (S : Int), .slice p2 L c2]) (by simp [results, Tryd.results35, go_sem, hc0, hc1, hc2]) rfl ⟨p2, c2, by rw [HE.out.2.2.2], ?_, put3_below H2.out.2 (by omega) _ _ _⟩
  exact (H2.out.1.put3 (h := w.heap.size + 1 + 1) (Nat.lt_succ_self _) _ _ _).base (by omega)

theorem idT_tab (K : Nat) : tabN (K ^ (2 * 0 + 1)) (fun i => (i : Int)) = idT K := by simp [idT]
theorem identity_any (K : Nat) (w : World) (h4 : K ≤ 4) :
    Calls Tryd.prog 27 #[.int .i64 (K : Int), .int .i64 0, .func (.func 57) #[] #[]] w (TabPost w K 0 (idT K)) := by
  have := tabulate_any K 0 57 #[] w (fun i => (i : Int)) h4 (by omega) enter_repeat (give_repeat _ w)
  rw [idT_tab] at this
  exact this
end Go.Proofs.YtienaogmljlmlaaDoor
end
section
namespace Go.Proofs.YtienaogmljlmlaaDoor
open Go.RowKit Go.Extern.Stop Go.Stop Go.Extern WordM RuleM NatM

theorem pow_half {k r : Nat} {t : List Int} (h : OkR k r t) (q : Nat) (h3 : r * (q + q) ≤ 3) : cmpT k (r * q) (r * q) (powT k r t q) (powT k r t q) = powT k r t (q + q) := (pow_add h q q h3).symm

set_option maxRecDepth 100000 in
set_option maxHeartbeats 4000000 in
theorem repeat_zero (K R : Nat) (p : Option Addr) (n c : Nat) (w : World) (h4 : K ≤ 4) :
    Calls Tryd.prog 36 #[.agg #[.int .i64 (K : Int), .int .i64 (R : Int), .slice p n c], .int .i64 0] w (TabPost w K 0 (idT K)) := by
  have ST := Lib.hid (two_rules w (.int .i64 (K : Int)) (.int .i64 (R : Int)) (.slice p n c) (.int .i64 0) (.int .i64 0) (.slice none 0 0))
  have H := Lib.hid (fun W => identity_any K W h4)
  obtain ⟨L, hL⟩ : ∃ L, (idT K).length = L := ⟨_, rfl⟩
  have HL := Lib.hid hL
  clear hL
  go_enter Tryd.func36, Tryd.ntmps36
  go_upto_region 1 with fail
  obtain ⟨w0, hw0⟩ : ∃ w0, w0 = (w.alloc (.cells #[.int .i64 (K : Int), .int .i64 (R : Int), .slice p n c] 24)).alloc (.cells #[.int .i64 0, .int .i64 0, .slice none 0 0] 24) := ⟨_, rfl⟩
  rw [← hw0]
  obtain ⟨hb0, hE0, hF0⟩ := ST.out w0 hw0
  obtain ⟨_, hc0, hc1, hc2⟩ := hE0.facts
  have HE := Lib.hid (And.intro hb0 hF0)
  clear hw0 hE0 hb0 hF0
  go_wp2_with fail
  refine (H.out w0).mono ?_
  rintro e w2 ⟨p2, c2, rfl, ho2, hb2⟩
  rw [HL.out]
  clear hc0 hc1 hc2
  obtain ⟨⟨hf0, hf1, hf2⟩, hc0, hc1, hc2⟩ := (HE.out.2.next hb2).facts
  have H2 := Lib.hid (And.intro (ho2.base HE.out.2.lt) (HE.out.1.trans (hb2.mono HE.out.1.size)))
  clear ho2 hb2
  go_wp2_with fail
  refine bodyPost_ret (v := .agg #[.int .i64 (K : Int), .int .i64 0, .slice p2 L c2]) (by simp [results, Tryd.results36, go_sem, hc0, hc1, hc2]) rfl ⟨p2, c2, by rw [HL.out], ?_, put3_below H2.out.2 (Nat.le_succ _) _ _ _⟩
  exact (H2.out.1.put3 (h := w.heap.size + 1) (Nat.lt_succ_self _) _ _ _).base (by omega)

set_option maxRecDepth 100000 in
set_option maxHeartbeats 8000000 in
theorem repeat_any (K R : Nat) (p : Option Addr) (n c : Nat) (t : List Int) (hn : n = t.length) (ho : OkR K R t) : ∀ (N : Nat), N ≤ 9223372036854775807 → R * N ≤ 3 → ∀ w : World, IntV w.heap.size w p c t →
    Calls Tryd.prog 36 #[.agg #[.int .i64 (K : Int), .int .i64 (R : Int), .slice p n c], .int .i64 (N : Int)] w (TabPost w K ((R * N : Nat) : Int) (powT K R t N)) := by
  intro N
  induction N using Nat.strongRecOn with
  | _ N ih =>
  intro hN h3 w h
  rcases Nat.eq_zero_or_pos N with rfl | h0
  · exact repeat_zero K R p n c w ho.k4
  obtain ⟨q, hq⟩ : ∃ q, N / 2 = q := ⟨_, rfl⟩
  have hqN : q < N := by omega
  have hmul : R * q + R * q ≤ R * N := by rw [← Nat.mul_add]; exact Nat.mul_le_mul_left _ (by omega)
  have ihq := ih q hqN (by omega) (by omega)
  have hpq := powT_ok ho q (by omega)
  have hph := pow_half ho q (by rw [Nat.mul_add]; omega)
  have hp2 := powT_ok ho (q + q) (by rw [Nat.mul_add]; omega)
  have tQ : (N : Int).tdiv 2 = (q : Int) := by rw [Int.tdiv_eq_ediv_of_nonneg (by omega)]; omega
  have tQ' : IntKind.i64.wrap (q : Int) = (q : Int) := by rw [IntWalk.i64_in _ (by omega)]
  have hN0 : ¬ (N : Int) = 0 := by omega
  obtain ⟨u, hu⟩ : ∃ u, powT K R t q = u := ⟨_, rfl⟩
  obtain ⟨v, hv⟩ : ∃ v, powT K R t (q + q) = v := ⟨_, rfl⟩
  obtain ⟨L, hL⟩ : ∃ L, u.length = L := ⟨_, rfl⟩
  obtain ⟨M, hM⟩ : ∃ M, v.length = M := ⟨_, rfl⟩
  obtain ⟨a, ha⟩ : ∃ a, R * q = a := ⟨_, rfl⟩
  have hR2 : R * (q + q) = a + a := by rw [Nat.mul_add, ha]
  rw [hR2] at hp2
  rw [hu, hv, ha] at hph
  rw [hu, ha] at hpq
  rw [hv] at hp2
  rw [ha] at hmul
  simp only [hu, ha] at ihq
  obtain ⟨b, hb⟩ : ∃ b, a + a = b := ⟨_, rfl⟩
  have hcmp : ∀ (wx : World) (px : Option Addr) (cx : Nat), IntV wx.heap.size wx px cx u → Calls Tryd.prog 35 #[.agg #[.int .i64 (K : Int), .int .i64 (a : Int), .slice px L cx], .agg #[.int .i64 (K : Int), .int .i64 (a : Int), .slice px L cx]] wx (TabPost wx K (b : Int) v) := fun wx px cx hx => by
    have := compose_any K a a px px L cx L cx u u wx hL.symm hL.symm hx hx hpq hpq (by omega)
    rw [hph, hb] at this
    exact this
  rw [hb] at hp2
  have ST := Lib.hid (two_rules w (.int .i64 (K : Int)) (.int .i64 (R : Int)) (.slice p n c) (.int .i64 0) (.int .i64 0) (.slice none 0 0))
  have H := Lib.hid (And.intro hn (And.intro h (And.intro ho (And.intro ihq (And.intro hcmp (And.intro hL hM))))))
  rcases Nat.mod_two_eq_zero_or_one N with hmod | hmod
  · have hNq : q + q = N := by omega
    have hRN : R * N = b := by rw [← hNq, hR2, hb]
    rw [hRN, ← hNq, hv]
    rw [hNq]
    have tM : (N : Int).tmod 2 = 0 := by rw [Int.tmod_eq_emod_of_nonneg (by omega)]; omega
    clear ihq hcmp hpq hph hp2 hN h3 h0 hqN hmul hNq hRN hu hv hL hM ha hR2 hb hmod h ih hq hn ho
    go_enter Tryd.func36, Tryd.ntmps36
    go_upto_region 1 with fail
    obtain ⟨w0, hw0⟩ : ∃ w0, w0 = (w.alloc (.cells #[.int .i64 (K : Int), .int .i64 (R : Int), .slice p n c] 24)).alloc (.cells #[.int .i64 0, .int .i64 0, .slice none 0 0] 24) := ⟨_, rfl⟩
    rw [← hw0]
    obtain ⟨hb0, hE0, hF0⟩ := ST.out w0 hw0
    obtain ⟨_, hc0, hc1, hc2⟩ := hE0.facts
    have HE := Lib.hid (And.intro hb0 hF0)
    clear hw0 hE0 hb0 hF0
    go_wp2_with fail
    refine (H.out.2.2.2.1 w0 (H.out.2.1.next HE.out.1)).mono ?_
    rintro e w1 ⟨p1, c1, rfl, ho1, hb1⟩
    rw [H.out.2.2.2.2.2.1]
    clear hc0 hc1 hc2
    go_upto_region 4 with fail
    obtain ⟨w2, hw2⟩ : ∃ x, x = w1.alloc (.cells #[.int .i64 (K : Int), .int .i64 (a : Int), .slice p1 L c1] 24) := ⟨_, rfl⟩
    obtain ⟨hb2, hE2⟩ := start_rule w1 (.int .i64 (K : Int)) (.int .i64 (a : Int)) (.slice p1 L c1) w2 hw2
    rw [← hw2]
    obtain ⟨_, hc0, hc1, hc2⟩ := hE2.facts
    have h12 := hb1.trans (hb2.mono hb1.size)
    have H2 := Lib.hid (And.intro ((ho1.next hb2).toV) (And.intro (HE.out.1.trans (h12.mono HE.out.1.size)) (HE.out.2.next h12)))
    clear hw2 hb2 hE2 h12 ho1 hb1
    go_wp2_with fail
    refine (H.out.2.2.2.2.1 w2 p1 c1 H2.out.1).mono ?_
    rintro e w3 ⟨p3, c3, rfl, ho3, hb3⟩
    rw [H.out.2.2.2.2.2.2]
    clear hc0 hc1 hc2
    go_upto_region 5 with fail
    obtain ⟨w4, hw4⟩ : ∃ x, x = w3.alloc (.cells #[.int .i64 (K : Int), .int .i64 (b : Int), .slice p3 M c3] 24) := ⟨_, rfl⟩
    obtain ⟨hb4, hE4⟩ := start_rule w3 (.int .i64 (K : Int)) (.int .i64 (b : Int)) (.slice p3 M c3) w4 hw4
    rw [← hw4]
    obtain ⟨_, hc0, hc1, hc2⟩ := hE4.facts
    have h34 := hb3.trans (hb4.mono hb3.size)
    obtain ⟨⟨hf0, hf1, hf2⟩, hd0, hd1, hd2⟩ := (H2.out.2.2.next h34).facts
    have H4 := Lib.hid (And.intro ((ho3.next hb4).base H2.out.2.2.lt) (H2.out.2.1.trans (h34.mono H2.out.2.1.size)))
    clear hw4 hb4 hE4 h34 ho3 hb3
    go_wp2_with fail
    refine bodyPost_ret (v := .agg #[.int .i64 (K : Int), .int .i64 (b : Int), .slice p3 M c3]) (by simp [results, Tryd.results36, go_sem, hd0, hd1, hd2]) rfl ⟨p3, c3, by rw [H.out.2.2.2.2.2.2], ?_, put3_below H4.out.2 (Nat.le_succ _) _ _ _⟩
    exact (H4.out.1.put3 (h := w.heap.size + 1) (Nat.lt_succ_self _) _ _ _).base (by omega)
  · have hNq : q + q + 1 = N := by omega
    obtain ⟨x, hx⟩ : ∃ x, powT K R t N = x := ⟨_, rfl⟩
    obtain ⟨X, hX⟩ : ∃ X, x.length = X := ⟨_, rfl⟩
    obtain ⟨S, hS⟩ : ∃ S, R * N = S := ⟨_, rfl⟩
    have hRN : R + b = S := by rw [← hS, ← hNq, Nat.mul_succ, hR2, hb, Nat.add_comm]
    have hcx : ∀ (wx : World) (px : Option Addr) (cx : Nat), IntV wx.heap.size wx p c t → IntV wx.heap.size wx px cx v → Calls Tryd.prog 35 #[.agg #[.int .i64 (K : Int), .int .i64 (R : Int), .slice p n c], .agg #[.int .i64 (K : Int), .int .i64 (b : Int), .slice px M cx]] wx (TabPost wx K (S : Int) x) := fun wx px cx hx1 hx2 => by
      have := compose_any K R b p px n c M cx t v wx hn hM.symm hx1 hx2 ho hp2 (by omega)
      have e : cmpT K R b t v = x := by rw [← hx, ← hNq, ← hv, ← hb, ← hR2]; rfl
      rw [e, hRN] at this
      exact this
    rw [hS, hx]
    have tM : (N : Int).tmod 2 = 1 := by rw [Int.tmod_eq_emod_of_nonneg (by omega)]; omega
    have HC := Lib.hid (And.intro hcx hX)
    clear ihq hcmp hpq hph hp2 hN h3 h0 hqN hmul hNq hRN hu hv hL hM ha hR2 hb hmod h ih hq hn ho hx hX hS hcx
    go_enter Tryd.func36, Tryd.ntmps36
    go_upto_region 1 with fail
    obtain ⟨w0, hw0⟩ : ∃ w0, w0 = (w.alloc (.cells #[.int .i64 (K : Int), .int .i64 (R : Int), .slice p n c] 24)).alloc (.cells #[.int .i64 0, .int .i64 0, .slice none 0 0] 24) := ⟨_, rfl⟩
    rw [← hw0]
    obtain ⟨hb0, hE0, hF0⟩ := ST.out w0 hw0
    obtain ⟨_, hc0, hc1, hc2⟩ := hE0.facts
    have HE := Lib.hid (And.intro hb0 (And.intro hF0 hE0))
    clear hw0 hE0 hb0 hF0
    go_wp2_with fail
    refine (H.out.2.2.2.1 w0 (H.out.2.1.next HE.out.1)).mono ?_
    rintro e w1 ⟨p1, c1, rfl, ho1, hb1⟩
    rw [H.out.2.2.2.2.2.1]
    clear hc0 hc1 hc2
    go_upto_region 4 with fail
    obtain ⟨w2, hw2⟩ : ∃ x, x = w1.alloc (.cells #[.int .i64 (K : Int), .int .i64 (a : Int), .slice p1 L c1] 24) := ⟨_, rfl⟩
    obtain ⟨hb2, hE2⟩ := start_rule w1 (.int .i64 (K : Int)) (.int .i64 (a : Int)) (.slice p1 L c1) w2 hw2
    rw [← hw2]
    obtain ⟨_, hc0, hc1, hc2⟩ := hE2.facts
    have h12 := hb1.trans (hb2.mono hb1.size)
    have H2 := Lib.hid (And.intro ((ho1.next hb2).toV) (And.intro (HE.out.1.trans (h12.mono HE.out.1.size)) (And.intro (HE.out.2.1.next h12) (HE.out.2.2.next h12))))
    clear hw2 hb2 hE2 h12 ho1 hb1
    go_wp2_with fail
    refine (H.out.2.2.2.2.1 w2 p1 c1 H2.out.1).mono ?_
    rintro e w3 ⟨p3, c3, rfl, ho3, hb3⟩
    rw [H.out.2.2.2.2.2.2]
    clear hc0 hc1 hc2
    go_upto_region 5 with fail
    obtain ⟨w4, hw4⟩ : ∃ x, x = w3.alloc (.cells #[.int .i64 (K : Int), .int .i64 (b : Int), .slice p3 M c3] 24) := ⟨_, rfl⟩
    obtain ⟨hb4, hE4⟩ := start_rule w3 (.int .i64 (K : Int)) (.int .i64 (b : Int)) (.slice p3 M c3) w4 hw4
    rw [← hw4]
    obtain ⟨_, hc0, hc1, hc2⟩ := hE4.facts
    have h34 := hb3.trans (hb4.mono hb3.size)
    obtain ⟨_, hd0, hd1, hd2⟩ := (H2.out.2.2.2.next h34).facts
    have hbw4 := H2.out.2.1.trans (h34.mono H2.out.2.1.size)
    have H4 := Lib.hid (And.intro ((ho3.next hb4).toV) (And.intro hbw4 (And.intro (H2.out.2.2.1.next h34) (H.out.2.1.next hbw4))))
    clear hw4 hb4 hE4 h34 ho3 hb3 hbw4
    go_wp2_with fail
    refine (HC.out.1 w4 p3 c3 H4.out.2.2.2 H4.out.1).mono ?_
    rintro e w5 ⟨p5, c5, rfl, ho5, hb5⟩
    rw [HC.out.2]
    clear hc0 hc1 hc2 hd0 hd1 hd2
    obtain ⟨⟨hf0, hf1, hf2⟩, hd0, hd1, hd2⟩ := (H4.out.2.2.1.next hb5).facts
    have H5 := Lib.hid (And.intro (ho5.base H4.out.2.2.1.lt) (H4.out.2.1.trans (hb5.mono H4.out.2.1.size)))
    clear ho5 hb5
    go_wp2_with fail
    refine bodyPost_ret (v := .agg #[.int .i64 (K : Int), .int .i64 (S : Int), .slice p5 X c5]) (by simp [results, Tryd.results36, go_sem, hd0, hd1, hd2]) rfl ⟨p5, c5, by rw [HC.out.2], ?_, put3_below H5.out.2 (Nat.le_succ _) _ _ _⟩
    exact (H5.out.1.put3 (h := w.heap.size + 1) (Nat.lt_succ_self _) _ _ _).base (by omega)
end Go.Proofs.YtienaogmljlmlaaDoor
end
section
namespace Go.Proofs.YtienaogmljlmlaaDoor
open Go.RowKit Go.Extern.Stop Go.Stop Go.Extern WordM RuleM NatM
attribute [local go_sem ↓] Go.wp_at_zero Go.wp_at_succ

theorem field_table (a b c : Value) (W : World) : (Instr.field 24 (.agg #[a, b, c]) 2).run Tryd.prog W = .ok c W := by kernel_rfl
theorem of_sameI {l k : List Int} (h : sameI l k = true) : l = k := by simpa [sameI] using h
theorem set_block {w : World} {h i : Nat} {cs : Array Value} {T : TypeId} {v : Value} (hh : w.heap[h]? = some (.cells cs T (0, 0))) : (w.setCell ⟨h, i, none⟩ v).heap[h]? = some (.cells (cs.setIfInBounds i v) T (0, 0)) := by
  show (w.heap.modify h _)[h]? = _
  rw [Array.getElem?_modify, if_pos rfl, hh]
  rfl
theorem Rul3.putF {w : World} {h : Nat} {a b c : Value} (k : Rul3 w h a b c) (x y z : Value) : Rul3 (put3 w h x y z) h x y z := ⟨set_block (set_block (set_block k.heap))⟩
/-- what the rounds keep: the least form so far, in its variable -/
structure NarIn (w0 wr : World) (hr hl : Nat) (K R : Nat) (t : List Int) (R' : Nat) (p : Option Addr) (n c : Nat) (T : List Int) : Prop where
  var : Rul3 wr hl (.int .i64 (K : Int)) (.int .i64 (R' : Int)) (.slice p n c)
  len : n = T.length
  own : IntO w0.heap.size wr p c T
  ok : OkR K R' T
  le : R' ≤ R
  wid : widT K R' T R = t
  res : Rul3 wr (hr + 1) (.int .i64 0) (.int .i64 0) (.slice none 0 0)
  arg : ∃ u v, Rul3 wr hr (.int .i64 (K : Int)) u v
  below : Below w0.heap.size w0 wr
def radAt (w : World) (hl : Nat) : Nat := match w.cell? ⟨hl, 1, none⟩ with
  | some v => (intOf v).toNat
  | none => 0
theorem radAt_eq {w : World} {hl K R : Nat} {v : Value} (h : Rul3 w hl (.int .i64 (K : Int)) (.int .i64 (R : Int)) v) : radAt w hl = R := by
  unfold radAt
  rw [h.facts.2.2.1]
  simp [intOf]
/-- the narrow form, new -/
def NarPost (w : World) (K R : Nat) (t : List Int) (e : Ending) (w' : World) : Prop := ∃ s u, NarR K R t s u ∧ TabPost w K (s : Int) u e w'

set_option maxRecDepth 100000 in
set_option maxHeartbeats 8000000 in
theorem narrow_any (K R : Nat) (p : Option Addr) (n c : Nat) (t : List Int) (w : World) (hn : n = t.length) (h : IntV w.heap.size w p c t) (ho : OkR K R t) :
    Calls Tryd.prog 39 #[.agg #[.int .i64 (K : Int), .int .i64 (R : Int), .slice p n c]] w (NarPost w K R t) := by
  have ST := Lib.hid (two_rules w (.int .i64 (K : Int)) (.int .i64 (R : Int)) (.slice p n c) (.int .i64 0) (.int .i64 0) (.slice none 0 0))
  have hwd := fun W hW => widen_any K R R p n c t W hn hW ho (Nat.le_refl _) ho.r3
  rw [wid_self ho] at hwd
  have H := Lib.hid (And.intro hn (And.intro h (And.intro ho hwd)))
  clear hn h ho hwd
  go_enter Tryd.func39, Tryd.ntmps39
  go_upto_region 1 with fail
  obtain ⟨w0, hw0⟩ : ∃ w0, w0 = (w.alloc (.cells #[.int .i64 (K : Int), .int .i64 (R : Int), .slice p n c] 24)).alloc (.cells #[.int .i64 0, .int .i64 0, .slice none 0 0] 24) := ⟨_, rfl⟩
  rw [← hw0]
  obtain ⟨hb0, hE0, hF0⟩ := ST.out w0 hw0
  obtain ⟨_, hc0, hc1, hc2⟩ := hE0.facts
  have HE := Lib.hid (And.intro hb0 (And.intro hE0 hF0))
  clear hw0 hE0 hb0 hF0
  go_wp2_with fail
  refine (H.out.2.2.2 w0 (H.out.2.1.next HE.out.1)).mono ?_
  rintro e w1 ⟨p1, c1, rfl, ho1, hb1⟩
  rw [← H.out.1]
  clear hc0 hc1 hc2
  go_upto_region 2 with fail
  obtain ⟨w2, hw2⟩ : ∃ x, x = w1.alloc (.cells #[.int .i64 (K : Int), .int .i64 (R : Int), .slice p1 n c1] 24) := ⟨_, rfl⟩
  obtain ⟨hb2, hE2⟩ := start_rule w1 (.int .i64 (K : Int)) (.int .i64 (R : Int)) (.slice p1 n c1) w2 hw2
  rw [← hw2]
  have h12 := hb1.trans (hb2.mono hb1.size)
  have hs1 := hb1.size
  obtain ⟨hl, hhl⟩ : ∃ x, w1.heap.size = x := ⟨_, rfl⟩
  rw [hhl] at hE2 hs1 ⊢
  have hN0 : NarIn w0 w2 w.heap.size hl K R t R p1 n c1 t := ⟨hE2, H.out.1, ho1.next hb2, H.out.2.2.1, Nat.le_refl _, wid_self H.out.2.2.1, HE.out.2.2.next h12, ⟨_, _, HE.out.2.1.next h12⟩, h12⟩
  have hl1 := HE.out.2.2.lt
  have HN := Lib.hid (And.intro hN0 (And.intro hl1 (show w.heap.size + 1 < hl by omega)))
  clear hw2 hb2 hE2 h12 ho1 hb1 hhl hN0 hl1
  have h3 := H.out.2.2.1.r3
  go_loopw [10] (fun _ wr => ∃ R' p' n' c' T, NarIn w0 wr w.heap.size hl K R t R' p' n' c' T) (fun _ wr => radAt wr hl)
  case atStart => exact ⟨R, p1, n, c1, t, HN.out.1⟩
  case round =>
    obtain ⟨R', p', n', c', T, hN⟩ := hrel
    have HM := Lib.hid hN
    obtain ⟨_, hc0, hc1, hc2⟩ := hN.var.facts
    rcases Nat.eq_zero_or_pos R' with rfl | hpos
    · obtain ⟨⟨hf0, hf1, hf2⟩, hd0, hd1, hd2⟩ := hN.res.facts
      clear hN
      go_wp2_with fail
      refine bodyPost_ret (v := .agg #[.int .i64 (K : Int), .int .i64 0, .slice p' n' c']) (by simp [results, Tryd.results39, go_sem, hd0, hd1, hd2]) rfl ⟨0, T, nar_step HM.out.ok HM.out.le h3 HM.out.wid (nar_zero HM.out.ok), p', c', by rw [HM.out.len]; rfl, ?_, put3_below (HE.out.1.trans (HM.out.below.mono HE.out.1.size)) (Nat.le_succ _) _ _ _⟩
      exact (HM.out.own.put3 (h := w.heap.size + 1) HN.out.2.1 _ _ _).base HE.out.1.size
    · obtain ⟨r1, rfl⟩ : ∃ r1, R' = r1 + 1 := ⟨R' - 1, by omega⟩
      obtain ⟨u, v, hA⟩ := hN.arg
      obtain ⟨_, hd0, hd1, hd2⟩ := hA.facts
      have e1 : (((r1 + 1 : Nat) : Nat) : Int) = (r1 : Int) + 1 := by omega
      have hvar := hN.var
      rw [e1] at hvar hc1
      have hr3 := hN.le
      have w1' : IntKind.i64.wrap ((r1 : Int) + 1 - 1) = (r1 : Int) := by rw [IntWalk.i64_in _ (by omega)]; omega
      have hpos' : (0 : Int) < (r1 : Int) + 1 := by omega
      have htb := tabulate_any K r1 58 #[.pointer (some ⟨hl, 0, none⟩), .pointer (some ⟨w.heap.size, 0, none⟩)] wr _ hN.ok.k4 (by omega) enter_narrow (give_narrow K r1 p' n' c' T u v hl w.heap.size wr hN.len hN.ok hN.own.toV hvar hA)
      have htb2 : Calls Tryd.prog 27 #[.int .i64 (K : Int), .int .i64 (r1 : Int), .func (.func 58) #[] #[.pointer (some ⟨hl, 0, none⟩), .pointer (some ⟨w.heap.size, 0, none⟩)]] wr (TabPost wr K r1 (innT K r1 T)) := htb
      have HT := Lib.hid htb2
      have hiok := innT_ok hN.ok
      obtain ⟨I, hI⟩ : ∃ I, innT K r1 T = I := ⟨_, rfl⟩
      obtain ⟨L, hL⟩ : ∃ L, I.length = L := ⟨_, rfl⟩
      rw [hI] at hiok
      have HI := Lib.hid (And.intro hI (And.intro hL hiok))
      clear htb htb2 hvar hiok hI hL hN hA hd1 hd2
      go_wp2_with fail
      refine HT.out.mono ?_
      rintro e w3 ⟨p3, c3, rfl, ho3, hb3⟩
      rw [HI.out.1] at ho3 ⊢
      rw [HI.out.2.1]
      clear hc0 hc1 hc2 hd0
      go_upto_region 4 with fail
      obtain ⟨w4, hw4⟩ : ∃ x, x = w3.alloc (.cells #[.int .i64 (K : Int), .int .i64 (r1 : Int), .slice p3 L c3] 24) := ⟨_, rfl⟩
      obtain ⟨hb4, hE4⟩ := start_rule w3 (.int .i64 (K : Int)) (.int .i64 (r1 : Int)) (.slice p3 L c3) w4 hw4
      rw [← hw4]
      obtain ⟨hi, hhi⟩ : ∃ x, w3.heap.size = x := ⟨_, rfl⟩
      have hhb := hb3.size
      rw [hhi] at hE4 hhb ⊢
      have h34 := hb3.trans (hb4.mono hb3.size)
      have hNb := HM.out.below.trans (h34.mono HM.out.below.size)
      have hvar4 := HM.out.var.next h34
      rw [e1] at hvar4
      have hV1 : (IntV w4.heap.size w4 p3 c3 I) := (ho3.next hb4).toV
      have hV2 : (IntV w4.heap.size w4 p' c' T) := (HM.out.own.next h34).toV
      obtain ⟨V, hV⟩ : ∃ V, widT K r1 I (r1 + 1) = V := ⟨_, rfl⟩
      have hVl : V.length = n' := by rw [← hV, HM.out.len, HM.out.ok.len]; exact tabN_length _ _
      have hwd : ∀ wx : World, Below w4.heap.size w4 wx → Calls Tryd.prog 42 #[.agg #[.int .i64 (K : Int), .int .i64 (r1 : Int), .slice p3 L c3], .int .i64 ((r1 : Int) + 1)] wx (fun e w' => ∃ pv cv, e = .returned (.agg #[.int .i64 (K : Int), .int .i64 ((r1 : Int) + 1), .slice pv n' cv]) ∧ IntV w'.heap.size w' pv cv V ∧ Below wx.heap.size wx w') := fun wx hbx => by
        have := widen_any K r1 (r1 + 1) p3 L c3 I wx HI.out.2.1.symm (hV1.next hbx) HI.out.2.2 (by omega) (by omega)
        rw [e1, hV] at this
        refine this.mono ?_
        rintro e w' ⟨pv, cv, rfl, ho, hb⟩
        exact ⟨pv, cv, by rw [hVl], ho.toV, hb⟩
      have hxA : ∀ wx : World, Below w4.heap.size w4 wx → wx.cell? ⟨hl, 1, none⟩ = some (.int .i64 ((r1 : Int) + 1)) ∧ wx.cell? ⟨hl, 2, none⟩ = some (.slice p' n' c') ∧ wx.cell? ⟨hi, 0, none⟩ = some (.int .i64 (K : Int)) ∧ wx.cell? ⟨hi, 1, none⟩ = some (.int .i64 (r1 : Int)) ∧ wx.cell? ⟨hi, 2, none⟩ = some (.slice p3 L c3) := fun wx hbx =>
        ⟨(hvar4.next hbx).facts.2.2.1, (hvar4.next hbx).facts.2.2.2, (hE4.next hbx).facts.2.1, (hE4.next hbx).facts.2.2.1, (hE4.next hbx).facts.2.2.2⟩
      have heq : ∀ (wx : World) (pv : Option Addr) (cv : Nat), Below w4.heap.size w4 wx → IntV wx.heap.size wx pv cv V → Calls Tryd.prog 40 #[.slice pv n' cv, .slice p' n' c'] wx (Tells (.bool (sameI V T)) wx) := fun wx pv cv hbx hv =>
        Quiet.tells (equal_q pv p' n' n' cv c' V T wx hVl.symm HM.out.len (by rw [hVl, HM.out.len]) hv (hV2.next hbx))
      have hown4 := HM.out.own.next h34
      have hres4 : Rul3 w4 (w.heap.size + 1) (.int .i64 0) (.int .i64 0) (.slice none 0 0) ∧ ∃ u v, Rul3 w4 w.heap.size (.int .i64 (K : Int)) u v := ⟨HM.out.res.next h34, by obtain ⟨u', v', hA'⟩ := HM.out.arg; exact ⟨u', v', hA'.next h34⟩⟩
      have hvar5 := HM.out.var.next h34
      have hlr := HM.out.var.lt
      have HV := Lib.hid (And.intro (And.intro (And.intro (And.intro hNb (And.intro hres4 (And.intro hlr hown4))) hvar5) (And.intro hE4 (ho3.next hb4))) (And.intro hV (And.intro hhb (And.intro hwd heq))))
      have hfld := field_table (.int .i64 (K : Int)) (.int .i64 ((r1 : Int) + 1))
      have hd0 : Below w4.heap.size w4 w4.drew := (Below.refl _ _).drew
      clear hw4 hb4 hE4 h34 ho3 hb3 hhi hNb hvar4 hV1 hV2 hV hVl hhb hwd heq hown4 hres4 hvar5 hlr
      cases hsm : sameI V T with
      | true =>
        have HB := Lib.hid hsm
        go_region_held3 (fun w' => w'.cell? ⟨hl, 1, none⟩ = some (.int .i64 ((r1 : Int) + 1)) ∧ w'.cell? ⟨hl, 2, none⟩ = some (.slice p' n' c') ∧ w'.cell? ⟨hi, 0, none⟩ = some (.int .i64 (K : Int)) ∧ w'.cell? ⟨hi, 1, none⟩ = some (.int .i64 (r1 : Int)) ∧ w'.cell? ⟨hi, 2, none⟩ = some (.slice p3 L c3)) (first | exact hxA _ (by assumption) | exact hxA _ (Below.refl _ _) | exact hxA _ hd0 | go_keep) (first
          | (go_at_call 42; refine (HV.out.2.2.2.1 _ (by first | assumption | exact Below.refl _ _)).mono ?_; rintro e wa ⟨pv, cv, rfl, hoa, hba⟩; have hBa : Below w4.heap.size w4 wa := (by first | exact hba | exact hd0.trans (hba.mono hd0.size)))
          | (go_at_call 40; refine (HV.out.2.2.2.2 _ pv cv hBa hoa).mono ?_; rintro e wb ⟨rfl, hbb⟩; rw [HB.out]; have hBb : Below w4.heap.size w4 wb := hBa.trans (hbb.mono hBa.size)))
        all_goals
          have hbx := hBb
          clear hba hbb hBa hoa hxA hd0 hfld
          have hvx := (HV.out.1.2.1.next hbx)
          have hlx := (HV.out.1.1.2.next hbx)
          obtain ⟨⟨hf0, hf1, hf2⟩, _, _, _⟩ := hlx.facts
          obtain ⟨_, hc0, hc1, hc2⟩ := hvx.facts
          have hox := HV.out.1.2.2.next hbx
          have hbw := HV.out.1.1.1.1.trans (hbx.mono HV.out.1.1.1.1.size)
          have hN' : NarIn w0 (put3 wb hl (.int .i64 (K : Int)) (.int .i64 (r1 : Int)) (.slice p3 L c3)) w.heap.size hl K R t r1 p3 L c3 I :=
            ⟨hlx.putF _ _ _, HI.out.2.1.symm, (hox.put3 HV.out.1.1.1.2.2.1 _ _ _).base HM.out.below.size, HI.out.2.2, by omega, by
              have hw := HM.out.wid
              rw [← wid_wid HI.out.2.2 (Nat.le_succ r1) hr3 h3, HV.out.2.1, of_sameI HB.out]; exact hw,
              (HV.out.1.1.1.2.1.1.next hbx).putOther hl (by have := HN.out.2.2; omega) _ _ _,
              (by obtain ⟨u', v', hA'⟩ := HV.out.1.1.1.2.1.2; exact ⟨u', v', (hA'.next hbx).putOther hl (by have := HN.out.2.2; omega) _ _ _⟩),
              put3_below hbw (by have := HN.out.2.1; have := HN.out.2.2; omega) _ _ _⟩
          have HX := Lib.hid (And.intro hN' HM.out.var)
          clear hvx hlx hox hbw hN' hbx hBb
          go_wp2_with fail
          go_roundw
          case rel => exact ⟨r1, p3, L, c3, I, HX.out.1⟩
          case measure =>
            rw [radAt_eq HX.out.2]
            show radAt (put3 wb hl (.int .i64 (K : Int)) (.int .i64 (r1 : Int)) (.slice p3 L c3)) hl < r1 + 1
            rw [radAt_eq HX.out.1.var]
            exact Nat.lt_succ_self _
      | false =>
        have HB := Lib.hid hsm
        go_region_held3 (fun w' => w'.cell? ⟨hl, 1, none⟩ = some (.int .i64 ((r1 : Int) + 1)) ∧ w'.cell? ⟨hl, 2, none⟩ = some (.slice p' n' c') ∧ w'.cell? ⟨hi, 0, none⟩ = some (.int .i64 (K : Int)) ∧ w'.cell? ⟨hi, 1, none⟩ = some (.int .i64 (r1 : Int)) ∧ w'.cell? ⟨hi, 2, none⟩ = some (.slice p3 L c3)) (first | exact hxA _ (by assumption) | exact hxA _ (Below.refl _ _) | exact hxA _ hd0 | go_keep) (first
          | (go_at_call 42; refine (HV.out.2.2.2.1 _ (by first | assumption | exact Below.refl _ _)).mono ?_; rintro e wa ⟨pv, cv, rfl, hoa, hba⟩; have hBa : Below w4.heap.size w4 wa := (by first | exact hba | exact hd0.trans (hba.mono hd0.size)))
          | (go_at_call 40; refine (HV.out.2.2.2.2 _ pv cv hBa hoa).mono ?_; rintro e wb ⟨rfl, hbb⟩; rw [HB.out]; have hBb : Below w4.heap.size w4 wb := hBa.trans (hbb.mono hBa.size)))
        all_goals
          have hbx := hBb
          clear hba hbb hBa hoa hxA hd0 hfld
          have hlx := (HV.out.1.1.2.next hbx)
          rw [e1] at hlx
          obtain ⟨_, hc0, hc1, hc2⟩ := hlx.facts
          obtain ⟨⟨hf0, hf1, hf2⟩, hd0, hd1, hd2⟩ := (HV.out.1.1.1.2.1.1.next hbx).facts
          have hbw := HV.out.1.1.1.1.trans (hbx.mono HV.out.1.1.1.1.size)
          have hne : T ≠ V := fun e => by have := HB.out; rw [e, sameI_self] at this; cases this
          have hst : NarR K (r1 + 1) T (r1 + 1) T := nar_stop HM.out.ok (by rw [HI.out.1, HV.out.2.1]; exact fun e => hne e.symm)
          have hox := HV.out.1.1.1.2.2.2.next hbx
          have HX := Lib.hid (And.intro hbw (And.intro (nar_step HM.out.ok HM.out.le h3 HM.out.wid hst) hox))
          clear hlx hbw hne hst hbx hBb hox
          go_wp2_with fail
          refine bodyPost_ret (v := .agg #[.int .i64 (K : Int), .int .i64 ((r1 : Int) + 1), .slice p' n' c']) (by simp [results, Tryd.results39, go_sem, hd0, hd1, hd2]) rfl ⟨r1 + 1, T, HX.out.2.1, p', c', by rw [HM.out.len, e1], ?_, put3_below (HE.out.1.trans (HX.out.1.mono HE.out.1.size)) (Nat.le_succ _) _ _ _⟩
          exact (HX.out.2.2.put3 (h := w.heap.size + 1) HN.out.2.1 _ _ _).base HE.out.1.size
end Go.Proofs.YtienaogmljlmlaaDoor
end
section
namespace Go.Proofs.YtienaogmljlmlaaDoor
open Go.RowKit Go.Extern.Stop Go.Stop Go.Extern WordM RuleM NatM

/-- a rule, and no error -/
def RuleNew (w : World) (K R : Nat) (t : List Int) (e : Ending) (w' : World) : Prop := RuleOk w K R t e w'
theorem noRule_eq : noRule = .agg #[.int .i64 0, .int .i64 0, .slice none 0 0] := rfl

set_option maxRecDepth 100000 in
set_option maxHeartbeats 4000000 in
theorem fmirror_bad (k r : Int) (p : Option Addr) (n c : Nat) (t : List Int) (w : World) (A : Nat → Addr) (hr : Roots w A) (hn : n = t.length) (h : IntV w.heap.size w p c t) (i : Nat) (hc : chkR k r t = some i) :
    Calls Tryd.prog 9 #[.agg #[.int .i64 k, .int .i64 r, .slice p n c]] w (FErr2 w A [(formsOp, 0), (ruleOp, (i : Int))] 1 noRule) := by
  have ST := Lib.hid (two_rules w (.int .i64 k) (.int .i64 r) (.slice p n c) (.int .i64 0) (.int .i64 0) (.slice none 0 0))
  have H := Lib.hid (And.intro hn (And.intro h (And.intro hr hc)))
  clear hn h hr hc
  go_enter Tryd.func9, Tryd.ntmps9
  go_upto_region 1 with fail
  obtain ⟨w0, hw0⟩ : ∃ w0, w0 = (w.alloc (.cells #[.int .i64 k, .int .i64 r, .slice p n c] 24)).alloc (.cells #[.int .i64 0, .int .i64 0, .slice none 0 0] 24) := ⟨_, rfl⟩
  rw [← hw0]
  obtain ⟨hb0, hE0, hF0⟩ := ST.out w0 hw0
  obtain ⟨_, hc0, hc1, hc2⟩ := hE0.facts
  have HE := Lib.hid (And.intro hb0 hF0)
  clear hw0 hE0 hb0 hF0
  go_wp2_with fail
  refine (fcheck_bad k r 0 p n c t w0 A (H.out.2.2.1.below HE.out.1) H.out.1 (H.out.2.1.next HE.out.1) i H.out.2.2.2).mono ?_
  rintro e w1 ⟨b, rfl, hl1, hb1⟩
  have hE1 := HE.out.2.next hb1
  have H1 := Lib.hid (And.intro (HE.out.1.trans (hb1.mono HE.out.1.size)) (And.intro hl1 (put3_same hE1)))
  clear hc0 hc1 hc2
  obtain ⟨⟨hf0, hf1, hf2⟩, hc0, hc1, hc2⟩ := hE1.facts
  clear hb1 hl1 hE1
  go_wp2_with fail
  refine bodyPost_ret (v := .tuple #[noRule, .iface 79 (.pointer (some ⟨b, 0, none⟩))]) (by simp [results, Tryd.results9, go_sem, hc0, hc1, hc2, noRule]) rfl ⟨b, rfl, ?_, ?_⟩
  · show Chn (put3 w1 (w.heap.size + 1) _ _ _) A b _ 1
    rw [H1.out.2.2]; exact H1.out.2.1
  · show Below _ _ (put3 w1 (w.heap.size + 1) _ _ _)
    rw [H1.out.2.2]; exact H1.out.1

set_option maxRecDepth 100000 in
set_option maxHeartbeats 4000000 in
theorem fmirror_ok (K R : Nat) (p : Option Addr) (n c : Nat) (t : List Int) (w : World) (hn : n = t.length) (h : IntV w.heap.size w p c t) (ho : OkR K R t) :
    Calls Tryd.prog 9 #[.agg #[.int .i64 (K : Int), .int .i64 (R : Int), .slice p n c]] w (RuleOk w K R (mirT K R t)) := by
  have H := Lib.hid (And.intro hn (And.intro h ho))
  obtain ⟨L, hL⟩ : ∃ L, (mirT K R t).length = L := ⟨_, rfl⟩
  have HL := Lib.hid hL
  clear hn h ho hL
  have ST := Lib.hid (two_rules w (.int .i64 (K : Int)) (.int .i64 (R : Int)) (.slice p n c) (.int .i64 0) (.int .i64 0) (.slice none 0 0))
  go_enter Tryd.func9, Tryd.ntmps9
  go_upto_region 1 with fail
  obtain ⟨w0, hw0⟩ : ∃ w0, w0 = (w.alloc (.cells #[.int .i64 (K : Int), .int .i64 (R : Int), .slice p n c] 24)).alloc (.cells #[.int .i64 0, .int .i64 0, .slice none 0 0] 24) := ⟨_, rfl⟩
  rw [← hw0]
  obtain ⟨hb0, hE0, hF0⟩ := ST.out w0 hw0
  obtain ⟨_, hc0, hc1, hc2⟩ := hE0.facts
  have HE := Lib.hid (And.intro hb0 (And.intro hE0 hF0))
  clear hw0 hE0 hb0 hF0
  go_wp2_with fail
  refine (fcheck_ok K R 0 p n c t w0 H.out.1 (H.out.2.1.next HE.out.1) H.out.2.2).mono ?_
  rintro e w1 ⟨rfl, hb1⟩
  have H1 := Lib.hid (And.intro (HE.out.1.trans (hb1.mono HE.out.1.size)) (And.intro (HE.out.2.1.next hb1) (HE.out.2.2.next hb1)))
  clear hc0 hc1 hc2 hb1
  obtain ⟨_, hc0, hc1, hc2⟩ := H1.out.2.1.facts
  have htb := tabulate_any K R 28 #[.pointer (some ⟨w.heap.size, 0, none⟩)] w1 _ H.out.2.2.k4 H.out.2.2.r3 enter_mirror (give_mirror K R p n c t w.heap.size w1 H.out.1 H.out.2.2 (H.out.2.1.next H1.out.1) H1.out.2.1)
  have HT : Hid (Calls Tryd.prog 27 #[.int .i64 (K : Int), .int .i64 (R : Int), .func (.func 28) #[] #[.pointer (some ⟨w.heap.size, 0, none⟩)]] w1 (TabPost w1 K R (mirT K R t))) := htb
  clear htb
  go_wp2_with fail
  refine HT.out.mono ?_
  rintro e w2 ⟨p2, c2, rfl, ho2, hb2⟩
  rw [HL.out]
  clear hc0 hc1 hc2
  obtain ⟨⟨hf0, hf1, hf2⟩, hc0, hc1, hc2⟩ := (H1.out.2.2.next hb2).facts
  have H2 := Lib.hid (And.intro (ho2.base H1.out.2.2.lt) (H1.out.1.trans (hb2.mono H1.out.1.size)))
  clear ho2 hb2
  go_wp2_with fail
  refine bodyPost_ret (v := .tuple #[.agg #[.int .i64 (K : Int), .int .i64 (R : Int), .slice p2 L c2], .nilIface]) (by simp [results, Tryd.results9, go_sem, hc0, hc1, hc2]) rfl ⟨p2, c2, by rw [HL.out], ?_, put3_below H2.out.2 (Nat.le_succ _) _ _ _⟩
  exact (H2.out.1.put3 (h := w.heap.size + 1) (Nat.lt_succ_self _) _ _ _).base (by omega)

set_option maxRecDepth 100000 in
set_option maxHeartbeats 4000000 in
theorem fnarrow_bad (k r : Int) (p : Option Addr) (n c : Nat) (t : List Int) (w : World) (A : Nat → Addr) (hr : Roots w A) (hn : n = t.length) (h : IntV w.heap.size w p c t) (i : Nat) (hc : chkR k r t = some i) :
    Calls Tryd.prog 19 #[.agg #[.int .i64 k, .int .i64 r, .slice p n c]] w (FErr2 w A [(formsOp, 0), (ruleOp, (i : Int))] 1 noRule) := by
  have ST := Lib.hid (two_rules w (.int .i64 k) (.int .i64 r) (.slice p n c) (.int .i64 0) (.int .i64 0) (.slice none 0 0))
  have H := Lib.hid (And.intro hn (And.intro h (And.intro hr hc)))
  clear hn h hr hc
  go_enter Tryd.func19, Tryd.ntmps19
  go_upto_region 1 with fail
  obtain ⟨w0, hw0⟩ : ∃ w0, w0 = (w.alloc (.cells #[.int .i64 k, .int .i64 r, .slice p n c] 24)).alloc (.cells #[.int .i64 0, .int .i64 0, .slice none 0 0] 24) := ⟨_, rfl⟩
  rw [← hw0]
  obtain ⟨hb0, hE0, hF0⟩ := ST.out w0 hw0
  obtain ⟨_, hc0, hc1, hc2⟩ := hE0.facts
  have HE := Lib.hid (And.intro hb0 hF0)
  clear hw0 hE0 hb0 hF0
  go_wp2_with fail
  refine (fcheck_bad k r 0 p n c t w0 A (H.out.2.2.1.below HE.out.1) H.out.1 (H.out.2.1.next HE.out.1) i H.out.2.2.2).mono ?_
  rintro e w1 ⟨b, rfl, hl1, hb1⟩
  have hE1 := HE.out.2.next hb1
  have H1 := Lib.hid (And.intro (HE.out.1.trans (hb1.mono HE.out.1.size)) (And.intro hl1 (put3_same hE1)))
  clear hc0 hc1 hc2
  obtain ⟨⟨hf0, hf1, hf2⟩, hc0, hc1, hc2⟩ := hE1.facts
  clear hb1 hl1 hE1
  go_wp2_with fail
  refine bodyPost_ret (v := .tuple #[noRule, .iface 79 (.pointer (some ⟨b, 0, none⟩))]) (by simp [results, Tryd.results19, go_sem, hc0, hc1, hc2, noRule]) rfl ⟨b, rfl, ?_, ?_⟩
  · show Chn (put3 w1 (w.heap.size + 1) _ _ _) A b _ 1
    rw [H1.out.2.2]; exact H1.out.2.1
  · show Below _ _ (put3 w1 (w.heap.size + 1) _ _ _)
    rw [H1.out.2.2]; exact H1.out.1

/-- the narrow form, and no error -/
def NarOk (w : World) (K R : Nat) (t : List Int) (e : Ending) (w' : World) : Prop := ∃ s u, NarR K R t s u ∧ RuleOk w K s u e w'

set_option maxRecDepth 100000 in
set_option maxHeartbeats 4000000 in
theorem fnarrow_ok (K R : Nat) (p : Option Addr) (n c : Nat) (t : List Int) (w : World) (hn : n = t.length) (h : IntV w.heap.size w p c t) (ho : OkR K R t) :
    Calls Tryd.prog 19 #[.agg #[.int .i64 (K : Int), .int .i64 (R : Int), .slice p n c]] w (NarOk w K R t) := by
  have H := Lib.hid (And.intro hn (And.intro h ho))
  clear hn h ho
  have ST := Lib.hid (two_rules w (.int .i64 (K : Int)) (.int .i64 (R : Int)) (.slice p n c) (.int .i64 0) (.int .i64 0) (.slice none 0 0))
  go_enter Tryd.func19, Tryd.ntmps19
  go_upto_region 1 with fail
  obtain ⟨w0, hw0⟩ : ∃ w0, w0 = (w.alloc (.cells #[.int .i64 (K : Int), .int .i64 (R : Int), .slice p n c] 24)).alloc (.cells #[.int .i64 0, .int .i64 0, .slice none 0 0] 24) := ⟨_, rfl⟩
  rw [← hw0]
  obtain ⟨hb0, hE0, hF0⟩ := ST.out w0 hw0
  obtain ⟨_, hc0, hc1, hc2⟩ := hE0.facts
  have HE := Lib.hid (And.intro hb0 (And.intro hE0 hF0))
  clear hw0 hE0 hb0 hF0
  go_wp2_with fail
  refine (fcheck_ok K R 0 p n c t w0 H.out.1 (H.out.2.1.next HE.out.1) H.out.2.2).mono ?_
  rintro e w1 ⟨rfl, hb1⟩
  have H1 := Lib.hid (And.intro (HE.out.1.trans (hb1.mono HE.out.1.size)) (And.intro (HE.out.2.1.next hb1) (HE.out.2.2.next hb1)))
  clear hc0 hc1 hc2 hb1
  obtain ⟨_, hc0, hc1, hc2⟩ := H1.out.2.1.facts
  go_wp2_with fail
  refine (narrow_any K R p n c t w1 H.out.1 (H.out.2.1.next H1.out.1) H.out.2.2).mono ?_
  rintro e w2 ⟨s, u, hN, p2, c2, rfl, ho2, hb2⟩
  obtain ⟨L, hL⟩ : ∃ L, u.length = L := ⟨_, rfl⟩
  have HL := Lib.hid hL
  have HN := Lib.hid hN
  rw [hL]
  clear hL hN
  clear hc0 hc1 hc2
  obtain ⟨⟨hf0, hf1, hf2⟩, hc0, hc1, hc2⟩ := (H1.out.2.2.next hb2).facts
  have H2 := Lib.hid (And.intro (ho2.base H1.out.2.2.lt) (H1.out.1.trans (hb2.mono H1.out.1.size)))
  clear ho2 hb2
  go_wp2_with fail
  refine bodyPost_ret (v := .tuple #[.agg #[.int .i64 (K : Int), .int .i64 (s : Int), .slice p2 L c2], .nilIface]) (by simp [results, Tryd.results19, go_sem, hc0, hc1, hc2]) rfl ⟨s, u, HN.out, p2, c2, by rw [HL.out], ?_, put3_below H2.out.2 (Nat.le_succ _) _ _ _⟩
  exact (H2.out.1.put3 (h := w.heap.size + 1) (Nat.lt_succ_self _) _ _ _).base (by omega)

set_option maxRecDepth 100000 in
set_option maxHeartbeats 4000000 in
theorem fwiden_bad (k r : Int) (d : Int) (p : Option Addr) (n c : Nat) (t : List Int) (w : World) (A : Nat → Addr) (hr : Roots w A) (hn : n = t.length) (h : IntV w.heap.size w p c t) (i : Nat) (hc : chkR k r t = some i) :
    Calls Tryd.prog 20 #[.agg #[.int .i64 k, .int .i64 r, .slice p n c], .int .i64 d] w (FErr2 w A [(formsOp, 0), (ruleOp, (i : Int))] 1 noRule) := by
  have ST := Lib.hid (two_rules w (.int .i64 k) (.int .i64 r) (.slice p n c) (.int .i64 0) (.int .i64 0) (.slice none 0 0))
  have H := Lib.hid (And.intro hn (And.intro h (And.intro hr hc)))
  clear hn h hr hc
  go_enter Tryd.func20, Tryd.ntmps20
  go_upto_region 1 with fail
  obtain ⟨w0, hw0⟩ : ∃ w0, w0 = (w.alloc (.cells #[.int .i64 k, .int .i64 r, .slice p n c] 24)).alloc (.cells #[.int .i64 0, .int .i64 0, .slice none 0 0] 24) := ⟨_, rfl⟩
  rw [← hw0]
  obtain ⟨hb0, hE0, hF0⟩ := ST.out w0 hw0
  obtain ⟨_, hc0, hc1, hc2⟩ := hE0.facts
  have HE := Lib.hid (And.intro hb0 hF0)
  clear hw0 hE0 hb0 hF0
  go_wp2_with fail
  refine (fcheck_bad k r 0 p n c t w0 A (H.out.2.2.1.below HE.out.1) H.out.1 (H.out.2.1.next HE.out.1) i H.out.2.2.2).mono ?_
  rintro e w1 ⟨b, rfl, hl1, hb1⟩
  have hE1 := HE.out.2.next hb1
  have H1 := Lib.hid (And.intro (HE.out.1.trans (hb1.mono HE.out.1.size)) (And.intro hl1 (put3_same hE1)))
  clear hc0 hc1 hc2
  obtain ⟨⟨hf0, hf1, hf2⟩, hc0, hc1, hc2⟩ := hE1.facts
  clear hb1 hl1 hE1
  go_wp2_with fail
  refine bodyPost_ret (v := .tuple #[noRule, .iface 79 (.pointer (some ⟨b, 0, none⟩))]) (by simp [results, Tryd.results20, go_sem, hc0, hc1, hc2, noRule]) rfl ⟨b, rfl, ?_, ?_⟩
  · show Chn (put3 w1 (w.heap.size + 1) _ _ _) A b _ 1
    rw [H1.out.2.2]; exact H1.out.2.1
  · show Below _ _ (put3 w1 (w.heap.size + 1) _ _ _)
    rw [H1.out.2.2]; exact H1.out.1

set_option maxRecDepth 100000 in
set_option maxHeartbeats 4000000 in
theorem fwiden_ok (K R : Nat) (S : Nat) (p : Option Addr) (n c : Nat) (t : List Int) (w : World) (hn : n = t.length) (h : IntV w.heap.size w p c t) (ho : OkR K R t) (hR : R ≤ S) (h3 : S ≤ 3) :
    Calls Tryd.prog 20 #[.agg #[.int .i64 (K : Int), .int .i64 (R : Int), .slice p n c], .int .i64 (S : Int)] w (RuleOk w K S (widT K R t S)) := by
  have H := Lib.hid (And.intro hn (And.intro h (And.intro ho (And.intro hR h3))))
  obtain ⟨L, hL⟩ : ∃ L, (widT K R t S).length = L := ⟨_, rfl⟩
  have HL := Lib.hid hL
  have i1 : ¬ (S : Int) < (R : Int) := by omega
  have i2 : ¬ (3 : Int) < (S : Int) := by omega
  clear hn h ho hL hR h3
  have ST := Lib.hid (two_rules w (.int .i64 (K : Int)) (.int .i64 (R : Int)) (.slice p n c) (.int .i64 0) (.int .i64 0) (.slice none 0 0))
  go_enter Tryd.func20, Tryd.ntmps20
  go_upto_region 1 with fail
  obtain ⟨w0, hw0⟩ : ∃ w0, w0 = (w.alloc (.cells #[.int .i64 (K : Int), .int .i64 (R : Int), .slice p n c] 24)).alloc (.cells #[.int .i64 0, .int .i64 0, .slice none 0 0] 24) := ⟨_, rfl⟩
  rw [← hw0]
  obtain ⟨hb0, hE0, hF0⟩ := ST.out w0 hw0
  obtain ⟨_, hc0, hc1, hc2⟩ := hE0.facts
  have HE := Lib.hid (And.intro hb0 (And.intro hE0 hF0))
  clear hw0 hE0 hb0 hF0
  go_wp2_with fail
  refine (fcheck_ok K R 0 p n c t w0 H.out.1 (H.out.2.1.next HE.out.1) H.out.2.2.1).mono ?_
  rintro e w1 ⟨rfl, hb1⟩
  have H1 := Lib.hid (And.intro (HE.out.1.trans (hb1.mono HE.out.1.size)) (And.intro (HE.out.2.1.next hb1) (HE.out.2.2.next hb1)))
  clear hc0 hc1 hc2 hb1
  obtain ⟨_, hc0, hc1, hc2⟩ := H1.out.2.1.facts
  go_wp2_with fail
  refine (widen_any K R S p n c t w1 H.out.1 (H.out.2.1.next H1.out.1) H.out.2.2.1 H.out.2.2.2.1 H.out.2.2.2.2).mono ?_
  rintro e w2 ⟨p2, c2, rfl, ho2, hb2⟩
  rw [HL.out]
  clear hc0 hc1 hc2
  obtain ⟨⟨hf0, hf1, hf2⟩, hc0, hc1, hc2⟩ := (H1.out.2.2.next hb2).facts
  have H2 := Lib.hid (And.intro (ho2.base H1.out.2.2.lt) (H1.out.1.trans (hb2.mono H1.out.1.size)))
  clear ho2 hb2
  go_wp2_with fail
  refine bodyPost_ret (v := .tuple #[.agg #[.int .i64 (K : Int), .int .i64 (S : Int), .slice p2 L c2], .nilIface]) (by simp [results, Tryd.results20, go_sem, hc0, hc1, hc2]) rfl ⟨p2, c2, by rw [HL.out], ?_, put3_below H2.out.2 (Nat.le_succ _) _ _ _⟩
  exact (H2.out.1.put3 (h := w.heap.size + 1) (Nat.lt_succ_self _) _ _ _).base (by omega)

set_option maxRecDepth 100000 in
set_option maxHeartbeats 4000000 in
theorem fwiden_arg (K R : Nat) (d : Int) (p : Option Addr) (n c : Nat) (t : List Int) (w : World) (A : Nat → Addr) (hr : Roots w A) (hn : n = t.length) (h : IntV w.heap.size w p c t) (ho : OkR K R t) (hd : d < (R : Int) ∨ 3 < d) :
    Calls Tryd.prog 20 #[.agg #[.int .i64 (K : Int), .int .i64 (R : Int), .slice p n c], .int .i64 d] w (FErr2 w A [(formsOp, 0)] 3 noRule) := by
  have H := Lib.hid (And.intro hn (And.intro h (And.intro ho hr)))
  clear hn h ho hr
  by_cases hlt : d < (R : Int)
  · have ST := Lib.hid (two_rules w (.int .i64 (K : Int)) (.int .i64 (R : Int)) (.slice p n c) (.int .i64 0) (.int .i64 0) (.slice none 0 0))
    go_enter Tryd.func20, Tryd.ntmps20
    go_upto_region 1 with fail
    obtain ⟨w0, hw0⟩ : ∃ w0, w0 = (w.alloc (.cells #[.int .i64 (K : Int), .int .i64 (R : Int), .slice p n c] 24)).alloc (.cells #[.int .i64 0, .int .i64 0, .slice none 0 0] 24) := ⟨_, rfl⟩
    rw [← hw0]
    obtain ⟨hb0, hE0, hF0⟩ := ST.out w0 hw0
    obtain ⟨_, hc0, hc1, hc2⟩ := hE0.facts
    have HE := Lib.hid (And.intro hb0 (And.intro hE0 hF0))
    clear hw0 hE0 hb0 hF0
    go_wp2_with fail
    refine (fcheck_ok K R 0 p n c t w0 H.out.1 (H.out.2.1.next HE.out.1) H.out.2.2.1).mono ?_
    rintro e w1 ⟨rfl, hb1⟩
    have H1 := Lib.hid (And.intro (HE.out.1.trans (hb1.mono HE.out.1.size)) (And.intro (HE.out.2.1.next hb1) (HE.out.2.2.next hb1)))
    clear hc0 hc1 hc2 hb1
    obtain ⟨_, hc0, hc1, hc2⟩ := H1.out.2.1.facts
    go_wp2_with fail
    refine (new_at formsOp 0 3 w1 A (H.out.2.2.2.below H1.out.1) (by omega)).mono ?_
    rintro e w2 ⟨b, rfl, hl2, hb2⟩
    have hE1 := H1.out.2.2.next hb2
    have H2 := Lib.hid (And.intro (H1.out.1.trans (hb2.mono H1.out.1.size)) (And.intro (Chn.one hl2) (put3_same hE1)))
    clear hc0 hc1 hc2
    obtain ⟨⟨hf0, hf1, hf2⟩, hc0, hc1, hc2⟩ := hE1.facts
    clear hb2 hl2 hE1
    go_wp2_with fail
    refine bodyPost_ret (v := .tuple #[noRule, .iface 79 (.pointer (some ⟨b, 0, none⟩))]) (by simp [results, Tryd.results20, go_sem, hc0, hc1, hc2, noRule]) rfl ⟨b, rfl, ?_, ?_⟩
    · show Chn (put3 w2 (w.heap.size + 1) _ _ _) A b _ 3
      rw [H2.out.2.2]; exact H2.out.2.1
    · show Below _ _ (put3 w2 (w.heap.size + 1) _ _ _)
      rw [H2.out.2.2]; exact H2.out.1
  · have hgt : (3 : Int) < d := by omega
    have ST := Lib.hid (two_rules w (.int .i64 (K : Int)) (.int .i64 (R : Int)) (.slice p n c) (.int .i64 0) (.int .i64 0) (.slice none 0 0))
    go_enter Tryd.func20, Tryd.ntmps20
    go_upto_region 1 with fail
    obtain ⟨w0, hw0⟩ : ∃ w0, w0 = (w.alloc (.cells #[.int .i64 (K : Int), .int .i64 (R : Int), .slice p n c] 24)).alloc (.cells #[.int .i64 0, .int .i64 0, .slice none 0 0] 24) := ⟨_, rfl⟩
    rw [← hw0]
    obtain ⟨hb0, hE0, hF0⟩ := ST.out w0 hw0
    obtain ⟨_, hc0, hc1, hc2⟩ := hE0.facts
    have HE := Lib.hid (And.intro hb0 (And.intro hE0 hF0))
    clear hw0 hE0 hb0 hF0
    go_wp2_with fail
    refine (fcheck_ok K R 0 p n c t w0 H.out.1 (H.out.2.1.next HE.out.1) H.out.2.2.1).mono ?_
    rintro e w1 ⟨rfl, hb1⟩
    have H1 := Lib.hid (And.intro (HE.out.1.trans (hb1.mono HE.out.1.size)) (And.intro (HE.out.2.1.next hb1) (HE.out.2.2.next hb1)))
    clear hc0 hc1 hc2 hb1
    obtain ⟨_, hc0, hc1, hc2⟩ := H1.out.2.1.facts
    go_wp2_with fail
    refine (new_at formsOp 0 3 w1 A (H.out.2.2.2.below H1.out.1) (by omega)).mono ?_
    rintro e w2 ⟨b, rfl, hl2, hb2⟩
    have hE1 := H1.out.2.2.next hb2
    have H2 := Lib.hid (And.intro (H1.out.1.trans (hb2.mono H1.out.1.size)) (And.intro (Chn.one hl2) (put3_same hE1)))
    clear hc0 hc1 hc2
    obtain ⟨⟨hf0, hf1, hf2⟩, hc0, hc1, hc2⟩ := hE1.facts
    clear hb2 hl2 hE1
    go_wp2_with fail
    refine bodyPost_ret (v := .tuple #[noRule, .iface 79 (.pointer (some ⟨b, 0, none⟩))]) (by simp [results, Tryd.results20, go_sem, hc0, hc1, hc2, noRule]) rfl ⟨b, rfl, ?_, ?_⟩
    · show Chn (put3 w2 (w.heap.size + 1) _ _ _) A b _ 3
      rw [H2.out.2.2]; exact H2.out.2.1
    · show Below _ _ (put3 w2 (w.heap.size + 1) _ _ _)
      rw [H2.out.2.2]; exact H2.out.1

set_option maxRecDepth 100000 in
set_option maxHeartbeats 4000000 in
theorem fpow_bad (k r : Int) (d : Int) (p : Option Addr) (n c : Nat) (t : List Int) (w : World) (A : Nat → Addr) (hr : Roots w A) (hn : n = t.length) (h : IntV w.heap.size w p c t) (i : Nat) (hc : chkR k r t = some i) :
    Calls Tryd.prog 15 #[.agg #[.int .i64 k, .int .i64 r, .slice p n c], .int .i64 d] w (FErr2 w A [(formsOp, 0), (ruleOp, (i : Int))] 1 noRule) := by
  have ST := Lib.hid (two_rules w (.int .i64 k) (.int .i64 r) (.slice p n c) (.int .i64 0) (.int .i64 0) (.slice none 0 0))
  have H := Lib.hid (And.intro hn (And.intro h (And.intro hr hc)))
  clear hn h hr hc
  go_enter Tryd.func15, Tryd.ntmps15
  go_upto_region 1 with fail
  obtain ⟨w0, hw0⟩ : ∃ w0, w0 = (w.alloc (.cells #[.int .i64 k, .int .i64 r, .slice p n c] 24)).alloc (.cells #[.int .i64 0, .int .i64 0, .slice none 0 0] 24) := ⟨_, rfl⟩
  rw [← hw0]
  obtain ⟨hb0, hE0, hF0⟩ := ST.out w0 hw0
  obtain ⟨_, hc0, hc1, hc2⟩ := hE0.facts
  have HE := Lib.hid (And.intro hb0 hF0)
  clear hw0 hE0 hb0 hF0
  go_wp2_with fail
  refine (fcheck_bad k r 0 p n c t w0 A (H.out.2.2.1.below HE.out.1) H.out.1 (H.out.2.1.next HE.out.1) i H.out.2.2.2).mono ?_
  rintro e w1 ⟨b, rfl, hl1, hb1⟩
  have hE1 := HE.out.2.next hb1
  have H1 := Lib.hid (And.intro (HE.out.1.trans (hb1.mono HE.out.1.size)) (And.intro hl1 (put3_same hE1)))
  clear hc0 hc1 hc2
  obtain ⟨⟨hf0, hf1, hf2⟩, hc0, hc1, hc2⟩ := hE1.facts
  clear hb1 hl1 hE1
  go_wp2_with fail
  refine bodyPost_ret (v := .tuple #[noRule, .iface 79 (.pointer (some ⟨b, 0, none⟩))]) (by simp [results, Tryd.results15, go_sem, hc0, hc1, hc2, noRule]) rfl ⟨b, rfl, ?_, ?_⟩
  · show Chn (put3 w1 (w.heap.size + 1) _ _ _) A b _ 1
    rw [H1.out.2.2]; exact H1.out.2.1
  · show Below _ _ (put3 w1 (w.heap.size + 1) _ _ _)
    rw [H1.out.2.2]; exact H1.out.1

set_option maxRecDepth 100000 in
set_option maxHeartbeats 4000000 in
theorem fpow_arg (K R : Nat) (d : Int) (p : Option Addr) (n c : Nat) (t : List Int) (w : World) (A : Nat → Addr) (hr : Roots w A) (hn : n = t.length) (h : IntV w.heap.size w p c t) (ho : OkR K R t) (hd : d < 0) :
    Calls Tryd.prog 15 #[.agg #[.int .i64 (K : Int), .int .i64 (R : Int), .slice p n c], .int .i64 d] w (FErr2 w A [(formsOp, 0)] 3 noRule) := by
  have H := Lib.hid (And.intro hn (And.intro h (And.intro ho hr)))
  clear hn h ho hr
  have ST := Lib.hid (two_rules w (.int .i64 (K : Int)) (.int .i64 (R : Int)) (.slice p n c) (.int .i64 0) (.int .i64 0) (.slice none 0 0))
  go_enter Tryd.func15, Tryd.ntmps15
  go_upto_region 1 with fail
  obtain ⟨w0, hw0⟩ : ∃ w0, w0 = (w.alloc (.cells #[.int .i64 (K : Int), .int .i64 (R : Int), .slice p n c] 24)).alloc (.cells #[.int .i64 0, .int .i64 0, .slice none 0 0] 24) := ⟨_, rfl⟩
  rw [← hw0]
  obtain ⟨hb0, hE0, hF0⟩ := ST.out w0 hw0
  obtain ⟨_, hc0, hc1, hc2⟩ := hE0.facts
  have HE := Lib.hid (And.intro hb0 (And.intro hE0 hF0))
  clear hw0 hE0 hb0 hF0
  go_wp2_with fail
  refine (fcheck_ok K R 0 p n c t w0 H.out.1 (H.out.2.1.next HE.out.1) H.out.2.2.1).mono ?_
  rintro e w1 ⟨rfl, hb1⟩
  have H1 := Lib.hid (And.intro (HE.out.1.trans (hb1.mono HE.out.1.size)) (And.intro (HE.out.2.1.next hb1) (HE.out.2.2.next hb1)))
  clear hc0 hc1 hc2 hb1
  obtain ⟨_, hc0, hc1, hc2⟩ := H1.out.2.1.facts
  go_wp2_with fail
  refine (new_at formsOp 0 3 w1 A (H.out.2.2.2.below H1.out.1) (by omega)).mono ?_
  rintro e w2 ⟨b, rfl, hl2, hb2⟩
  have hE1 := H1.out.2.2.next hb2
  have H2 := Lib.hid (And.intro (H1.out.1.trans (hb2.mono H1.out.1.size)) (And.intro (Chn.one hl2) (put3_same hE1)))
  clear hc0 hc1 hc2
  obtain ⟨⟨hf0, hf1, hf2⟩, hc0, hc1, hc2⟩ := hE1.facts
  clear hb2 hl2 hE1
  go_wp2_with fail
  refine bodyPost_ret (v := .tuple #[noRule, .iface 79 (.pointer (some ⟨b, 0, none⟩))]) (by simp [results, Tryd.results15, go_sem, hc0, hc1, hc2, noRule]) rfl ⟨b, rfl, ?_, ?_⟩
  · show Chn (put3 w2 (w.heap.size + 1) _ _ _) A b _ 3
    rw [H2.out.2.2]; exact H2.out.2.1
  · show Below _ _ (put3 w2 (w.heap.size + 1) _ _ _)
    rw [H2.out.2.2]; exact H2.out.1

set_option maxRecDepth 100000 in
set_option maxHeartbeats 4000000 in
theorem fpow_big (K R : Nat) (d : Nat) (p : Option Addr) (n c : Nat) (t : List Int) (w : World) (A : Nat → Addr) (hr : Roots w A) (hn : n = t.length) (h : IntV w.heap.size w p c t) (ho : OkR K R t) (hd : 3 < R * d) :
    Calls Tryd.prog 15 #[.agg #[.int .i64 (K : Int), .int .i64 (R : Int), .slice p n c], .int .i64 (d : Int)] w (FErr2 w A [(formsOp, 0)] 4 noRule) := by
  have h3 := ho.r3
  have hR0 : 0 < R := by rcases Nat.eq_zero_or_pos R with rfl | h0 <;> omega
  obtain ⟨Q, hQ⟩ : ∃ Q, 3 / R = Q := ⟨_, rfl⟩
  have hQd : Q < d := by
    rw [← hQ]
    exact (Nat.div_lt_iff_lt_mul hR0).2 (by rw [Nat.mul_comm]; exact hd)
  have i0 : ¬ (d : Int) < 0 := by omega
  have i1 : (0 : Int) < (R : Int) := by omega
  have i3 : ¬ (R : Int) = 0 := by omega
  have tQ : (3 : Int).tdiv (R : Int) = (Q : Int) := by rw [Int.tdiv_eq_ediv_of_nonneg (by omega), ← hQ]; rfl
  have hQ3 : Q ≤ 3 := by rw [← hQ]; exact Nat.div_le_self _ _
  have tQ' : IntKind.i64.wrap (Q : Int) = (Q : Int) := by rw [IntWalk.i64_in _ (by omega)]
  have i2 : (Q : Int) < (d : Int) := by omega
  have H := Lib.hid (And.intro hn (And.intro h (And.intro ho hr)))
  clear hn h ho hr hd hQ hQd h3 hR0 hQ3
  have ST := Lib.hid (two_rules w (.int .i64 (K : Int)) (.int .i64 (R : Int)) (.slice p n c) (.int .i64 0) (.int .i64 0) (.slice none 0 0))
  go_enter Tryd.func15, Tryd.ntmps15
  go_upto_region 1 with fail
  obtain ⟨w0, hw0⟩ : ∃ w0, w0 = (w.alloc (.cells #[.int .i64 (K : Int), .int .i64 (R : Int), .slice p n c] 24)).alloc (.cells #[.int .i64 0, .int .i64 0, .slice none 0 0] 24) := ⟨_, rfl⟩
  rw [← hw0]
  obtain ⟨hb0, hE0, hF0⟩ := ST.out w0 hw0
  obtain ⟨_, hc0, hc1, hc2⟩ := hE0.facts
  have HE := Lib.hid (And.intro hb0 (And.intro hE0 hF0))
  clear hw0 hE0 hb0 hF0
  go_wp2_with fail
  refine (fcheck_ok K R 0 p n c t w0 H.out.1 (H.out.2.1.next HE.out.1) H.out.2.2.1).mono ?_
  rintro e w1 ⟨rfl, hb1⟩
  have H1 := Lib.hid (And.intro (HE.out.1.trans (hb1.mono HE.out.1.size)) (And.intro (HE.out.2.1.next hb1) (HE.out.2.2.next hb1)))
  clear hc0 hc1 hc2 hb1
  obtain ⟨_, hc0, hc1, hc2⟩ := H1.out.2.1.facts
  go_wp2_with fail
  refine (new_at formsOp 0 4 w1 A (H.out.2.2.2.below H1.out.1) (by omega)).mono ?_
  rintro e w2 ⟨b, rfl, hl2, hb2⟩
  have hE1 := H1.out.2.2.next hb2
  have H2 := Lib.hid (And.intro (H1.out.1.trans (hb2.mono H1.out.1.size)) (And.intro (Chn.one hl2) (put3_same hE1)))
  clear hc0 hc1 hc2
  obtain ⟨⟨hf0, hf1, hf2⟩, hc0, hc1, hc2⟩ := hE1.facts
  clear hb2 hl2 hE1
  go_wp2_with fail
  refine bodyPost_ret (v := .tuple #[noRule, .iface 79 (.pointer (some ⟨b, 0, none⟩))]) (by simp [results, Tryd.results15, go_sem, hc0, hc1, hc2, noRule]) rfl ⟨b, rfl, ?_, ?_⟩
  · show Chn (put3 w2 (w.heap.size + 1) _ _ _) A b _ 4
    rw [H2.out.2.2]; exact H2.out.2.1
  · show Below _ _ (put3 w2 (w.heap.size + 1) _ _ _)
    rw [H2.out.2.2]; exact H2.out.1

set_option maxRecDepth 100000 in
set_option maxHeartbeats 4000000 in
theorem fpow_ok (K R : Nat) (d : Nat) (p : Option Addr) (n c : Nat) (t : List Int) (w : World) (hn : n = t.length) (h : IntV w.heap.size w p c t) (ho : OkR K R t) (hd63 : d ≤ 9223372036854775807) (hd : R * d ≤ 3) :
    Calls Tryd.prog 15 #[.agg #[.int .i64 (K : Int), .int .i64 (R : Int), .slice p n c], .int .i64 (d : Int)] w (RuleOk w K (R * d) (powT K R t d)) := by
  have h3 := ho.r3
  have i0 : ¬ (d : Int) < 0 := by omega
  obtain ⟨S, hS⟩ : ∃ S, R * d = S := ⟨_, rfl⟩
  have hrp := fun W hW => repeat_any K R p n c t hn ho d hd63 hd W hW
  rw [hS] at hrp ⊢
  have H := Lib.hid (And.intro hn (And.intro h (And.intro ho hrp)))
  obtain ⟨L, hL⟩ : ∃ L, (powT K R t d).length = L := ⟨_, rfl⟩
  have HL := Lib.hid hL
  rcases Nat.eq_zero_or_pos R with hR0 | hR0
  · subst hR0
    clear hn h ho hrp hL hS hd hd63 h3
    have ST := Lib.hid (two_rules w (.int .i64 (K : Int)) (.int .i64 0) (.slice p n c) (.int .i64 0) (.int .i64 0) (.slice none 0 0))
    go_enter Tryd.func15, Tryd.ntmps15
    go_upto_region 1 with fail
    obtain ⟨w0, hw0⟩ : ∃ w0, w0 = (w.alloc (.cells #[.int .i64 (K : Int), .int .i64 0, .slice p n c] 24)).alloc (.cells #[.int .i64 0, .int .i64 0, .slice none 0 0] 24) := ⟨_, rfl⟩
    rw [← hw0]
    obtain ⟨hb0, hE0, hF0⟩ := ST.out w0 hw0
    obtain ⟨_, hc0, hc1, hc2⟩ := hE0.facts
    have HE := Lib.hid (And.intro hb0 (And.intro hE0 hF0))
    clear hw0 hE0 hb0 hF0
    go_wp2_with fail
    refine (fcheck_ok K 0 0 p n c t w0 H.out.1 (H.out.2.1.next HE.out.1) H.out.2.2.1).mono ?_
    rintro e w1 ⟨rfl, hb1⟩
    have H1 := Lib.hid (And.intro (HE.out.1.trans (hb1.mono HE.out.1.size)) (And.intro (HE.out.2.1.next hb1) (HE.out.2.2.next hb1)))
    clear hc0 hc1 hc2 hb1
    obtain ⟨_, hc0, hc1, hc2⟩ := H1.out.2.1.facts
    go_wp2_with fail
    refine (H.out.2.2.2 w1 (H.out.2.1.next H1.out.1)).mono ?_
    rintro e w2 ⟨p2, c2, rfl, ho2, hb2⟩
    rw [HL.out]
    clear hc0 hc1 hc2
    obtain ⟨⟨hf0, hf1, hf2⟩, hc0, hc1, hc2⟩ := (H1.out.2.2.next hb2).facts
    have H2 := Lib.hid (And.intro (ho2.base H1.out.2.2.lt) (H1.out.1.trans (hb2.mono H1.out.1.size)))
    clear ho2 hb2
    go_wp2_with fail
    refine bodyPost_ret (v := .tuple #[.agg #[.int .i64 (K : Int), .int .i64 (S : Int), .slice p2 L c2], .nilIface]) (by simp [results, Tryd.results15, go_sem, hc0, hc1, hc2]) rfl ⟨p2, c2, by rw [HL.out], ?_, put3_below H2.out.2 (Nat.le_succ _) _ _ _⟩
    exact (H2.out.1.put3 (h := w.heap.size + 1) (Nat.lt_succ_self _) _ _ _).base (by omega)
  · obtain ⟨Q, hQ⟩ : ∃ Q, 3 / R = Q := ⟨_, rfl⟩
    have hQd : d ≤ Q := by
      rw [← hQ]
      exact (Nat.le_div_iff_mul_le hR0).2 (by rw [Nat.mul_comm]; exact hd)
    have i1 : (0 : Int) < (R : Int) := by omega
    have i3 : ¬ (R : Int) = 0 := by omega
    have tQ : (3 : Int).tdiv (R : Int) = (Q : Int) := by rw [Int.tdiv_eq_ediv_of_nonneg (by omega), ← hQ]; rfl
    have hQ3 : Q ≤ 3 := by rw [← hQ]; exact Nat.div_le_self _ _
    have tQ' : IntKind.i64.wrap (Q : Int) = (Q : Int) := by rw [IntWalk.i64_in _ (by omega)]
    have i2 : ¬ (Q : Int) < (d : Int) := by omega
    clear hn h ho hrp hL hS hd hd63 h3 hQ hQd hR0 hQ3
    have ST := Lib.hid (two_rules w (.int .i64 (K : Int)) (.int .i64 (R : Int)) (.slice p n c) (.int .i64 0) (.int .i64 0) (.slice none 0 0))
    go_enter Tryd.func15, Tryd.ntmps15
    go_upto_region 1 with fail
    obtain ⟨w0, hw0⟩ : ∃ w0, w0 = (w.alloc (.cells #[.int .i64 (K : Int), .int .i64 (R : Int), .slice p n c] 24)).alloc (.cells #[.int .i64 0, .int .i64 0, .slice none 0 0] 24) := ⟨_, rfl⟩
    rw [← hw0]
    obtain ⟨hb0, hE0, hF0⟩ := ST.out w0 hw0
    obtain ⟨_, hc0, hc1, hc2⟩ := hE0.facts
    have HE := Lib.hid (And.intro hb0 (And.intro hE0 hF0))
    clear hw0 hE0 hb0 hF0
    go_wp2_with fail
    refine (fcheck_ok K R 0 p n c t w0 H.out.1 (H.out.2.1.next HE.out.1) H.out.2.2.1).mono ?_
    rintro e w1 ⟨rfl, hb1⟩
    have H1 := Lib.hid (And.intro (HE.out.1.trans (hb1.mono HE.out.1.size)) (And.intro (HE.out.2.1.next hb1) (HE.out.2.2.next hb1)))
    clear hc0 hc1 hc2 hb1
    obtain ⟨_, hc0, hc1, hc2⟩ := H1.out.2.1.facts
    go_wp2_with fail
    refine (H.out.2.2.2 w1 (H.out.2.1.next H1.out.1)).mono ?_
    rintro e w2 ⟨p2, c2, rfl, ho2, hb2⟩
    rw [HL.out]
    clear hc0 hc1 hc2
    obtain ⟨⟨hf0, hf1, hf2⟩, hc0, hc1, hc2⟩ := (H1.out.2.2.next hb2).facts
    have H2 := Lib.hid (And.intro (ho2.base H1.out.2.2.lt) (H1.out.1.trans (hb2.mono H1.out.1.size)))
    clear ho2 hb2
    go_wp2_with fail
    refine bodyPost_ret (v := .tuple #[.agg #[.int .i64 (K : Int), .int .i64 (S : Int), .slice p2 L c2], .nilIface]) (by simp [results, Tryd.results15, go_sem, hc0, hc1, hc2]) rfl ⟨p2, c2, by rw [HL.out], ?_, put3_below H2.out.2 (Nat.le_succ _) _ _ _⟩
    exact (H2.out.1.put3 (h := w.heap.size + 1) (Nat.lt_succ_self _) _ _ _).base (by omega)
end Go.Proofs.YtienaogmljlmlaaDoor
end
section
namespace Go.Proofs.YtienaogmljlmlaaDoor.RuleM
open WordM
/-! ### permutations -/
/-- p holds each of the k symbols -/
def permOf (k : Nat) (P : List Int) : Prop := P.length = k ∧ ∀ x : Nat, x < k → (x : Int) ∈ P
theorem perm_range : ∀ (k : Nat) (P : List Int), permOf k P → P.Perm ((List.range k).map fun (x : Nat) => (x : Int))
  | 0, P, h => by
    have := List.eq_nil_of_length_eq_zero h.1
    subst this
    exact List.Perm.nil
  | k + 1, P, h => by
    have hk := h.2 k (Nat.lt_succ_self k)
    have hp := List.perm_cons_erase hk
    have ih := perm_range k (P.erase (k : Int)) ⟨by rw [List.length_erase_of_mem hk, h.1]; rfl, fun x hx => (List.mem_erase_of_ne (by omega)).2 (h.2 x (by omega))⟩
    rw [List.range_succ, List.map_append]
    refine hp.trans ((List.Perm.cons _ ih).trans ?_)
    exact (List.perm_append_singleton _ _).symm
theorem perm_nodup {k : Nat} {P : List Int} (h : permOf k P) : P.Nodup := by
  refine (perm_range k P h).nodup_iff.2 ?_
  refine List.Pairwise.map _ ?_ List.nodup_range
  intro a b hab
  omega
theorem perm_okW {k : Nat} {P : List Int} (h : permOf k P) : okW k P := fun x hx => by
  have := (perm_range k P h).mem_iff.1 hx
  obtain ⟨y, hy, rfl⟩ := List.mem_map.1 this
  have := List.mem_range.1 hy
  omega
/-- the first place of a symbol -/
def fstI (P : List Int) (x : Int) : Nat := P.findIdx (fun y => y == x)
theorem fst_lt {P : List Int} {x : Int} (h : x ∈ P) : fstI P x < P.length := List.findIdx_lt_length_of_exists ⟨x, h, by simp⟩
theorem fst_get {P : List Int} {x : Int} (h : x ∈ P) : ent P (fstI P x) = x := by
  have hl := fst_lt h
  have := List.findIdx_getElem (w := hl) (xs := P) (p := fun y => y == x)
  have e := ent_get hl
  rw [List.getElem?_eq_getElem hl] at e
  have h2 := Option.some.inj e
  rw [← h2]
  show P[List.findIdx (fun y => y == x) P]'hl = x
  simpa using this
theorem fst_no {P : List Int} {x : Int} {j : Nat} (hj : j < fstI P x) : P.getD j 0 ≠ x := by
  have hl : j < P.length := Nat.lt_of_lt_of_le hj List.findIdx_le_length
  have := List.not_of_lt_findIdx hj
  rw [List.getD_eq_getElem?_getD, List.getElem?_eq_getElem hl]
  simpa using this
theorem nodup_get {P : List Int} (h : P.Nodup) {i j : Nat} (hi : i < P.length) (hj : j < P.length) (e : ent P i = ent P j) : i = j := by
  have h1 := ent_get hi
  have h2 := ent_get hj
  rw [List.getElem?_eq_getElem hi] at h1
  rw [List.getElem?_eq_getElem hj] at h2
  have e2 : P[i] = P[j] := (Option.some.inj h1).trans (e.trans (Option.some.inj h2).symm)
  exact (List.getElem_inj h).1 e2
def invL (k : Nat) (P : List Int) : List Int := tabN k fun x => (fstI P x : Int)
theorem perm_inv {k : Nat} {P : List Int} (h : permOf k P) : PermR k P (invL k P) := by
  have hl := h.1
  refine ⟨hl, tabN_length _ _, perm_okW h, tabN_ok fun i hi => ?_, fun x hx => ?_, fun x hx => ?_⟩
  · have := fst_lt (h.2 i hi)
    omega
  · unfold invL
    rw [tabN_ent hx, Int.toNat_natCast, fst_get (h.2 x hx)]
  · have ho := ent_ok (perm_okW h) (i := x) (by omega)
    unfold invL
    rw [tabN_ent (by omega)]
    have hm : ((ent P x).toNat : Int) ∈ P := h.2 _ (by omega)
    have e : (((ent P x).toNat : Nat) : Int) = ent P x := by omega
    rw [e]
    rw [e] at hm
    have := nodup_get (perm_nodup h) (fst_lt hm) (by omega) (fst_get hm)
    rw [this]
theorem perm_of_R {k : Nat} {P q : List Int} (h : PermR k P q) : permOf k P := ⟨h.lp, fun x hx => by
  have ho := ent_ok h.oq (i := x) (by rw [h.lq]; exact hx)
  have := ent_get (t := P) (i := (ent q x).toNat) (by rw [h.lp]; omega)
  rw [h.pq x hx] at this
  exact List.mem_of_getElem? this⟩
theorem permR_unique {k : Nat} {P q q' : List Int} (h : PermR k P q) (g : PermR k P q') : q = q' := by
  rw [← tabN_self h.lq, ← tabN_self g.lq]
  refine tabN_ext fun x hx => ?_
  have o1 := ent_ok h.oq (i := x) (by rw [h.lq]; exact hx)
  have o2 := ent_ok g.oq (i := x) (by rw [g.lq]; exact hx)
  have := nodup_get (perm_nodup (perm_of_R h)) (i := (ent q x).toNat) (j := (ent q' x).toNat) (by rw [h.lp]; omega) (by rw [h.lp]; omega) (by rw [h.pq x hx, g.pq x hx])
  omega
theorem not_perm {k : Nat} {P : List Int} (h : ¬ permOf k P) (hl : P.length = k) : ∃ x : Nat, x < k ∧ (x : Int) ∉ P ∧ ∀ y : Nat, y < x → (y : Int) ∈ P := by
  have : ∃ x : Nat, x < k ∧ (x : Int) ∉ P := by
    rcases Classical.em (∃ x : Nat, x < k ∧ (x : Int) ∉ P) with h1 | h1
    · exact h1
    · exact absurd ⟨hl, fun x hx => by
        rcases Classical.em ((x : Int) ∈ P) with h2 | h2
        · exact h2
        · exact absurd ⟨x, hx, h2⟩ h1⟩ h
  obtain ⟨x, hx, hm⟩ := this
  induction x using Nat.strongRecOn with
  | _ x ih =>
    rcases Classical.em (∀ y : Nat, y < x → (y : Int) ∈ P) with h1 | h1
    · exact ⟨x, hx, hm, h1⟩
    · have : ∃ y : Nat, y < x ∧ (y : Int) ∉ P := by
        rcases Classical.em (∃ y : Nat, y < x ∧ (y : Int) ∉ P) with h2 | h2
        · exact h2
        · exact absurd (fun y hy => by
            rcases Classical.em ((y : Int) ∈ P) with h3 | h3
            · exact h3
            · exact absurd ⟨y, hy, h3⟩ h2) h1
      obtain ⟨y, hy, hym⟩ := this
      exact ih y hy (by omega) hym
end Go.Proofs.YtienaogmljlmlaaDoor.RuleM
end
