/- What the statements of layer 5 share: awake, and image.
append(l, y) in a statement that draws its order: whatever the list, the answer is an own list that reads it with y behind.
Package forms by its contracts, twelfth part: where Compose refuses, in one word.
An argument that is a rule, opened.
An argument that is a list of limbs, opened: it reads a list of numbers below 2^32.
What a longer list gives: api's twelve errors behind three tables of the library; and one world that meets it.
edenraw.Apart: lists that each lie in a block of their own are found apart; nothing below changes.
edenraw.Apart, second part: its walk.
What the statements on new memory share: lists that were lent, lists that were made, one behind the other; edenraw.Apart over them.
edenraw.Apart over lists that were made: what lies in no block of theirs is as it was. -/
import Derived.Test.YtienaogmljlmlaaDoorB5
import Derived.Test.YtienaogmljlmlaaDoorB2
import Derived.Test.YtienaogmljlmlaaDoorB1
import Derived.Deep.AppendLies
import Derived.Lib.SmallJoins
import Derived.ChangeSlices
import Derived.Test.YtienaogmljlmlaaDoorProg
import Derived.WalkKit
import Derived.WalkSmall
import Derived.Deep.LoopGhost
import Derived.Lib.Hide
import Derived.Outline
import Derived.Laws.AppendOwn
import Derived.Laws.MakeOwn
import Derived.Laws.Rows
import Derived.Maps.AppendAt
import Derived.ArgAppend
import Derived.Deep.DeepAppendRoom
import Derived.OwnWalk
import Derived.Test.YtienaogmljlmlaaDoorB3
section
namespace Go.Proofs.YtienaogmljlmlaaDoor
open Go.RowKit Go.Extern.Stop Go.Stop Go.Extern WordM RuleM NatM

def T124 : List Int := [0, 0, 1, 1, 1, 1, 1, 0]
theorem mir110 : mirT 2 1 T110 = T124 := by decide +kernel
def txt124 : ByteArray := { data := #[50, 46, 49, 46, 49, 50, 52] }
theorem code124 : codeR 2 T124 = 124 := by decide +kernel
theorem digits124 : textOf 124 = { data := #[49, 50, 52] } := by
  unfold textOf decL
  rw [if_neg (by decide), D10_of (l := [4, 2, 1]) (by decide) (by decide) (by decide)]
  rfl
theorem itoaB_one (n : Nat) (h : n < 10) : itoaB (n : Int) = ⟨#[UInt8.ofNat (48 + n)]⟩ := by
  unfold itoaB Lib.itoa
  rw [if_neg (by omega), Int.toNat_natCast, Lib.decDigits_one h]
theorem rtext124 : ruleText 2 1 (codeR 2 T124) = txt124 := by
  unfold ruleText
  rw [code124, digits124, itoaB_one 2 (by omega), itoaB_one 1 (by omega)]
  rfl
theorem list124 : (txt124.toList == [50, 46, 49, 46, 49, 50, 52]) = true := by decide +kernel
theorem mirror_110 (p : Option Addr) (c : Nat) (w : World) (h : IntV w.heap.size w p c T110) :
    Calls Tryd.prog 9 #[.agg #[.int .i64 2, .int .i64 1, .slice p 8 c]] w (RuleOk w 2 1 T124) := by
  have := fmirror_ok 2 1 p 8 c T110 w rfl h ok110
  rwa [mir110] at this
theorem ok124 : OkR 2 1 T124 := by have := mirT_ok ok110; rwa [mir110] at this
theorem text_124 (p : Option Addr) (c : Nat) (w : World) (h : IntV w.heap.size w p c T124) :
    Calls Tryd.prog 24 #[.agg #[.int .i64 2, .int .i64 1, .slice p 8 c]] w (Tells (.tuple #[.string txt124, .nilIface]) w) := by
  have := rtext_ok 2 1 p 8 c T124 w rfl h ok124 (by decide) (by rw [code124, digits124]; decide)
  rwa [rtext124] at this
theorem shift_24 (w : World) (A : Nat → Addr) (hr : Roots w A) : Calls Tryd.prog 16 #[.int .i64 2, .int .i64 4] w (FErr2 w A [(formsOp, 0)] 3 noRule) :=
  fshift_bad 2 4 w A hr (by omega)

set_option maxRecDepth 100000 in
set_option maxHeartbeats 8000000 in
theorem awakeF (w : World) (A : Nat → Addr) (hr : Roots w A) : Calls Tryd.prog 7 #[] w (Tells (.bool true) w) := by
  have HR := Lib.hid hr
  have h124 := list124
  clear hr
  go_enter Tryd.func7, Tryd.ntmps7
  go_wp2_with fail
  refine (parse_110 w).mono ?_
  rintro e w1 ⟨p1, c1, rfl, ho1, hb1⟩
  go_upto_region 2 with fail
  obtain ⟨w2, hw2⟩ : ∃ w2, w2 = w1.alloc (.cells #[.int .i64 2, .int .i64 1, .slice p1 8 c1] 24) := ⟨_, rfl⟩
  obtain ⟨hb2, hE2⟩ := start_rule w1 _ _ _ w2 hw2
  rw [← hw2]
  obtain ⟨_, hc0, hc1, hc2⟩ := hE2.facts
  have S2 := Lib.hid (And.intro (hb1.trans (hb2.mono hb1.size)) (ho1.next hb2).toV)
  clear hw2 hb2 hE2 ho1 hb1
  go_wp2_with fail
  refine (mirror_110 p1 c1 w2 S2.out.2).mono ?_
  rintro e w3 ⟨p3, c3, rfl, ho3, hb3⟩
  rw [show T124.length = 8 from rfl]
  clear hc0 hc1 hc2
  go_upto_region 3 with fail
  obtain ⟨w4, hw4⟩ : ∃ x, x = w3.alloc (.cells #[.int .i64 2, .int .i64 1, .slice p3 8 c3] 24) := ⟨_, rfl⟩
  obtain ⟨hb4, hE4⟩ := start_rule w3 (.int .i64 2) (.int .i64 1) (.slice p3 8 c3) w4 hw4
  first
    | rw [← hw4]
    | (have hraw : w3.alloc (.cells #[.int .i64 ((2 : Nat) : Int), .int .i64 ((1 : Nat) : Int), .slice p3 8 c3] 24) = w4 := hw4.symm
       rw [hraw])
  obtain ⟨_, hc0, hc1, hc2⟩ := hE4.facts
  have h34 := hb3.trans (hb4.mono hb3.size)
  have S4 := Lib.hid (And.intro (S2.out.1.trans (h34.mono S2.out.1.size)) (ho3.next hb4).toV)
  clear hw4 hb4 hE4 ho3 hb3 h34
  go_wp2_with fail
  refine (text_124 p3 c3 w4 S4.out.2).mono ?_
  rintro e w5 ⟨rfl, hb5⟩
  have S5 := Lib.hid (S4.out.1.trans (hb5.mono S4.out.1.size))
  clear hb5 hc0 hc1 hc2
  go_wp2_with fail
  refine (shift_24 w5 A (HR.out.below S5.out)).mono ?_
  rintro e w6 ⟨b6, rfl, _, hb6⟩
  rw [noRule_eq]
  go_upto_region 5 with fail
  obtain ⟨w7, hw7⟩ : ∃ x, x = w6.alloc (.cells #[.int .i64 0, .int .i64 0, .slice none 0 0] 24) := ⟨_, rfl⟩
  obtain ⟨hb7, _⟩ := start_rule w6 _ _ _ w7 hw7
  rw [← hw7]
  have h67 := hb6.trans (hb7.mono hb6.size)
  have S7 := Lib.hid (S5.out.trans (h67.mono S5.out.size))
  clear hw7 hb7 hb6 h67
  go_wp2_with fail
  go_ret
  exact ⟨rfl, S7.out⟩

/-- what image tells: the image, or nothing -/
def ImgPost (w : World) (l : List Int) (ok : Bool) (e : Ending) (w' : World) : Prop :=
  ∃ p c, e = .returned (.tuple #[.slice p l.length c, .bool ok]) ∧ IntO w.heap.size w' p c l ∧ Below w.heap.size w w'
set_option maxRecDepth 100000 in
set_option maxHeartbeats 4000000 in
theorem image_ok (K R : Nat) (p q : Option Addr) (n c m d : Nat) (t l : List Int) (w : World) (hn : n = t.length) (hm : m = l.length) (h : IntV w.heap.size w p c t) (hl : IntV w.heap.size w q d l) (ho : OkR K R t) (hm4 : l.length ≤ 4096) (hw : okW K l) :
    Calls Tryd.prog 8 #[.agg #[.int .i64 (K : Int), .int .i64 (R : Int), .slice p n c], .slice q m d] w (ImgPost w (imgW K R t l) true) := by
  have ST := Lib.hid (start_rule w (.int .i64 (K : Int)) (.int .i64 (R : Int)) (.slice p n c))
  have hst := fun W hW hW' => step_ok (K : Int) (R : Int) p q n c m d t l W hn hm hW hW' (chkT_ok ho hm4 hw)
  simp only [Int.toNat_natCast] at hst
  obtain ⟨I, hI⟩ : ∃ I, imgW K R t l = I := ⟨_, rfl⟩
  obtain ⟨L, hL⟩ : ∃ L, I.length = L := ⟨_, rfl⟩
  simp only [hI] at hst ⊢
  have H := Lib.hid (And.intro h (And.intro hl (And.intro hst hL)))
  clear hn hm h hl ho hm4 hw hst hI hL
  go_enter Tryd.func8, Tryd.ntmps8
  go_wp2_with fail
  obtain ⟨w0, hw0⟩ : ∃ w0, w0 = w.alloc (.cells #[.int .i64 (K : Int), .int .i64 (R : Int), .slice p n c] 24) := ⟨_, rfl⟩
  rw [← hw0]
  obtain ⟨hb0, hE0⟩ := ST.out w0 hw0
  obtain ⟨_, hc0, hc1, hc2⟩ := hE0.facts
  have HE := Lib.hid hb0
  clear hw0 hE0 hb0
  go_wp2_with fail
  refine (H.out.2.2.1 w0 (H.out.1.next HE.out) (H.out.2.1.next HE.out)).mono ?_
  rintro e w1 ⟨p1, c1, rfl, ho1, hb1⟩
  rw [H.out.2.2.2]
  have H1 := Lib.hid (And.intro (ho1.base HE.out.size) (HE.out.trans (hb1.mono HE.out.size)))
  clear hc0 hc1 hc2 ho1 hb1
  go_wp2_with fail
  go_region
  go_wp2_with fail
  go_ret2
  exact ⟨p1, c1, by rw [H.out.2.2.2]; rfl, H1.out.1, H1.out.2.drew⟩
set_option maxRecDepth 100000 in
set_option maxHeartbeats 4000000 in
theorem image_bad (k r : Int) (p q : Option Addr) (n c m d : Nat) (t l : List Int) (w : World) (A : Nat → Addr) (hr : Roots w A) (hn : n = t.length) (hm : m = l.length) (h : IntV w.heap.size w p c t) (hl : IntV w.heap.size w q d l) (i a : Nat) (hc : chkT k r t l = some (i, a)) :
    Calls Tryd.prog 8 #[.agg #[.int .i64 k, .int .i64 r, .slice p n c], .slice q m d] w (ImgPost w [] false) := by
  have ST := Lib.hid (start_rule w (.int .i64 k) (.int .i64 r) (.slice p n c))
  have hst := fun W hR hW hW' => step_bad k r p q n c m d t l W A hR hn hm hW hW' i a hc
  have H := Lib.hid (And.intro h (And.intro hl (And.intro hst hr)))
  clear hn hm h hl hst hr hc
  go_enter Tryd.func8, Tryd.ntmps8
  go_wp2_with fail
  obtain ⟨w0, hw0⟩ : ∃ w0, w0 = w.alloc (.cells #[.int .i64 k, .int .i64 r, .slice p n c] 24) := ⟨_, rfl⟩
  rw [← hw0]
  obtain ⟨hb0, hE0⟩ := ST.out w0 hw0
  obtain ⟨_, hc0, hc1, hc2⟩ := hE0.facts
  have HE := Lib.hid hb0
  clear hw0 hE0 hb0
  go_wp2_with fail
  refine (H.out.2.2.1 w0 (H.out.2.2.2.below HE.out) (H.out.1.next HE.out) (H.out.2.1.next HE.out)).mono ?_
  rintro e w1 ⟨b1, rfl, _, hb1⟩
  have H1 := Lib.hid (HE.out.trans (hb1.mono HE.out.size))
  clear hc0 hc1 hc2 hb1
  go_wp2_with fail
  go_region
  go_wp2_with fail
  go_ret2
  exact ⟨none, 0, rfl, IntO.nothing _ _, H1.out.drew⟩
end Go.Proofs.YtienaogmljlmlaaDoor
end
section
namespace Go.Proofs.YtienaogmljlmlaaDoor
open Go.RowKit Go

theorem wp_pushI {o : Oper} {a : Act} {K : Act → World → Prop} {Q : Exit → Act → World → Prop} {w : World} (s x : Operand)
    (ho : o.op = .call { callee := .builtin .append, args := #[s, x], argTypes := #[22, 22] }) (base : Nat) (p : Option Addr) (n c : Nat) (l : List Int) (hs : a.eval s = .slice p n c) (hn : n = l.length) (h : IntO base w p c l) (hB : base ≤ w.heap.size)
    (B : Nat) (y : Int) (hx : a.eval x = .slice (some ⟨B, 0, none⟩) 1 1) (hb : w.heap[B]? = some (.cells #[.int .i64 y] 3 (0, 0))) (hl : l.length ≤ 1000000)
    (hK : ∀ p' c' w', IntO base w' p' c' (l ++ [y]) → Below base w w' → K (a.put o.dst (.slice p' (n + 1) c')) w') : o.wp Tryd.prog a w K Q := by
  obtain ⟨i0, hi, hz0, hz1, hz2⟩ := info_parts infoI
  subst hn
  refine wp_append_lies w s x 22 ho base 3 i0 (.int .i64 0) 1 8 Tryd.underlying22 hi hz0 hz1 hz2 rfl (by decide) _ l.length (cI l) hs h ⟨B, 0, none⟩ 1 1 [.int .i64 y] hx (by simp) (World.news_of_block hb) (by simp [Value.oneCell']) (by omega) (by unfold maxLen; omega) (by omega) hB w.heap.size rfl ?_
  intro g cap w' hown hgrow _ _
  have hxs : cI l ++ [Value.int .i64 y] = cI (l ++ [y]) := by rw [cI_app]; rfl
  rw [hxs] at hown
  have hown2 : w'.ownsRow base 3 1 (.slice (some ⟨g, 0, none⟩) (l.length + 1) cap) (l ++ [y]).length (cI (l ++ [y])) := by rw [List.length_append]; exact hown
  obtain ⟨p', c', he, ho'⟩ := IntO.slice_own hown2
  rw [List.length_append] at he
  rw [he]
  exact hK p' c' w' ho' ((Below.refl _ _).grown hgrow hB (fun j hj => (World.ownsRow.lt h j hj).1))
theorem step_pushI {ops : Array Oper} {o : Oper} {a : Act} {K : Act → World → Prop} {Q : Exit → Act → World → Prop} {E : Prop} {w : World} (hgd : o.guard = none) (s x : Operand)
    (ho : o.op = .call { callee := .builtin .append, args := #[s, x], argTypes := #[22, 22] }) (base : Nat) (p : Option Addr) (n c : Nat) (l : List Int) (hs : a.eval s = .slice p n c) (hn : n = l.length) (h : IntO base w p c l) (hB : base ≤ w.heap.size)
    (B : Nat) (y : Int) (hx : a.eval x = .slice (some ⟨B, 0, none⟩) 1 1) (hb : w.heap[B]? = some (.cells #[.int .i64 y] 3 (0, 0))) (hl : l.length ≤ 1000000)
    (hK : ∀ p' c' w', IntO base w' p' c' (l ++ [y]) → Below base w w' → K (a.put o.dst (.slice p' (n + 1) c')) w') :
    if Region.wanted o (yielded ops a.tmps) = true then Oper.wp Tryd.prog o a w K Q else E := by
  have hw : Region.wanted o (yielded ops a.tmps) = true := by simp [Region.wanted, hgd]
  rw [if_pos hw]
  exact wp_pushI s x ho base p n c l hs hn h hB B y hx hb hl hK
theorem wpList_pushI {ops : Array Oper} {rest : List Oper} {o : Oper} {a : Act} {Q : Exit → Act → World → Prop} {w : World} (hgd : o.guard = none) (s x : Operand)
    (ho : o.op = .call { callee := .builtin .append, args := #[s, x], argTypes := #[22, 22] }) (base : Nat) (p : Option Addr) (n c : Nat) (l : List Int) (hs : a.eval s = .slice p n c) (hn : n = l.length) (h : IntO base w p c l) (hB : base ≤ w.heap.size)
    (B : Nat) (y : Int) (hx : a.eval x = .slice (some ⟨B, 0, none⟩) 1 1) (hb : w.heap[B]? = some (.cells #[.int .i64 y] 3 (0, 0))) (hl : l.length ≤ 1000000)
    (hK : ∀ p' c' w', IntO base w' p' c' (l ++ [y]) → Below base w w' → wpList Tryd.prog ops Q rest (a.put o.dst (.slice p' (n + 1) c')) w') : wpList Tryd.prog ops Q (o :: rest) a w :=
  wpList_plain hgd fun _ h' => wp_pushI s x ho base p n c l hs hn h hB B y hx hb hl fun p' c' w' h1 h2 => h' _ _ (hK p' c' w' h1 h2)
end Go.Proofs.YtienaogmljlmlaaDoor
end
section
namespace Go.Proofs.YtienaogmljlmlaaDoor
open Go.RowKit Go.Extern.Stop Go.Stop Go.Extern WordM RuleM NatM

/-- where Compose refuses -/
def chkCmp (k r : Int) (t : List Int) (k' r' : Int) (u : List Int) : Option (List (ByteArray × Int) × Nat) := match chkF2 k r t k' r' u with
  | some x => some x
  | none => if k ≠ k' then some ([(formsOp, 1)], 3) else if 3 < r + r' then some ([(formsOp, 0)], 4) else none
theorem chkF2_none {k r k' r' : Int} {t u : List Int} (h : chkF2 k r t k' r' u = none) : ∃ K R K' R' : Nat, k = K ∧ r = R ∧ k' = K' ∧ r' = R' ∧ OkR K R t ∧ OkR K' R' u := by
  unfold chkF2 at h
  cases hk : chkR k r t with
  | some i => rw [hk] at h; cases h
  | none =>
    rw [hk] at h
    have hk' : chkR k' r' u = none := by simpa using h
    obtain ⟨K, R, rfl, rfl, ho⟩ := chkR_none hk
    obtain ⟨K', R', rfl, rfl, ho'⟩ := chkR_none hk'
    exact ⟨K, R, K', R', rfl, rfl, rfl, rfl, ho, ho'⟩
theorem chkCmp_none {k r k' r' : Int} {t u : List Int} (h : chkCmp k r t k' r' u = none) : ∃ K R R' : Nat, k = K ∧ r = R ∧ k' = K ∧ r' = R' ∧ OkR K R t ∧ OkR K R' u ∧ R + R' ≤ 3 := by
  unfold chkCmp at h
  cases hk : chkF2 k r t k' r' u with
  | some x => rw [hk] at h; cases h
  | none =>
    rw [hk] at h
    obtain ⟨K, R, K', R', rfl, rfl, rfl, rfl, ho, ho'⟩ := chkF2_none hk
    by_cases h1 : (K : Int) = K'
    · obtain rfl : K = K' := by omega
      by_cases h2 : (3 : Int) < R + R'
      · simp [h2] at h
      · exact ⟨K, R, R', rfl, rfl, rfl, rfl, ho, ho', by omega⟩
    · simp [h1] at h
theorem fcompose_err (k r k' r' : Int) (p q : Option Addr) (n c m d : Nat) (t u : List Int) (w : World) (A : Nat → Addr) (hr : Roots w A) (hn : n = t.length) (hm : m = u.length) (h : IntV w.heap.size w p c t) (h' : IntV w.heap.size w q d u) (L : List (ByteArray × Int)) (x : Nat) (hc : chkCmp k r t k' r' u = some (L, x)) :
    Calls Tryd.prog 14 #[.agg #[.int .i64 k, .int .i64 r, .slice p n c], .agg #[.int .i64 k', .int .i64 r', .slice q m d]] w (FErr2 w A L x noRule) := by
  unfold chkCmp at hc
  cases hk : chkF2 k r t k' r' u with
  | some y =>
    rw [hk] at hc
    exact fcompose_bad k r k' r' p q n c m d t u w A hr hn hm h h' L x (by rw [hk]; exact hc)
  | none =>
    rw [hk] at hc
    obtain ⟨K, R, K', R', rfl, rfl, rfl, rfl, ho, ho'⟩ := chkF2_none hk
    by_cases h1 : (K : Int) = K'
    · obtain rfl : K = K' := by omega
      by_cases h2 : (3 : Int) < R + R'
      · simp [h2] at hc
        obtain ⟨rfl, rfl⟩ := hc
        exact fcompose_big K R R' p q n c m d t u w A hr hn hm h h' ho ho' (by omega)
      · simp [h2] at hc
    · simp [h1] at hc
      obtain ⟨rfl, rfl⟩ := hc
      exact fcompose_arg K K' R R' p q n c m d t u w A hr hn hm h h' ho ho' (by omega)
theorem chkF2_num {k r k' r' : Int} {t u : List Int} {y : List (ByteArray × Int) × Nat} (h : chkF2 k r t k' r' u = some y) : 1 ≤ y.2 ∧ y.2 ≤ 11 := by
  unfold chkF2 at h
  split at h
  · obtain rfl := Option.some.inj h; simp
  · obtain ⟨i, _, rfl⟩ := Option.map_eq_some_iff.1 h; simp
theorem chkCmp_num {k r k' r' : Int} {t u : List Int} {y : List (ByteArray × Int) × Nat} (h : chkCmp k r t k' r' u = some y) : 1 ≤ y.2 ∧ y.2 ≤ 11 := by
  unfold chkCmp at h
  split at h
  · rename_i hh; obtain rfl := Option.some.inj h; exact chkF2_num hh
  · split at h
    · obtain rfl := Option.some.inj h; simp
    · split at h
      · obtain rfl := Option.some.inj h; simp
      · cases h
/-- a word made by a rule of its own: n symbols, each some number's remainder -/
def madeW (f : Nat → Nat) (k n : Nat) : List Int := tabN n fun i => ((f i % k : Nat) : Int)
theorem madeW_length (f : Nat → Nat) (k n : Nat) : (madeW f k n).length = n := tabN_length _ _
theorem madeW_succ (f : Nat → Nat) (k n : Nat) : madeW f k (n + 1) = madeW f k n ++ [((f n % k : Nat) : Int)] := tabN_succ _ _
theorem madeW_ok {k : Nat} (hk : 1 ≤ k) (f : Nat → Nat) (n : Nat) : okW k (madeW f k n) := tabN_ok fun i _ => by
  have : f i % k < k := Nat.mod_lt _ hk
  omega
end Go.Proofs.YtienaogmljlmlaaDoor
end
section
namespace Go.Proofs.YtienaogmljlmlaaDoor
open Go.ChangeShapes Go.WideShapes Go.ChangeAt Go.RowKit WordM RuleM

theorem fld_int {H : Type} {enc : TypeId × Value → H} {W : World} {n : Nat} {c : Value} {y : DataW H × List MemPlace} (h : DataW.trod enc Tryd.prog W 0 (fun _ => true) true n 3 [c] = some y) : ∃ x : Int, c = .int .i64 x ∧ -9223372036854775808 ≤ x ∧ x ≤ 9223372036854775807 := by
  obtain ⟨x, hx, _, hw⟩ := DataW.trod_int Tryd.underlying3 h
  exact ⟨x, by simpa using hx, wf_i64 hw⟩
theorem fld_ints {H : Type} {enc : TypeId × Value → H} {W : World} {n : Nat} {c : Value} {y : DataW H × List MemPlace} (h : DataW.trod enc Tryd.prog W 0 (fun _ => true) true n 22 [c] = some y) (hlt : ∀ x ∈ y.2, x.block < W.heap.size) (hw : ∀ x ∈ y.1.weights Tryd.prog 22, x ≤ reachBytes) :
    ∃ (a : Option Addr) (cap : Nat) (l : List Int), c = .slice a l.length cap ∧ IntV W.heap.size W a cap l ∧ okI l ∧ l.length ≤ 17592186043904 := by
  have hs : ∃ a len cap, c = .slice a len cap := by
    rcases Go.Deep.open_slice Tryd.underlying22 h with ⟨hcs, _⟩ | ⟨a, len, cap, _, _, _, _, hcs, _⟩
    · exact ⟨none, 0, 0, by simpa using hcs⟩
    · exact ⟨some a, len, cap, by simpa using hcs⟩
  have ht : DataW.Trod enc Tryd.prog W 0 (fun _ => true) true 22 c y.1 y.2 := by
    refine ⟨n, ?_⟩
    obtain ⟨a, len, cap, rfl⟩ := hs
    simpa [Value.cells] using h
  obtain ⟨a, cap, l, rfl, h1, h2⟩ := open_intl hs ht hlt
  exact ⟨a, cap, l, rfl, h1, h2, open_reach ht hw⟩
theorem cellsRule3 : Tryd.prog.cellsOf 24 = 3 := by kernel_rfl
set_option maxRecDepth 100000 in
/-- a rule that came in: its table's length is in reach -/
theorem open_rule {H : Type} {enc : TypeId × Value → H} {W : World} {v : Value} {d : DataW H} {p : List MemPlace} {r : Reach} {b0 : Nat} (hv : Value.okWide Tryd.prog W r b0 24 v)
    (h : DataW.Trod enc Tryd.prog W 0 (fun _ => true) true 24 v d p) (hlt : ∀ x ∈ p, x.block < W.heap.size) (hw : ∀ x ∈ d.weights Tryd.prog 24, x ≤ reachBytes) :
    ∃ (k r : Int) (a : Option Addr) (cap : Nat) (l : List Int), v = .agg #[.int .i64 k, .int .i64 r, .slice a l.length cap] ∧ IntV W.heap.size W a cap l ∧ l.length ≤ 17592186043904 := by
  obtain ⟨v0, v1, v2, y0, y1, y2, n, rfl, rfl, rfl, h0, h1, h2⟩ := Go.Joins.open_agg3 Tryd.underlying24 (by kernel_rfl) cellsRule3 hv h
  obtain ⟨k, rfl, _⟩ := fld_int h0
  obtain ⟨q, rfl, _⟩ := fld_int h1
  obtain ⟨a, cap, l, rfl, h3, _, h4⟩ := fld_ints h2 (fun x hx => hlt x (by simp [hx])) (fun x hx => hw x (by
    unfold DataW.weights
    rw [Tryd.underlying24]
    exact weights_get _ _ 2 _ _ rfl rfl x hx))
  exact ⟨k, q, a, cap, l, rfl, h3, h4⟩
end Go.Proofs.YtienaogmljlmlaaDoor
end
section
namespace Go.Proofs.YtienaogmljlmlaaDoor
open Go.ChangeShapes Go.WideShapes Go.ChangeAt Go.RowKit NatM

theorem cells32_1 : Tryd.prog.cellsOf 84 = 1 := by kernel_rfl
theorem wf_u32 {n : Int} (h : (Lit.int .u32 n).wf = true) : 0 ≤ n ∧ n < 4294967296 := by
  have := bounds_u32 h
  omega
theorem open_nat {H : Type} {enc : TypeId × Value → H} {W : World} {v : Value} {d : DataW H} {p : List MemPlace} (hok : ∃ a len cap, v = .slice a len cap)
    (h : DataW.Trod enc Tryd.prog W 0 (fun _ => true) true 68 v d p) (hlt : ∀ x ∈ p, x.block < W.heap.size) :
    ∃ (a : Option Addr) (cap : Nat) (l : List Nat), v = .slice a l.length cap ∧ NatV W.heap.size W a cap l := by
  obtain ⟨a0, len, cap, rfl⟩ := hok
  obtain ⟨fuel, hf⟩ := h
  rcases open_ints Tryd.underlying68 Tryd.underlying84 cells32_1 hf with ⟨hcs, _⟩ | ⟨a, len', cap', zs, hcs, _, hl, hm, hz, hx, hcell, hwf⟩
  · simp [Value.cells] at hcs
    obtain ⟨rfl, rfl, rfl⟩ := hcs
    exact ⟨none, 0, [], rfl, okB_nil _, Nat.le_refl _, Nat.zero_le _, fun _ => rfl, fun h => absurd rfl h⟩
  · simp [Value.cells] at hcs
    obtain ⟨rfl, rfl, rfl⟩ := hcs
    simp only [if_true] at hz
    obtain ⟨rfl, rfl⟩ := Prod.mk.inj hx
    have hlen : ((zs.take len).map Int.toNat).length = len := by rw [List.length_map, List.length_take]; omega
    refine ⟨some a, cap, (zs.take len).map Int.toNat, by rw [hlen], ?_, by rw [hlen]; exact hl, hm, (fun h => by cases h), fun hn => ?_⟩
    · intro x hx
      obtain ⟨z, hz, rfl⟩ := List.mem_map.1 hx
      have := wf_u32 (hwf z (List.mem_of_mem_take hz))
      omega
    · obtain ⟨b, off, spot⟩ := a
      have h0 : 0 < zs.length := by
        have := List.length_pos_iff.2 hn
        rw [hlen] at this
        omega
      have hspot : spot = none := by simpa [Addr.add] using World.cell?_spot (hcell 0 h0)
      subst hspot
      refine ⟨b, off, rfl, hlt (.cell b off) (MemPlace.mem_row.2 ⟨0, h0, by simp⟩), fun j x hx => ?_⟩
      have hj := get_lt hx
      rw [hlen] at hj
      have hjz : j < zs.length := by omega
      have hc := hcell j hjz
      have hw := wf_u32 (hwf _ (List.getElem_mem hjz))
      have e : zs.getD j 0 = (x : Int) := by
        rw [List.getElem?_map, List.getElem?_take, if_pos hj, List.getElem?_eq_getElem hjz] at hx
        have := Option.some.inj hx
        rw [List.getD_eq_getElem?_getD, List.getElem?_eq_getElem hjz]
        show zs[j] = _
        omega
      rw [e, add_plain] at hc
      exact hc
end Go.Proofs.YtienaogmljlmlaaDoor
end
section
namespace Go.Proofs.YtienaogmljlmlaaDoor
open Go.ChangeShapes Go.WideShapes Go.ChangeAt Go.RowKit

def tabled (l : List (String × DataW Unit)) : List (String × DataW Unit) := ("math/bits.deBruijn32tab", Rows.laid_math_bits_deBruijn32tab) :: ("math/bits.deBruijn64tab", Rows.laid_math_bits_deBruijn64tab) :: ("internal/strconv.uint64pow10", Rows.laid_internal_strconv_uint64pow10) :: l
theorem roots_of_tabled {W : World} (h : laidMetH Tryd.prog (tabled twelve) W) : ∃ A, Roots W A := by
  have h' : laidMet Tryd.prog (tabled twelve) W := h
  exact roots_of_twelve h'.tail.tail.tail
/-- The cells of a table's datum. -/
def flatCellB (d : DataW Unit) : Value := match d with
  | .lit (.int k n) => .int k n
  | _ => .nilIface
def flatB (d : DataW Unit) : List Value := match d with
  | .agg l => l.map flatCellB
  | _ => []
def layCellsB (vs : List Value) (o : Obj) : Obj := match o with
  | .cells _ t frozen => .cells vs.toArray t frozen
  | o => o
noncomputable def laidWorldT (os : Os) : World :=
  { laidWorld os with heap := ((((laidWorld os).heap.modify 14 (layCellsB (flatB Rows.laid_math_bits_deBruijn32tab))).modify 15 (layCellsB (flatB Rows.laid_math_bits_deBruijn64tab)))).modify 13 (layCellsB (flatB Rows.laid_internal_strconv_uint64pow10)) }
end Go.Proofs.YtienaogmljlmlaaDoor
end
section
namespace Go.Proofs.YtienaogmljlmlaaDoor.apartI
open Go.RowKit

abbrev E : TypeId := 3
theorem infoE : (Tryd.prog.info? 3).map (fun i => (i.zero, i.size, i.bytes)) = some (some (.int .i64 0), 1, 8) := by kernel_rfl
theorem infoS : (Tryd.prog.info? 22).map (fun i => (i.zero, i.size, i.bytes)) = some (some (.slice none 0 0), 1, 24) := by kernel_rfl
/-- the marks -/
def m1 (i : Nat) : Value := .int .i64 (-2 * (i : Int) - 1)
def m2 (i : Nat) : Value := .int .i64 (-2 * (i : Int) - 2)

/-- A list: its address, its capacity, its length. -/
abbrev Rw := Option Addr × Nat × Nat
def Rw.val (x : Rw) : Value := .slice x.1 x.2.2 x.2.1

/-! ### rows -/
theorem shape {w : World} {B : Nat} {e : TypeId} {a : Option Addr} {n c : Nat} {xs : List Value} (h : w.ownsRow B e 1 (.slice a n c) n xs) :
    (a = none ∧ n = 0 ∧ c = 0 ∧ xs = []) ∨ ∃ g, a = some ⟨g, 0, none⟩ ∧ B ≤ g ∧ g < w.heap.size ∧ n ≤ c ∧ c ≤ maxLen ∧ xs.length = n ∧ (∀ j, j < n → w.cell? ⟨g, j, none⟩ = xs[j]?) ∧ ∀ j, w.frozen? ⟨g, j, none⟩ = false := by
  have h0 := h
  obtain ⟨hx, h | ⟨g, cap, cur, hv, hg, hh, hc, hm, r⟩⟩ := h
  · obtain ⟨h1, h2⟩ := h
    simp only [Value.slice.injEq] at h1
    exact Or.inl ⟨h1.1, h2, h1.2.2, List.eq_nil_of_length_eq_zero (by omega)⟩
  · simp only [Value.slice.injEq] at hv
    obtain ⟨rfl, _, rfl⟩ := hv
    have hlt : g < w.heap.size := by
      rcases Nat.lt_or_ge g w.heap.size with k | k
      · exact k
      · simp [Array.getElem?_eq_none k] at hh
    exact Or.inr ⟨g, rfl, hg, hlt, hc, hm, by omega, fun j hj => h0.cellAt j (by omega), fun j => h0.frozenAt j⟩
theorem prefix_own {w : World} {B : Nat} {e : TypeId} {g n c k : Nat} {xs : List Value} (h : w.ownsRow B e 1 (.slice (some ⟨g, 0, none⟩) n c) n xs) (hk : k ≤ n) : w.ownsRow B e 1 (.slice (some ⟨g, 0, none⟩) k c) k (xs.take k) := by
  obtain ⟨hx, h | ⟨g', cap, cur, hv, hg, hh, hc, hm, hs, ht⟩⟩ := h
  · simp at h
  · simp only [Value.slice.injEq, Option.some.injEq, Addr.mk.injEq, and_true, true_and] at hv
    obtain ⟨rfl, rfl⟩ := hv
    refine ⟨by rw [List.length_take]; omega, Or.inr ⟨g, c, cur, rfl, hg, hh, by omega, hm, hs, ?_⟩⟩
    rw [← ht, List.take_take]
    congr 1
    omega
theorem same_cap {w : World} {B B' : Nat} {e e' : TypeId} {g n n' c c' : Nat} {xs xs' : List Value} (h : w.ownsRow B e 1 (.slice (some ⟨g, 0, none⟩) n c) n xs) (h' : w.ownsRow B' e' 1 (.slice (some ⟨g, 0, none⟩) n' c') n' xs') : c = c' := by
  obtain ⟨_, h | ⟨g1, c1, cur, hv, _, hh, _, _, hs, _⟩⟩ := h
  · simp at h
  obtain ⟨_, h' | ⟨g2, c2, cur', hv', _, hh', _, _, hs', _⟩⟩ := h'
  · simp at h'
  simp only [Value.slice.injEq, Option.some.injEq, Addr.mk.injEq, and_true, true_and] at hv hv'
  obtain ⟨rfl, rfl⟩ := hv
  obtain ⟨rfl, rfl⟩ := hv'
  rw [hh] at hh'
  injection hh' with hh'
  injection hh' with hcur
  subst hcur
  omega
theorem other_type {w : World} {b b' : Nat} {e e' : TypeId} {v v' : Value} {n n' : Nat} {xs xs' : List Value} (h : w.ownsRow b e 1 v n xs) (h' : w.ownsRow b' e' 1 v' n' xs') (hne : e ≠ e') : v.ownBlock = none ∨ v.ownBlock ≠ v'.ownBlock := by
  rcases h.2 with ⟨rfl, _⟩ | ⟨g, cap, cur, rfl, _, hh, _⟩
  · exact Or.inl rfl
  · right
    rcases h'.2 with ⟨rfl, _⟩ | ⟨g', cap', cur', rfl, _, hh', _⟩
    · simp [Value.ownBlock]
    · intro hq
      have : g = g' := by simpa [Value.ownBlock] using hq
      subst this
      rw [hh] at hh'
      injection hh' with hh'
      injection hh' with _ ht
      exact hne ht
theorem below_lt {w : World} {B : Nat} {e : TypeId} {v : Value} {n : Nat} {xs : List Value} (h : w.ownsRow B e 1 v n xs) : v.ownBlock = none ∨ ∃ b, v.ownBlock = some b ∧ B ≤ b ∧ b < w.heap.size := by
  cases hv : v.ownBlock with
  | none => exact Or.inl rfl
  | some b => exact Or.inr ⟨b, rfl, h.lt b hv⟩
theorem set_take {l : List Value} {k : Nat} {u : Value} (h : k < l.length) : (l.set k u).take (k + 1) = l.take k ++ [u] := by
  rw [List.take_succ_eq_append_getElem (by simpa using h), List.take_set_of_le (Nat.le_refl _)]
  simp

/-! ### the lists, and where they stand -/
def OwnAll (B : Nat) (w : World) (L : List Rw) (C : Nat → List Value) : Prop := ∀ (k : Nat) (x : Rw), L[k]? = some x → w.ownsRow B E 1 x.val x.2.2 (C k)
structure Sit (w : World) (Q qo : Nat) (L : List Rw) : Prop where
  lt : Q < w.heap.size
  cell : ∀ (j : Nat) (x : Rw), L[j]? = some x → w.cell? ⟨Q, qo + j, none⟩ = some x.val
structure Parts (L : List Rw) (Q : Nat) : Prop where
  two : ∀ (k k' : Nat) (x x' : Rw), L[k]? = some x → L[k']? = some x' → k ≠ k' → x.val.ownBlock = none ∨ x.val.ownBlock ≠ x'.val.ownBlock
  q : ∀ (k : Nat) (x : Rw), L[k]? = some x → x.val.ownBlock ≠ some Q
theorem Sit.kept {w w' : World} {Q qo : Nat} {L : List Rw} (h : Sit w Q qo L) {row : Option Nat} (hg : w.grownBy w' row) (hne : row ≠ some Q) : Sit w' Q qo L :=
  ⟨Nat.lt_of_lt_of_le h.lt hg.size, fun j x hx => (World.cell?_of_block (hg.block Q h.lt (Ne.symm hne))).trans (h.cell j x hx)⟩
theorem OwnAll.kept {B : Nat} {w w' : World} {L : List Rw} {C : Nat → List Value} (h : OwnAll B w L C) {row : Option Nat} (hg : w.grownBy w' row) (hne : ∀ (k : Nat) (x : Rw), L[k]? = some x → x.val.ownBlock = none ∨ x.val.ownBlock ≠ row) : OwnAll B w' L C :=
  fun k x hx => (h k x hx).kept hg (hne k x hx)
theorem val_some {x : Rw} {g : Nat} (h : x.1 = some ⟨g, 0, none⟩) : x.val.ownBlock = some g := by unfold Rw.val; rw [h]; rfl
/-- a mark is laid -/
theorem OwnAll.store {B : Nat} {w : World} {L : List Rw} {C : Nat → List Value} {Q : Nat} (hP : Parts L Q) (h : OwnAll B w L C) {i : Nat} {x : Rw} (hx : L[i]? = some x) {g : Nat} (hg : x.1 = some ⟨g, 0, none⟩) (j : Nat) (u : Value) :
    OwnAll B (w.setCell ⟨g, j, none⟩ u) L (fun k => if k = i then (C i).set j u else C k) ∧ w.grownBy (w.setCell ⟨g, j, none⟩ u) (some g) := by
  have ho := h i x hx
  unfold Rw.val at ho
  rw [hg] at ho
  obtain ⟨s1, s2⟩ := ho.stored j u
  refine ⟨fun k y hy => ?_, s2⟩
  by_cases hk : k = i
  · subst hk
    rw [hx] at hy
    obtain rfl := Option.some.inj hy
    simp only [if_true]
    unfold Rw.val
    rw [hg]
    exact s1
  · simp only [if_neg hk]
    refine (h k y hy).kept s2 ?_
    have := hP.two k i y x hy hx hk
    rwa [val_some hg] at this

theorem other_rows {B : Nat} {w : World} {L : List Rw} {C : Nat → List Value} (h : OwnAll B w L C) {b : Nat} {e : TypeId} {v : Value} {n : Nat} {xs : List Value} (hv : w.ownsRow b e 1 v n xs) (hne : E ≠ e) : ∀ (k : Nat) (x : Rw), L[k]? = some x → x.val.ownBlock = none ∨ x.val.ownBlock ≠ v.ownBlock :=
  fun k x hx => other_type (h k x hx) hv hne

/-- Nothing has changed but what is new, and the lists' own blocks. -/
structure Fr (L : List Rw) (w w' : World) : Prop where
  os : w'.os = w.os
  tape : w'.tape = w.tape
  output : w'.output = w.output
  size : w.heap.size ≤ w'.heap.size
  block : ∀ b, b < w.heap.size → (∀ (k : Nat) (x : Rw), L[k]? = some x → x.val.ownBlock ≠ some b) → w'.heap[b]? = w.heap[b]?
theorem Fr.refl (L : List Rw) (w : World) : Fr L w w := ⟨rfl, rfl, rfl, Nat.le_refl _, fun _ _ _ => rfl⟩
theorem Fr.step {L : List Rw} {w a b : World} (h : Fr L w a) {row : Option Nat} (hg : a.grownBy b row) (hr : ∀ k, row = some k → (∃ (i : Nat) (x : Rw), L[i]? = some x ∧ x.val.ownBlock = some k) ∨ w.heap.size ≤ k) : Fr L w b :=
  ⟨hg.os.trans h.os, hg.tape.trans h.tape, hg.output.trans h.output, Nat.le_trans h.size hg.size, fun k hk hno => (hg.block k (Nat.lt_of_lt_of_le hk h.size) (fun e => by
    rcases hr k e.symm with ⟨i, x, hx, hb⟩ | h1
    · exact hno i x hx hb
    · omega)).trans (h.block k hk hno)⟩
theorem Fr.below {L : List Rw} {w w' : World} (h : Fr L w w') {B : Nat} (hB : B ≤ w.heap.size) (hL : ∀ (k : Nat) (x : Rw), L[k]? = some x → x.val.ownBlock = none ∨ ∃ b, x.val.ownBlock = some b ∧ B ≤ b) : Below B w w' :=
  ⟨h.os, h.tape, h.output, h.size, fun k hk => h.block k (by omega) (fun i x hx e => by
    rcases hL i x hx with h1 | ⟨b, h1, h2⟩
    · rw [h1] at e; cases e
    · rw [h1] at e
      have := Option.some.inj e
      omega)⟩

def Rel1 (B : Nat) (w : World) (L : List Rw) (Q qo : Nat) (v3 : Value) (wr : World) : Prop :=
  ∃ (i : Nat) (C : Nat → List Value), i ≤ L.length ∧ v3 = .int .i64 (i : Int) ∧ OwnAll B wr L C ∧ (∀ (k : Nat) (x : Rw), k < i → L[k]? = some x → C k = List.replicate x.2.2 (m1 k)) ∧ Sit wr Q qo L ∧ Fr L w wr
def Rel2 (B : Nat) (w : World) (L : List Rw) (Q qo i n : Nat) (v4 : Value) (wr : World) : Prop :=
  ∃ (j : Nat) (C : Nat → List Value), j ≤ n ∧ v4 = .int .i64 (j : Int) ∧ OwnAll B wr L C ∧ (∀ (k : Nat) (x : Rw), k < i → L[k]? = some x → C k = List.replicate x.2.2 (m1 k)) ∧ (C i).take j = List.replicate j (m1 i) ∧ Sit wr Q qo L ∧ Fr L w wr
/-- The lists, marked. -/
def Marked (B : Nat) (w : World) (L : List Rw) : Prop := ∀ (k : Nat) (x : Rw), L[k]? = some x → w.ownsRow B E 1 x.val x.2.2 (List.replicate x.2.2 (m1 k))
/-- A list grown by forty. -/
def Full (B : Nat) (w : World) (L : List Rw) (k : Nat) (x : Rw) (v : Value) : Prop :=
  ∃ y c, v = .slice y (x.2.2 + 40) c ∧ w.ownsRow B E 1 (.slice y (x.2.2 + 40) c) (x.2.2 + 40) (List.replicate x.2.2 (m1 k) ++ List.replicate 40 (m2 k)) ∧
    ∀ (k' : Nat) (x' : Rw), k' ≠ k → L[k']? = some x' → (Value.slice y (x.2.2 + 40) c).ownBlock = none ∨ (Value.slice y (x.2.2 + 40) c).ownBlock ≠ x'.val.ownBlock
structure Got (B : Nat) (w wr : World) (L : List Rw) (Q qo G i : Nat) (gv : List Value) : Prop where
  marked : Marked B wr L
  row : wr.ownsRow B 22 1 (.slice (some ⟨G, 0, none⟩) L.length L.length) L.length gv
  full : ∀ (k : Nat) (x : Rw), k < i → L[k]? = some x → ∃ v, gv[k]? = some v ∧ Full B wr L k x v
  sit : Sit wr Q qo L
  below : Fr L w wr
def Rel3 (B : Nat) (w : World) (L : List Rw) (Q qo G : Nat) (v6 : Value) (wr : World) : Prop :=
  ∃ (i : Nat) (gv : List Value), i ≤ L.length ∧ v6 = .int .i64 (i : Int) ∧ Got B w wr L Q qo G i gv
/-- The list that is being grown: in its own old block, or in one made since H. -/
def Rel4 (B : Nat) (w : World) (L : List Rw) (Q qo G i H : Nat) (x : Rw) (gv : List Value) (v7 v8 : Value) (wr : World) : Prop :=
  ∃ (j : Nat) (y : Option Addr) (c : Nat), j ≤ 40 ∧ v8 = .int .i64 (j : Int) ∧ v7 = .slice y (x.2.2 + j) c ∧ wr.ownsRow B E 1 (.slice y (x.2.2 + j) c) (x.2.2 + j) (List.replicate x.2.2 (m1 i) ++ List.replicate j (m2 i)) ∧
    ((Value.slice y (x.2.2 + j) c).ownBlock = x.val.ownBlock ∨ ∃ b, (Value.slice y (x.2.2 + j) c).ownBlock = some b ∧ H ≤ b) ∧ H ≤ wr.heap.size ∧ Got B w wr L Q qo G i gv

/-- What was there before H, and is of no list i, stays. -/
structure Old (L : List Rw) (Q G i H : Nat) (x : Rw) (gv : List Value) : Prop where
  lists : ∀ (k : Nat) (z : Rw), L[k]? = some z → z.val.ownBlock = none ∨ ∃ b, z.val.ownBlock = some b ∧ b < H
  apart : ∀ (k : Nat) (z : Rw), k ≠ i → L[k]? = some z → z.val.ownBlock = none ∨ z.val.ownBlock ≠ x.val.ownBlock
  grown : ∀ (k : Nat) (v : Value), k < i → gv[k]? = some v → (v.ownBlock = none ∨ ∃ b, v.ownBlock = some b ∧ b < H) ∧ (v.ownBlock = none ∨ v.ownBlock ≠ x.val.ownBlock)
  g : G < H
  q : Q < H
  xq : x.val.ownBlock ≠ some Q
  xg : x.val.ownBlock ≠ some G
theorem Full.kept {B : Nat} {w w' : World} {L : List Rw} {k : Nat} {x : Rw} {v : Value} (h : Full B w L k x v) {row : Option Nat} (hg : w.grownBy w' row) (hne : v.ownBlock = none ∨ v.ownBlock ≠ row) : Full B w' L k x v := by
  obtain ⟨y, c, rfl, ho, ha⟩ := h
  exact ⟨y, c, rfl, ho.kept hg hne, ha⟩
/-- an alien block is written, or none -/
theorem Got.kept {B : Nat} {w wr w' : World} {L : List Rw} {Q qo G i : Nat} {gv : List Value} (h : Got B w wr L Q qo G i gv) {row : Option Nat} (hg : wr.grownBy w' row)
    (h1 : ∀ (k : Nat) (z : Rw), L[k]? = some z → z.val.ownBlock = none ∨ z.val.ownBlock ≠ row) (h2 : ∀ (k : Nat) (v : Value), k < i → gv[k]? = some v → v.ownBlock = none ∨ v.ownBlock ≠ row) (h3 : row ≠ some G) (h4 : row ≠ some Q) (h5 : ∀ k, row = some k → (∃ (i : Nat) (x : Rw), L[i]? = some x ∧ x.val.ownBlock = some k) ∨ w.heap.size ≤ k) : Got B w w' L Q qo G i gv :=
  ⟨fun k z hz => (h.marked k z hz).kept hg (h1 k z hz), h.row.kept hg (Or.inr (by simpa [Value.ownBlock] using fun e => h3 e.symm)), fun k z hk hz => by
    obtain ⟨v, hv, hf⟩ := h.full k z hk hz
    exact ⟨v, hv, hf.kept hg (h2 k v hk hv)⟩, h.sit.kept hg h4, h.below.step hg h5⟩
/-- nothing old is written -/
theorem Got.fresh {B : Nat} {w wr w' : World} {L : List Rw} {Q qo G i : Nat} {gv : List Value} (h : Got B w wr L Q qo G i gv) (hg : wr.grownBy w' none) : Got B w w' L Q qo G i gv :=
  h.kept hg (fun k z hz => by
    rcases below_lt (h.marked k z hz) with h1 | ⟨b, h1, _⟩
    · exact Or.inl h1
    · exact Or.inr (by rw [h1]; simp)) (fun k v hk hv => by
    cases hb : v.ownBlock with
    | none => exact Or.inl rfl
    | some b => exact Or.inr (by simp)) (by simp) (by simp) (fun k hk => by cases hk)
/-- the list that grows is written within its room -/
theorem Got.room {B : Nat} {w wr w' : World} {L : List Rw} {Q qo G i H : Nat} {x : Rw} {gv : List Value} (hO : Old L Q G i H x gv) (hx : L[i]? = some x) (h : Got B w wr L Q qo G i gv) (hH : w.heap.size ≤ H) {y n c : Nat} (hcase : some y = x.val.ownBlock ∨ H ≤ y)
    (hg : wr.grownBy w' (some y)) {ys : List Value} (hn : x.2.2 ≤ n) (hold : wr.ownsRow B E 1 (.slice (some ⟨y, 0, none⟩) n c) n ys) {ys' : List Value} (hnew : w'.ownsRow B E 1 (.slice (some ⟨y, 0, none⟩) (n + 1) c) (n + 1) (List.replicate x.2.2 (m1 i) ++ ys')) : Got B w w' L Q qo G i gv := by
  have hL : ∀ (k : Nat) (z : Rw), k ≠ i → L[k]? = some z → z.val.ownBlock = none ∨ z.val.ownBlock ≠ some y := fun k z hk hz => by
    rcases hcase with e | e
    · rw [e]; exact hO.apart k z hk hz
    · rcases hO.lists k z hz with h1 | ⟨b, h1, h2⟩
      · exact Or.inl h1
      · exact Or.inr (by rw [h1]; simp; omega)
  have hm : Marked B w' L := fun k z hz => by
    by_cases hk : k = i
    · subst hk
      rw [hx] at hz
      obtain rfl := Option.some.inj hz
      by_cases he : x.val.ownBlock = some y
      · have hmi := h.marked k x hx
        unfold Rw.val at hmi he ⊢
        rcases shape hmi with ⟨h1, _⟩ | ⟨g, h1, _⟩
        · rw [h1] at he; simp [Value.ownBlock] at he
        · rw [h1] at he hmi ⊢
          obtain rfl : g = y := by simpa [Value.ownBlock] using he
          obtain rfl := same_cap hmi hold
          have hp := prefix_own hnew (k := x.2.2) (by omega)
          rwa [List.take_left' (by simp)] at hp
      · exact (h.marked k x hx).kept hg (Or.inr he)
    · exact (h.marked k z hz).kept hg (hL k z hk hz)
  refine ⟨hm, h.row.kept hg (Or.inr ?_), fun k z hk hz => ?_, h.sit.kept hg ?_, h.below.step hg (fun k hk => by
    obtain rfl : y = k := Option.some.inj hk
    rcases hcase with e | e
    · exact Or.inl ⟨i, x, hx, e.symm⟩
    · exact Or.inr (Nat.le_trans hH e))⟩
  · have : (Value.slice (some ⟨G, 0, none⟩) L.length L.length).ownBlock = some G := rfl
    rw [this]
    rcases hcase with e | e
    · rw [e]; exact fun h => hO.xg h.symm
    · have := hO.g; simp; omega
  · obtain ⟨v, hv, hf⟩ := h.full k z hk hz
    obtain ⟨h1, h2⟩ := hO.grown k v hk hv
    refine ⟨v, hv, hf.kept hg ?_⟩
    rcases hcase with e | e
    · rw [e]; exact h2
    · rcases h1 with h1 | ⟨b, h1, h3⟩
      · exact Or.inl h1
      · exact Or.inr (by rw [h1]; simp; omega)
  · rcases hcase with e | e
    · rw [e]; exact hO.xq
    · have := hO.q; simp; omega
theorem cell_new (w : World) (v : Value) (t : TypeId) : ∀ j u, [v][j]? = some u → (w.alloc (.cells #[v] t)).cell? ((⟨w.heap.size, 0, none⟩ : Addr).add j) = some u := by
  intro j u hj
  match j, hj with
  | 0, hj => simp at hj; subst hj; simp [Addr.add]
theorem make_rows (n : Nat) (hn : n ≤ 1000000) (w : World) :
    (Instr.makeSlice 63 (.int .i64 (n : Int)) (.int .i64 (n : Int))).run Tryd.prog w = .ok (.slice (some ⟨w.heap.size, 0, none⟩) n n) (w.alloc (.cells (madeCells #[.slice none 0 0] n) 22)) := by
  obtain ⟨i0, hi, hz0, hz1, hz2⟩ := info_parts infoS
  have h := run_make (P := Tryd.prog) w 63 22 i0 (.slice none 0 0) Tryd.underlying63 hi hz0 .i64 .i64 n n (by omega) (by omega) (by rw [hz2]; omega) (by omega)
  rw [hz1] at h
  simpa [Value.cells] using h
theorem rows_made (B : Nat) (w : World) (n : Nat) (hB : B ≤ w.heap.size) (hn : n ≤ 1000000) : (w.alloc (.cells (madeCells #[.slice none 0 0] n) 22)).ownsRow B 22 1 (.slice (some ⟨w.heap.size, 0, none⟩) n n) n (List.replicate n (.slice none 0 0)) := by
  refine ⟨by simp, Or.inr ⟨w.heap.size, n, madeCells #[.slice none 0 0] n, rfl, hB, ?_, Nat.le_refl _, by unfold maxLen; omega, by rw [size_madeCells, Nat.mul_one], ?_⟩⟩
  · show (w.heap.push _)[w.heap.size]? = _
    simp
  · rw [Nat.mul_one, toList_madeCells_one, List.take_of_length_le (by simp)]

def TruePost (L : List Rw) (w : World) (e : Ending) (w' : World) : Prop := e = .returned (.bool true) ∧ Fr L w w'
end Go.Proofs.YtienaogmljlmlaaDoor.apartI
end
section
namespace Go.Proofs.YtienaogmljlmlaaDoor.apartI
open Go.RowKit

set_option maxRecDepth 100000 in
set_option maxHeartbeats 8000000 in
theorem apart_any (B : Nat) (L : List Rw) (Q qo cap : Nat) (w : World) (hB : B ≤ w.heap.size) (hP : Parts L Q) (C0 : Nat → List Value) (hO : OwnAll B w L C0) (hS : Sit w Q qo L) (hl : L.length ≤ 1000) (hlen : ∀ x ∈ L, x.2.2 ≤ 100000) (hc : L.length ≤ cap) (hcm : cap ≤ 9223372036854775807) :
    Calls Tryd.prog 21 #[.slice (some ⟨Q, qo, none⟩) L.length cap] w (TruePost L w) := by
  obtain ⟨i0, hi, hz0, hz1, hz2⟩ := info_parts infoE
  have hmk := make_rows L.length (by omega)
  have HP := Lib.hid (And.intro hP (And.intro hO (And.intro hS hlen)))
  have hQ := hS.lt
  clear hP hO hS hlen
  go_enter Tryd.func21, Tryd.ntmps21
  go_wp2_with fail
  go_loopw [3] (fun v3 wr => Rel1 B w L Q qo v3 wr) (fun v _ => L.length - (intOf v).toNat)
  case atStart => exact ⟨0, C0, Nat.zero_le _, rfl, HP.out.2.1, fun k x hk => absurd hk (Nat.not_lt_zero k), HP.out.2.2.1, Fr.refl _ _⟩
  case round =>
    obtain ⟨i, C, hin, rfl, hO, hD, hS, hb⟩ := hrel
    have HR := Lib.hid (And.intro hO (And.intro hD (And.intro hS hb)))
    obtain ⟨wo, rfl⟩ : ∃ wo : World, wo = wr := ⟨_, rfl⟩
    by_cases hlt : i < L.length
    · obtain ⟨x, hx⟩ : ∃ x, L[i]? = some x := ⟨_, List.getElem?_eq_getElem hlt⟩
      have hxm : x ∈ L := List.mem_of_getElem? hx
      have hxl := HP.out.2.2.2 x hxm
      obtain ⟨xa, xc, xn⟩ := x
      replace hxl : xn ≤ 100000 := hxl
      have HX := Lib.hid hx
      clear hO hD hS hb hx hxm hmk
      go_wp2_with fail
      go_loopw [4] (fun v4 wr => Rel2 B w L Q qo i xn v4 wr) (fun v _ => xn - (intOf v).toNat)
      case atStart => exact ⟨0, C, Nat.zero_le _, rfl, HR.out.1, HR.out.2.1, rfl, HR.out.2.2.1, HR.out.2.2.2⟩
      case round =>
        obtain ⟨j, C, hj, rfl, hO, hD, hT, hS, hb⟩ := hrel
        have hcell : wr.cell? ⟨Q, qo + i, none⟩ = some (.slice xa xn xc) := hS.cell i _ HX.out
        have hown : wr.ownsRow B E 1 (.slice xa xn xc) xn (C i) := hO i _ HX.out
        have HI := Lib.hid (And.intro hO (And.intro hD (And.intro hT (And.intro hS hb))))
        by_cases hjl : j < xn
        · rcases shape hown with ⟨_, h0, _⟩ | ⟨g, rfl, hgB, hgl, hnc, hcmx, hCl, hcells, hfz⟩
          · omega
          obtain ⟨v0, hv0⟩ : ∃ v0, (C i)[j]? = some v0 := ⟨_, List.getElem?_eq_getElem (by omega)⟩
          have hcj : wr.cell? ⟨g, j, none⟩ = some v0 := (hcells j hjl).trans hv0
          have hfj := hfz j
          have hmod : i ≤ 1000 := by omega
          obtain ⟨s1, s2⟩ := hO.store HP.out.1 HX.out rfl j (m1 i)
          have hgQ : (some g : Option Nat) ≠ some Q := HP.out.1.q i _ HX.out
          have hT2 : ((C i).set j (m1 i)).take (j + 1) = List.replicate (j + 1) (m1 i) := by
            rw [set_take (by omega), hT, ← List.replicate_succ']
          have HN := Lib.hid (And.intro s1 (And.intro hT2 (And.intro (hS.kept s2 hgQ) (hb.step s2 (fun k hk => Or.inl ⟨i, _, HX.out, hk⟩)))))
          clear hO hD hT hS hb hown hcells hfz hv0 s1 s2 hgQ hT2 hCl
          go_wp2_with fail
          go_roundw
          case rel =>
            refine ⟨j + 1, _, by omega, by go_num, HN.out.1, fun k y hk hy => ?_, ?_, HN.out.2.2.1, HN.out.2.2.2⟩
            · simp only [if_neg (Nat.ne_of_lt hk)]
              exact HI.out.2.1 k y hk hy
            · simp only [if_true]
              exact HN.out.2.1
          case measure => simp [intOf]; omega
        · obtain rfl : j = xn := by omega
          have hCi : C i = List.replicate j (m1 i) := by
            have h1 : (C i).length = j := by rw [hown.1, Nat.mul_one]
            rw [← hT, List.take_of_length_le (by omega)]
          have HC := Lib.hid hCi
          clear hO hD hT hS hb hown hCi
          go_wp2_with fail
          go_roundw
          case rel =>
            refine ⟨i + 1, C, by omega, by go_num, HI.out.1, fun k y hk hy => ?_, HI.out.2.2.2.1, HI.out.2.2.2.2⟩
            rcases Nat.lt_or_ge k i with h | h
            · exact HI.out.2.1 k y h hy
            · obtain rfl : k = i := by omega
              rw [HX.out] at hy
              obtain rfl := Option.some.inj hy
              exact HC.out
          case measure => simp [intOf]; omega
    · obtain rfl : i = L.length := by omega
      have hM : Marked B wo L := fun k x hx => by
        have h := hO k x hx
        have hk : k < L.length := (List.getElem?_eq_some_iff.1 hx).1
        rwa [hD k x hk hx] at h
      have hwB : B ≤ wo.heap.size := Nat.le_trans hB hb.size
      have hrow := rows_made B wo L.length hwB (by omega)
      have hMa : Marked B (wo.alloc (.cells (madeCells #[.slice none 0 0] L.length) 22)) L := fun k x hx => (hM k x hx).alloc _
      have hG : Got B w (wo.alloc (.cells (madeCells #[.slice none 0 0] L.length) 22)) L Q qo wo.heap.size 0 (List.replicate L.length (.slice none 0 0)) :=
        ⟨hMa, hrow, fun k x hk => absurd hk (Nat.not_lt_zero k), hS.kept (World.grownBy_alloc wo _ none) (by simp), hb.step (World.grownBy_alloc wo _ none) (fun k hk => by cases hk)⟩
      obtain ⟨G, hGs⟩ : ∃ G, wo.heap.size = G := ⟨_, rfl⟩
      rw [hGs] at hG
      have hQG : Q < G := by rw [← hGs]; exact hS.lt
      have hBG : B ≤ G := by omega
      have hwG : w.heap.size ≤ G := by have := hb.size; omega
      have HGs := Lib.hid hGs
      have HLG := Lib.hid (show ∀ (k : Nat) (z : Rw), L[k]? = some z → z.val.ownBlock = none ∨ ∃ b, z.val.ownBlock = some b ∧ b < G from fun k z hz => by
        rcases below_lt (hM k z hz) with h | ⟨b, h1, _, h2⟩
        · exact Or.inl h
        · exact Or.inr ⟨b, h1, by omega⟩)
      have HG := Lib.hid hG
      clear hO hD hS hb hM hrow hMa hG hlt HR
      go_wp2_with fail
      clear hmk hGs
      go_loopw [6] (fun v6 wr => Rel3 B w L Q qo G v6 wr) (fun v _ => L.length - (intOf v).toNat)
      case atStart => exact ⟨0, _, Nat.zero_le _, rfl, HG.out⟩
      case round =>
        obtain ⟨i, gv, hin, rfl, hG⟩ := hrel
        obtain ⟨wp, rfl⟩ : ∃ wp : World, wp = wr := ⟨_, rfl⟩
        have hwB : B ≤ wp.heap.size := Nat.le_trans hB hG.below.size
        have hgl : gv.length = L.length := by have := hG.row.1; omega
        have HGG := Lib.hid hG
        have hGw : G < wp.heap.size := by rcases shape hG.row with ⟨h, _⟩ | ⟨g, h, _, h2, _⟩
                                          · cases h
                                          · obtain rfl : G = g := by simpa using h
                                            exact h2
        by_cases hlt : i < L.length
        · obtain ⟨x, hx⟩ : ∃ x, L[i]? = some x := ⟨_, List.getElem?_eq_getElem hlt⟩
          have hxl := HP.out.2.2.2 x (List.mem_of_getElem? hx)
          have hcell := hG.sit.cell i x hx
          have hmx := hG.marked i x hx
          have hOld : Old L Q G i wp.heap.size x gv := ⟨fun k z hz => by
              rcases HLG.out k z hz with h | ⟨b, h1, h2⟩
              · exact Or.inl h
              · exact Or.inr ⟨b, h1, by omega⟩, fun k z hk hz => HP.out.1.two k i z x hz hx hk, fun k v hk hv => by
              obtain ⟨z, hz⟩ : ∃ z, L[k]? = some z := ⟨_, List.getElem?_eq_getElem (by omega)⟩
              obtain ⟨v', hv', y, c, rfl, ho, ha⟩ := hG.full k z hk hz
              rw [hv] at hv'
              obtain rfl := Option.some.inj hv'
              refine ⟨?_, ha i x (by omega) hx⟩
              rcases below_lt ho with h | ⟨b, h1, _, h2⟩
              · exact Or.inl h
              · exact Or.inr ⟨b, h1, h2⟩, hGw, by omega, HP.out.1.q i x hx, by
              rcases HLG.out i x hx with h | ⟨b, h1, h2⟩
              · rw [h]; simp
              · rw [h1]; simp; omega⟩
          obtain ⟨xa, xc, xn⟩ := x
          replace hxl : xn ≤ 100000 := hxl
          replace hcell : wp.cell? ⟨Q, qo + i, none⟩ = some (.slice xa xn xc) := hcell
          replace hmx : wp.ownsRow B E 1 (.slice xa xn xc) xn (List.replicate xn (m1 i)) := hmx
          have HX := Lib.hid (And.intro hx (And.intro hOld hmx))
          obtain ⟨H, hH⟩ : ∃ H, wp.heap.size = H := ⟨_, rfl⟩
          have HH := Lib.hid hH
          have hHG : G < H := by omega
          have hHW : w.heap.size ≤ H := by have := HGG.out.below.size; omega
          clear hx hOld hmx hG hGw hH
          go_wp2_with fail
          go_loopw [7, 8] (fun v7 v8 wr => Rel4 B w L Q qo G i H (xa, xc, xn) gv v7 v8 wr) (fun _ v _ => 40 - (intOf v).toNat)
          case atStart =>
            refine ⟨0, xa, xc, by omega, rfl, rfl, ?_, Or.inl rfl, by rw [HH.out]; exact Nat.le_refl _, HGG.out⟩
            rw [List.replicate_zero, List.append_nil]
            exact HX.out.2.2
          case round =>
            obtain ⟨j, y, c, hj, rfl, rfl, ho, hcase, hHw, hG⟩ := hrel
            replace ho : wr.ownsRow B E 1 (.slice y (xn + j) c) (xn + j) (List.replicate xn (m1 i) ++ List.replicate j (m2 i)) := ho
            have hwB : B ≤ wr.heap.size := Nat.le_trans hB hG.below.size
            have HI := Lib.hid (And.intro ho (And.intro hcase hG))
            have hOl : Old L Q G i H (xa, xc, xn) gv := by have := HX.out.2.1; rwa [HH.out] at this
            have HO := Lib.hid hOl
            have hxlen : (List.replicate xn (m1 i) ++ List.replicate j (m2 i)).length = xn + j := by simp
            have HXL := Lib.hid hxlen
            clear hOl hxlen
            by_cases hj40 : j < 40
            · have hmod : i ≤ 1000 := by omega
              rcases shape ho with ⟨hy0, h00, hc0, hxs0⟩ | ⟨g, rfl, hgB, hgl2, hnc, hcmx, hCl, hcells, hfz⟩
              · -- a nil list: it grows
                subst hy0 hc0
                have hxn0 : xn = 0 := by omega
                have hj0 : j = 0 := by omega
                subst hxn0 hj0
                clear hcase hG hxs0 h00
                go_wp2_with (at_builtin; refine wpList_append_grows _ rfl _ _ 22 rfl E i0 (.int .i64 0) 1 8 Tryd.underlying22 hi hz0 hz1 hz2 rfl (by decide) none 0 0 [] rfl ?g0 ?g1 ?g2 ⟨wr.heap.size, 0, none⟩ 1 1 [m2 i] rfl rfl (cell_new _ _ _) ?g3 (by omega) ?g4 ?g5 ?_)
                case g3 => first | rfl | (intro u hu; simp at hu; subst hu; rfl)
                case g4 => unfold maxLen; omega
                intro v' w6 hown' hgrow
                have hG6 := (HI.out.2.2.fresh (World.grownBy_alloc wr _ none)).fresh hgrow
                have hfr : ∃ y' c', v' = .slice y' 1 c' ∧ ∃ b, v'.ownBlock = some b ∧ H ≤ b := by
                  obtain ⟨hx1, h | ⟨g', cap', cur, hv, hg', _⟩⟩ := hown'
                  · omega
                  · exact ⟨_, _, hv, g', by rw [hv]; rfl, by first | omega | (simp at hg'; omega)⟩
                obtain ⟨y', c', rfl, hfr⟩ := hfr
                have hown2 : w6.ownsRow B E 1 (.slice y' 1 c') 1 [m2 i] := by
                  obtain ⟨hx1, h | ⟨g', cap', cur, hv, hg', r⟩⟩ := hown'
                  · omega
                  · exact ⟨hx1, Or.inr ⟨g', cap', cur, hv, by first | omega | (simp at hg'; omega), r⟩⟩
                have HF := Lib.hid (And.intro hown2 (And.intro hfr (And.intro hG6 (show H ≤ w6.heap.size by have := hgrow.size; simp at this; omega))))
                clear hown' hgrow hG6 hfr hown2 ho
                go_wp2_with fail
                go_roundw
                case rel => exact ⟨1, y', c', by omega, by go_num, rfl, HF.out.1, Or.inr HF.out.2.1, HF.out.2.2.2, HF.out.2.2.1⟩
                case measure => simp [intOf]
              · have hyc : some g = (Rw.val (xa, xc, xn)).ownBlock ∨ H ≤ g := by
                  rcases hcase with h | ⟨b, h1, h2⟩
                  · exact Or.inl h
                  · right
                    have : g = b := by simpa [Value.ownBlock] using h1
                    omega
                have HY := Lib.hid hyc
                clear hcase hG hyc hfz
                by_cases hroom : xn + j + 1 ≤ c
                · clear hcells
                  go_wp2_with (at_builtin; refine wpList_append_own_spare _ rfl _ _ 22 rfl B E i0 1 Tryd.underlying22 hi hz1 g (xn + j) c _ rfl (ho.alloc _) ⟨wr.heap.size, 0, none⟩ 1 1 [m2 i] rfl rfl (cell_new _ _ _) ?e2 (by omega) ?_)
                  case e2 => first | rfl | (intro u hu; simp at hu; subst hu; rfl)
                  intro w6 hown' hgrow
                  try rw [List.append_assoc] at hown'
                  rw [← List.replicate_succ'] at hown'
                  have hGa := HI.out.2.2.fresh (World.grownBy_alloc wr (.cells #[m2 i] E) none)
                  have hG6 := hGa.room HO.out HX.out.1 hHW HY.out hgrow (by show xn ≤ xn + j; omega) (ho.alloc _) hown'
                  have HF := Lib.hid (And.intro hown' (And.intro hG6 (show H ≤ w6.heap.size by have := hgrow.size; simp at this; omega)))
                  clear hown' hgrow hG6 hGa ho
                  go_wp2_with fail
                  go_roundw
                  case rel =>
                    refine ⟨j + 1, some ⟨g, 0, none⟩, c, by omega, by go_num, rfl, HF.out.1, ?_, HF.out.2.2, HF.out.2.1⟩
                    rcases HY.out with h | h
                    · exact Or.inl h
                    · exact Or.inr ⟨g, rfl, h⟩
                  case measure => simp [intOf]; omega
                · clear hcells hCl
                  have HOLD := Lib.hid ((ho.alloc (.cells #[m2 i] E)).cells (g := g) rfl)
                  go_wp2_with (at_builtin; refine wpList_append_grows _ rfl _ _ 22 rfl E i0 (.int .i64 0) 1 8 Tryd.underlying22 hi hz0 hz1 hz2 rfl (by decide) (some ⟨g, 0, none⟩) (xn + j) c (List.replicate xn (m1 i) ++ List.replicate j (m2 i)) rfl ?h0 ?h1 (fun b hb => by cases hb; exact HOLD.out) ⟨wr.heap.size, 0, none⟩ 1 1 [m2 i] rfl rfl (cell_new _ _ _) ?h3 (by omega) ?h4 ?h5 ?_)
                  case h3 => first | rfl | (intro u hu; simp at hu; subst hu; rfl)
                  case h4 => unfold maxLen; omega
                  case h5 => omega
                  intro v' w6 hown' hgrow
                  try rw [List.append_assoc] at hown'
                  rw [← List.replicate_succ'] at hown'
                  have hG6 := (HI.out.2.2.fresh (World.grownBy_alloc wr _ none)).fresh hgrow
                  have hfr : ∃ y' c', v' = .slice y' (xn + j + 1) c' ∧ (∃ b, v'.ownBlock = some b ∧ H ≤ b) ∧ w6.ownsRow B E 1 (.slice y' (xn + j + 1) c') (xn + j + 1) (List.replicate xn (m1 i) ++ List.replicate (j + 1) (m2 i)) := by
                    obtain ⟨hx1, h | ⟨g', cap', cur, hv, hg', r⟩⟩ := hown'
                    · omega
                    · subst hv
                      exact ⟨_, _, rfl, ⟨g', rfl, by first | omega | (simp at hg'; omega)⟩, hx1, Or.inr ⟨g', cap', cur, rfl, by first | omega | (simp at hg'; omega), r⟩⟩
                  obtain ⟨y', c', rfl, hfr, hown2⟩ := hfr
                  have HF := Lib.hid (And.intro hown2 (And.intro hfr (And.intro hG6 (show H ≤ w6.heap.size by have := hgrow.size; simp at this; omega))))
                  clear hown' hgrow hG6 hfr hown2 ho
                  go_wp2_with fail
                  go_roundw
                  case rel => exact ⟨j + 1, y', c', by omega, by go_num, rfl, HF.out.1, Or.inr HF.out.2.1, HF.out.2.2.2, HF.out.2.2.1⟩
                  case measure => simp [intOf]; omega
            · obtain rfl : j = 40 := by omega
              have hgl2 : gv.length = L.length := hgl
              obtain ⟨v0, hv0⟩ : ∃ v0, gv[i]? = some v0 := ⟨_, List.getElem?_eq_getElem (by omega)⟩
              have hcg : wr.cell? ⟨G, i, none⟩ = some v0 := (hG.row.cellAt i (by omega)).trans hv0
              have hfg : wr.frozen? ⟨G, i, none⟩ = false := hG.row.frozenAt i
              obtain ⟨s1, s2⟩ := hG.row.stored i (.slice y (xn + 40) c)
              have hEG : ∀ {b n : Nat} {v : Value} {xs : List Value}, wr.ownsRow b E 1 v n xs → v.ownBlock = none ∨ v.ownBlock ≠ some G := fun {b n v xs} h => other_type h hG.row (by decide)
              have hBo : y = none ∨ ∃ b, (Value.slice y (xn + 40) c).ownBlock = some b := by
                cases y with
                | none => exact Or.inl rfl
                | some a => exact Or.inr ⟨_, rfl⟩
              have hnew : Got B w (wr.setCell ⟨G, i, none⟩ (.slice y (xn + 40) c)) L Q qo G (i + 1) (gv.set i (.slice y (xn + 40) c)) := by
                refine ⟨fun k z hz => (hG.marked k z hz).kept s2 (hEG (hG.marked k z hz)), s1, fun k z hk hz => ?_, hG.sit.kept s2 (by simp; omega), hG.below.step s2 (fun k hk => Or.inr (by have := Option.some.inj hk; omega))⟩
                by_cases hki : k = i
                · subst hki
                  have hz' : z = (xa, xc, xn) := Option.some.inj (hz.symm.trans HX.out.1)
                  subst hz'
                  refine ⟨_, List.getElem?_set_self (by omega), y, c, rfl, ho.kept s2 (hEG ho), fun k' x' hk' hx' => ?_⟩
                  rcases hcase with h | ⟨b, h1, h2⟩
                  · rw [h]
                    exact HP.out.1.two k k' _ x' HX.out.1 hx' (Ne.symm hk')
                  · right
                    rw [h1]
                    rcases HO.out.lists k' x' hx' with h3 | ⟨b', h3, h4⟩
                    · rw [h3]; simp
                    · rw [h3]; simp; omega
                · obtain ⟨v, hv, hf⟩ := hG.full k z (by omega) hz
                  refine ⟨v, by rw [List.getElem?_set_ne (Ne.symm hki)]; exact hv, hf.kept s2 ?_⟩
                  obtain ⟨y', c', rfl, ho', _⟩ := hf
                  exact hEG ho'
              have HN := Lib.hid hnew
              have hiL : i < L.length := (List.getElem?_eq_some_iff.1 HX.out.1).1
              clear hnew s1 s2 hEG hBo hv0 hG ho hcase
              go_wp2_with fail
              go_roundw
              case rel => exact ⟨i + 1, _, by omega, by go_num, HN.out⟩
              case measure => simp [intOf]; omega
        · obtain rfl : i = L.length := by omega
          have HF := Lib.hid hG
          clear hG hlt HGG
          go_wp2_with fail
          go_loop [9] (fun v => ∃ i : Nat, i ≤ L.length ∧ v = .int .i64 (i : Int)) (fun v => L.length - (intOf v).toNat)
          case atStart => exact ⟨0, Nat.zero_le _, rfl⟩
          case round =>
            obtain ⟨i, hi2, rfl⟩ := hrel
            by_cases hlt : i < L.length
            · obtain ⟨x, hx⟩ : ∃ x, L[i]? = some x := ⟨_, List.getElem?_eq_getElem hlt⟩
              have hxl := HP.out.2.2.2 x (List.mem_of_getElem? hx)
              have hcell := HF.out.sit.cell i x hx
              have hmx := HF.out.marked i x hx
              obtain ⟨v, hv, y, c, rfl, ho, _⟩ := HF.out.full i x hlt hx
              obtain ⟨xa, xc, xn⟩ := x
              replace hxl : xn ≤ 100000 := hxl
              replace hcell : wp.cell? ⟨Q, qo + i, none⟩ = some (.slice xa xn xc) := hcell
              replace hmx : wp.ownsRow B E 1 (.slice xa xn xc) xn (List.replicate xn (m1 i)) := hmx
              replace ho : wp.ownsRow B E 1 (.slice y (xn + 40) c) (xn + 40) (List.replicate xn (m1 i) ++ List.replicate 40 (m2 i)) := ho
              have hcg : wp.cell? ⟨G, i, none⟩ = some (.slice y (xn + 40) c) := (HF.out.row.cellAt i (by omega)).trans hv
              rcases shape ho with ⟨_, h0, _⟩ | ⟨g, rfl, hgB, hgl3, hnc, hcmx, hCl, hcells, _⟩
              · omega
              have HM := Lib.hid (And.intro hmx hcells)
              clear hx hv ho hmx hcells hCl
              go_wp2_with fail
              go_loop [11] (fun v => ∃ j : Nat, j ≤ xn + 40 ∧ v = .int .i64 (j : Int)) (fun v => xn + 40 - (intOf v).toNat)
              case atStart => exact ⟨0, Nat.zero_le _, rfl⟩
              case round =>
                obtain ⟨j, hj, rfl⟩ := hrel
                by_cases hjl : j < xn + 40
                · have hcj := HM.out.2 j hjl
                  have hmod : i ≤ 1000 := by omega
                  have hmod2 : i ≤ 1000 := by omega
                  by_cases hjn : j < xn
                  · rw [List.getElem?_append_left (by simpa using hjn), List.getElem?_replicate, if_pos hjn] at hcj
                    rcases shape HM.out.1 with ⟨_, h0, _⟩ | ⟨g2, rfl, _, _, hnc2, hcmx2, _, hcells2, _⟩
                    · omega
                    have hcj2 := hcells2 j hjn
                    rw [List.getElem?_replicate, if_pos hjn] at hcj2
                    unfold m1 at hcj hcj2
                    clear hcells2
                    go_wp2_with fail
                    go_round
                    case rel => exact ⟨j + 1, by omega, by go_num⟩
                    case measure => simp [intOf]; omega
                  · rw [List.getElem?_append_right (by simp; omega), List.getElem?_replicate, if_pos (by simp; omega)] at hcj
                    unfold m2 at hcj
                    go_wp2_with fail
                    go_round
                    case rel => exact ⟨j + 1, by omega, by go_num⟩
                    case measure => simp [intOf]; omega
                · obtain rfl : j = xn + 40 := by omega
                  go_wp2_with fail
                  go_round
                  case rel => exact ⟨i + 1, by omega, by go_num⟩
                  case measure => simp [intOf]; omega
            · obtain rfl : i = L.length := by omega
              go_wp2_with fail
              go_ret
              exact ⟨rfl, HF.out.below⟩
end Go.Proofs.YtienaogmljlmlaaDoor.apartI
end
section
namespace Go.Proofs.YtienaogmljlmlaaDoor
open Go.RowKit

/-- A list that was made: between two sizes of the heap lies its block. -/
abbrev MkI := Sl × Nat × Nat
/-- What a law knows on its way: the lent lists (below B), and the lists that were made (from B on), the newest first. -/
structure Kq (w wx : World) (B : Nat) (Ls : List (Nat × List Int)) (Lo : List MkI) : Prop where
  below : Below w.heap.size w wx
  lent : ∀ (i : Nat) (x : Nat × List Int), Ls[i]? = some x → LentI wx x.1 x.2 ∧ w.heap.size ≤ x.1 ∧ x.1 < B
  nd : ∀ (i j : Nat) (x y : Nat × List Int), Ls[i]? = some x → Ls[j]? = some y → i ≠ j → x.1 ≠ y.1
  base : B ≤ wx.heap.size
  low : w.heap.size ≤ B
  own : ∀ (i : Nat) (e : MkI), Lo[i]? = some e → IntO e.2.1 wx e.1.1 e.1.2.1 e.1.2.2 ∧ B ≤ e.2.1 ∧ (∀ k, (Sl.val e.1).ownBlock = some k → k < e.2.2) ∧ e.2.2 ≤ wx.heap.size
  apart : ∀ (i j : Nat) (e f : MkI), i < j → Lo[i]? = some e → Lo[j]? = some f → f.2.2 ≤ e.2.1
theorem Kq.next {w wx w' : World} {B : Nat} {Ls : List (Nat × List Int)} {Lo : List MkI} (K : Kq w wx B Ls Lo) (hb : Below wx.heap.size wx w') : Kq w w' B Ls Lo :=
  ⟨K.below.trans (hb.mono K.below.size), fun i x hx => ⟨(K.lent i x hx).1.below hb, (K.lent i x hx).2⟩, K.nd, Nat.le_trans K.base hb.size, K.low, fun i e he => by
    obtain ⟨h1, h2, h3, h4⟩ := K.own i e he
    exact ⟨h1.next hb, h2, h3, Nat.le_trans h4 hb.size⟩, K.apart⟩
theorem Kq.alloc {w wx : World} {B : Nat} {Ls : List (Nat × List Int)} {Lo : List MkI} (K : Kq w wx B Ls Lo) (o : Obj) : Kq w (wx.alloc o) B Ls Lo := K.next ((Below.refl _ _).alloc (Nat.le_refl _) _)
theorem IntO.lt {base : Nat} {w : World} {p : Option Addr} {c : Nat} {l : List Int} (h : IntO base w p c l) : ∀ k, (Sl.val (p, c, l)).ownBlock = some k → base ≤ k ∧ k < w.heap.size := fun k hk => World.ownsRow.lt h k hk
theorem Kq.push {w wx w' : World} {B : Nat} {Ls : List (Nat × List Int)} {Lo : List MkI} (K : Kq w wx B Ls Lo) (hb : Below wx.heap.size wx w') {p : Option Addr} {c : Nat} {l : List Int} (ho : IntO wx.heap.size w' p c l) : Kq w w' B Ls (((p, c, l), wx.heap.size, w'.heap.size) :: Lo) := by
  have K' := K.next hb
  refine ⟨K'.below, K'.lent, K'.nd, K'.base, K'.low, fun i e he => ?_, fun i j e f hij he hf => ?_⟩
  · cases i with
    | zero =>
      obtain rfl := Option.some.inj he
      exact ⟨ho, K.base, fun k hk => (ho.lt k hk).2, Nat.le_refl _⟩
    | succ i => exact K'.own i e he
  · cases j with
    | zero => omega
    | succ j =>
      cases i with
      | zero =>
        obtain rfl := Option.some.inj he
        exact (K.own j f hf).2.2.2
      | succ i => exact K'.apart i j e f (by omega) he hf
theorem Kq.get {w wx : World} {B : Nat} {Ls : List (Nat × List Int)} {Lo : List MkI} (K : Kq w wx B Ls Lo) (i : Nat) {p : Option Addr} {c lo hi : Nat} {l : List Int} (h : Lo[i]? = some ((p, c, l), lo, hi)) : IntV wx.heap.size wx p c l := (K.own i _ h).1.toV
theorem LentI.vn {w : World} {g m : Nat} {l : List Int} (h : LentI w g l) (hn : m = l.length + 2) (hl : l.length ≤ 17592186043904) : IntV w.heap.size w (some ⟨g, 0, none⟩) m l := by
  subst hn
  exact (LentI.own (base := 0) (Nat.zero_le _) hl h).toV
theorem Kq.old {w wx : World} {B : Nat} {Ls : List (Nat × List Int)} {Lo : List MkI} (K : Kq w wx B Ls Lo) {p : Option Addr} {c : Nat} {l : List Int} (h : IntV w.heap.size w p c l) : IntV wx.heap.size wx p c l := h.next K.below
/-- a lent list is written -/
theorem Kq.setx {w wx : World} {B : Nat} {Ls : List (Nat × List Int)} {Lo : List MkI} (K : Kq w wx B Ls Lo) (k g : Nat) (l : List Int) (hk : Ls[k]? = some (g, l)) (i : Nat) (v : Int) (hi : i < l.length) : Kq w (wx.setCell ⟨g, i, none⟩ (.int .i64 v)) B (Ls.set k (g, l.set i v)) Lo := by
  have hs : (wx.setCell ⟨g, i, none⟩ (.int .i64 v)).heap.size = wx.heap.size := by simp [World.setCell]
  have hg : wx.grownBy (wx.setCell ⟨g, i, none⟩ (.int .i64 v)) (some g) := ⟨rfl, rfl, rfl, by rw [hs]; exact Nat.le_refl _, fun k _ hne => Below.heap_setCell wx ⟨g, i, none⟩ _ k (fun e => hne (by rw [e]))⟩
  obtain ⟨hx, hx1, hx2⟩ := K.lent k _ hk
  have hset : ∀ (j : Nat) (x : Nat × List Int), (Ls.set k (g, l.set i v))[j]? = some x → (j = k ∧ x = (g, l.set i v)) ∨ (j ≠ k ∧ Ls[j]? = some x) := fun j x hj => by
    by_cases e : j = k
    · subst e
      rw [List.getElem?_set_self (List.getElem?_eq_some_iff.1 hk).1] at hj
      exact Or.inl ⟨rfl, (Option.some.inj hj).symm⟩
    · rw [List.getElem?_set_ne (Ne.symm e)] at hj
      exact Or.inr ⟨e, hj⟩
  refine ⟨K.below.setCell (p := ⟨g, i, none⟩) hx1 _, fun j x hj => ?_, fun j j' x y hj hj' hne => ?_, by rw [hs]; exact K.base, K.low, fun j e he => ?_, K.apart⟩
  · rcases hset j x hj with ⟨_, rfl⟩ | ⟨hne, hj⟩
    · refine ⟨?_, hx1, hx2⟩
      unfold LentI
      rw [heap_setCell_same _ g i _ _ _ hx]
      congr 2
      rw [← Array.toList_inj]
      simp only [Array.toList_setIfInBounds]
      rw [← cI_set, List.set_append_left _ _ hi]
    · obtain ⟨h1, h2, h3⟩ := K.lent j x hj
      have hxg : x.1 ≠ g := K.nd j k x _ hj hk hne
      exact ⟨h1.block (hg.block x.1 h1.lt (by simpa using hxg)), h2, h3⟩
  · rcases hset j x hj with ⟨a1, a2⟩ | ⟨a1, a2⟩
    · rcases hset j' y hj' with ⟨b1, b2⟩ | ⟨b1, b2⟩
      · exact absurd (a1.trans b1.symm) hne
      · rw [a2]
        exact K.nd k j' (g, l) y hk b2 (Ne.symm b1)
    · rcases hset j' y hj' with ⟨b1, b2⟩ | ⟨b1, b2⟩
      · rw [b2]
        exact K.nd j k x (g, l) a2 hk a1
      · exact K.nd j j' x y a2 b2 hne
  · obtain ⟨h1, h2, h3, h4⟩ := K.own j e he
    refine ⟨World.ownsRow.kept h1 hg ?_, h2, h3, by rw [hs]; exact h4⟩
    cases hb : (Sl.val e.1).ownBlock with
    | none => exact Or.inl hb
    | some z =>
      right
      have h5 := (IntO.lt h1 z hb).1
      have h7 : (Value.slice e.1.1 e.1.2.2.length e.1.2.1).ownBlock = some z := hb
      rw [h7]
      simp
      omega
def rwOf (Lo : List MkI) (i : Nat) : apartI.Rw := match Lo[i]? with
  | some e => (e.1.1, e.1.2.1, e.1.2.2.length)
  | none => (none, 0, 0)
theorem rwOf_some {Lo : List MkI} {i : Nat} {e : MkI} (h : Lo[i]? = some e) : rwOf Lo i = (e.1.1, e.1.2.1, e.1.2.2.length) := by unfold rwOf; rw [h]
theorem own_chooseI {B : Nat} {w : World} {L : List apartI.Rw} (h : ∀ (k : Nat) (x : apartI.Rw), L[k]? = some x → ∃ xs, w.ownsRow B apartI.E 1 x.val x.2.2 xs) : ∃ C, apartI.OwnAll B w L C := by
  have key : ∀ k : Nat, ∃ xs : List Value, ∀ x : apartI.Rw, L[k]? = some x → w.ownsRow B apartI.E 1 x.val x.2.2 xs := fun k => by
    cases hk : L[k]? with
    | none => exact ⟨[], fun x hx => by cases hx⟩
    | some y =>
      obtain ⟨xs, hxs⟩ := h k y hk
      exact ⟨xs, fun x hx => by obtain rfl := Option.some.inj hx; exact hxs⟩
  exact ⟨fun k => Classical.choose (key k), fun k x hx => Classical.choose_spec (key k) x hx⟩
theorem IntO.toV_of {base : Nat} {w w' : World} {p : Option Addr} {c : Nat} {l : List Int} (h : IntO base w p c l) (hs : w.heap.size ≤ w'.heap.size) (hb : ∀ z, base ≤ z → z < w.heap.size → (Sl.val (p, c, l)).ownBlock = some z → w'.heap[z]? = w.heap[z]?) : IntV w'.heap.size w' p c l := by
  have hv := h.toV
  refine ⟨hv.le, hv.cap, hv.nil, fun hn => ?_⟩
  rcases own_shape h with ⟨hv', h0, _⟩ | ⟨g, cap, hv', hg, hgl, hc, hm, hcl, _⟩
  · exact absurd (List.eq_nil_of_length_eq_zero h0) hn
  · obtain ⟨rfl, rfl⟩ : p = some ⟨g, 0, none⟩ ∧ c = cap := by simpa using hv'
    exact ⟨g, 0, rfl, by omega, fun j x hx => by rw [Nat.zero_add]; exact (World.cell?_of_block (hb g hg hgl rfl)).trans ((hcl j (ltI hx)).trans (cI_get hx))⟩
/-- what is left when lists were found apart: the lent ones, and the made ones that were not asked -/
def ApartPost (w : World) (Ls : List (Nat × List Int)) (Lo : List MkI) (Ks : List Nat) (e : Ending) (w' : World) : Prop :=
  e = .returned (.bool true) ∧ Below w.heap.size w w' ∧ (∀ (i : Nat) (x : Nat × List Int), Ls[i]? = some x → LentI w' x.1 x.2) ∧ ∀ (i : Nat) (f : MkI), Lo[i]? = some f → i ∉ Ks → IntV w'.heap.size w' f.1.1 f.1.2.1 f.1.2.2
theorem Kq.apart_call {w wx : World} {B : Nat} {Ls : List (Nat × List Int)} {Lo : List MkI} (K : Kq w wx B Ls Lo) (Ks : List Nat) (hK : Ks.Nodup) (cs : Array Value) (t : TypeId) (n : Nat) (hn : n = Ks.length) (hn2 : n ≤ 1000)
    (hall : ∀ (k i : Nat), Ks[k]? = some i → ∃ e : MkI, Lo[i]? = some e ∧ cs[k]? = some (Sl.val e.1) ∧ e.1.2.2.length ≤ 100000) :
    Calls Tryd.prog 21 #[.slice (some ⟨wx.heap.size, 0, none⟩) n n] (wx.alloc (.cells cs t)) (ApartPost w Ls Lo Ks) := by
  subst hn
  have hL : ∀ (k : Nat) (x : apartI.Rw), (Ks.map (rwOf Lo))[k]? = some x → ∃ (i : Nat) (e : MkI), Ks[k]? = some i ∧ Lo[i]? = some e ∧ x = (e.1.1, e.1.2.1, e.1.2.2.length) ∧ cs[k]? = some (Sl.val e.1) ∧ e.1.2.2.length ≤ 100000 := fun k x hx => by
    rw [List.getElem?_map] at hx
    obtain ⟨i, hi, rfl⟩ := Option.map_eq_some_iff.1 hx
    obtain ⟨e, he, hc, hl⟩ := hall k i hi
    exact ⟨i, e, hi, he, rwOf_some he, hc, hl⟩
  have hval : ∀ e : MkI, apartI.Rw.val (e.1.1, e.1.2.1, e.1.2.2.length) = Sl.val e.1 := fun e => rfl
  have key : ∀ (i : Nat) (e : MkI), Lo[i]? = some e → (Sl.val e.1).ownBlock = none ∨ ∃ z, (Sl.val e.1).ownBlock = some z ∧ e.2.1 ≤ z ∧ z < e.2.2 := fun i e he => by
    cases hb : (Sl.val e.1).ownBlock with
    | none => exact Or.inl rfl
    | some z => exact Or.inr ⟨z, rfl, (IntO.lt (K.own i e he).1 z hb).1, (K.own i e he).2.2.1 z hb⟩
  have hsz : wx.heap.size < (wx.alloc (.cells cs t)).heap.size := by simp
  have hP : apartI.Parts (Ks.map (rwOf Lo)) wx.heap.size := by
    refine ⟨fun k k' x x' hx hx' hne => ?_, fun k x hx => ?_⟩
    · obtain ⟨i, e, hi, he, rfl, _⟩ := hL k x hx
      obtain ⟨j, f, hj, hf, rfl, _⟩ := hL k' x' hx'
      have hij : i ≠ j := by
        rintro rfl
        obtain ⟨h1, h2⟩ := List.getElem?_eq_some_iff.1 hi
        obtain ⟨h3, h4⟩ := List.getElem?_eq_some_iff.1 hj
        have hp := List.pairwise_iff_getElem.1 hK
        rcases Nat.lt_or_gt_of_ne hne with h | h
        · exact hp k k' h1 h3 h (h2.trans h4.symm)
        · exact hp k' k h3 h1 h (h4.trans h2.symm)
      rw [hval, hval]
      rcases key i e he with h | ⟨z, h1, h2, h3⟩
      · exact Or.inl h
      · right
        rcases key j f hf with h | ⟨z', h4, h5, h6⟩
        · rw [h1, h]; intro e'; cases e'
        · intro e'
          rw [h1, h4] at e'
          have e3 := Option.some.inj e'
          rcases Nat.lt_or_gt_of_ne hij with h | h
          · have := K.apart i j e f h he hf; omega
          · have := K.apart j i f e h hf he; omega
    · obtain ⟨i, e, hi, he, rfl, _⟩ := hL k x hx
      rw [hval]
      intro e'
      have h1 := (K.own i e he).2.2.1 _ e'
      have h2 := (K.own i e he).2.2.2
      omega
  obtain ⟨C0, hC0⟩ := own_chooseI (B := B) (w := wx.alloc (.cells cs t)) (L := Ks.map (rwOf Lo)) (fun k x hx => by
    obtain ⟨i, e, _, he, rfl, _⟩ := hL k x hx
    obtain ⟨h1, h2, _, _⟩ := K.own i e he
    exact ⟨_, World.ownsRow.alloc (h1.base h2) _⟩)
  have hS : apartI.Sit (wx.alloc (.cells cs t)) wx.heap.size 0 (Ks.map (rwOf Lo)) := ⟨hsz, fun j x hx => by
    obtain ⟨i, e, _, he, rfl, hc, _⟩ := hL j x hx
    rw [Nat.zero_add, cell_alloc_row, hval, hc]⟩
  have hlen : ∀ x ∈ Ks.map (rwOf Lo), x.2.2 ≤ 100000 := fun x hx => by
    obtain ⟨k, hk⟩ := List.getElem?_of_mem hx
    obtain ⟨i, e, _, _, rfl, _, hl⟩ := hL k x hk
    exact hl
  have h := apartI.apart_any B (Ks.map (rwOf Lo)) wx.heap.size 0 Ks.length (wx.alloc (.cells cs t)) (Nat.le_trans K.base (Nat.le_of_lt hsz)) hP C0 hC0 hS (by rw [List.length_map]; exact hn2) hlen (by rw [List.length_map]; exact Nat.le_refl _) (by omega)
  rw [List.length_map] at h
  refine h.mono ?_
  rintro e w' ⟨rfl, hfr⟩
  have hblk : ∀ z, z < wx.heap.size → (∀ (k i : Nat) (e : MkI), Ks[k]? = some i → Lo[i]? = some e → (Sl.val e.1).ownBlock ≠ some z) → w'.heap[z]? = wx.heap[z]? := fun z hz hno => by
    rw [hfr.block z (Nat.lt_trans hz hsz) (fun k x hx => by
      obtain ⟨i, e, hi, he, rfl, _⟩ := hL k x hx
      rw [hval]
      exact hno k i e hi he)]
    exact Below.heap_alloc _ _ _ hz
  have hlow : ∀ z, z < B → w'.heap[z]? = wx.heap[z]? := fun z hz => hblk z (Nat.lt_of_lt_of_le hz K.base) (fun k i e _ he h => by
    have h1 := (IntO.lt (K.own i e he).1 z h).1
    have h2 := (K.own i e he).2.1
    omega)
  have hBl : ∀ z, z < w.heap.size → w'.heap[z]? = wx.heap[z]? := fun z hz => hlow z (Nat.lt_of_lt_of_le hz K.low)
  refine ⟨rfl, K.below.trans ⟨hfr.os, hfr.tape, hfr.output, by have := hfr.size; have := K.below.size; omega, fun k hk => hBl k hk⟩, fun i x hx => ?_, fun i f hf hni => ?_⟩
  · obtain ⟨h1, _, h3⟩ := K.lent i x hx
    exact h1.block (hlow x.1 h3)
  · obtain ⟨h1, h2, h3, h4⟩ := K.own i f hf
    refine IntO.toV_of h1 (by have := hfr.size; omega) (fun z hz1 hz2 hzo => hblk z hz2 (fun k j e hj he hze => ?_))
    have hij : i ≠ j := by rintro rfl; exact hni (List.mem_of_getElem? hj)
    have e1 := (IntO.lt (K.own j e he).1 z hze).1
    have e2 := (K.own j e he).2.2.1 z hze
    have e3 := h3 z hzo
    rcases Nat.lt_or_gt_of_ne hij with h | h
    · have := K.apart i j f e h hf he; omega
    · have := K.apart j i e f h he hf; omega
end Go.Proofs.YtienaogmljlmlaaDoor
end
section
namespace Go.Proofs.YtienaogmljlmlaaDoor
open Go.RowKit

def ApartFar (w wx : World) (Lo : List MkI) (Ks : List Nat) (e : Ending) (w' : World) : Prop :=
  e = .returned (.bool true) ∧ Below w.heap.size w w' ∧ (∀ z, z < wx.heap.size → (∀ (i : Nat) (f : MkI), i ∈ Ks → Lo[i]? = some f → ¬ (f.2.1 ≤ z ∧ z < f.2.2)) → w'.heap[z]? = wx.heap[z]?) ∧ wx.heap.size ≤ w'.heap.size
theorem Kq.apart_far {w wx : World} {B : Nat} {Ls : List (Nat × List Int)} {Lo : List MkI} (K : Kq w wx B Ls Lo) (Ks : List Nat) (hK : Ks.Nodup) (cs : Array Value) (t : TypeId) (n : Nat) (hn : n = Ks.length) (hn2 : n ≤ 1000)
    (hall : ∀ (k i : Nat), Ks[k]? = some i → ∃ e : MkI, Lo[i]? = some e ∧ cs[k]? = some (Sl.val e.1) ∧ e.1.2.2.length ≤ 100000) :
    Calls Tryd.prog 21 #[.slice (some ⟨wx.heap.size, 0, none⟩) n n] (wx.alloc (.cells cs t)) (ApartFar w wx Lo Ks) := by
  subst hn
  have hL : ∀ (k : Nat) (x : apartI.Rw), (Ks.map (rwOf Lo))[k]? = some x → ∃ (i : Nat) (e : MkI), Ks[k]? = some i ∧ Lo[i]? = some e ∧ x = (e.1.1, e.1.2.1, e.1.2.2.length) ∧ cs[k]? = some (Sl.val e.1) ∧ e.1.2.2.length ≤ 100000 := fun k x hx => by
    rw [List.getElem?_map] at hx
    obtain ⟨i, hi, rfl⟩ := Option.map_eq_some_iff.1 hx
    obtain ⟨e, he, hc, hl⟩ := hall k i hi
    exact ⟨i, e, hi, he, rwOf_some he, hc, hl⟩
  have hval : ∀ e : MkI, apartI.Rw.val (e.1.1, e.1.2.1, e.1.2.2.length) = Sl.val e.1 := fun e => rfl
  have key : ∀ (i : Nat) (e : MkI), Lo[i]? = some e → (Sl.val e.1).ownBlock = none ∨ ∃ z, (Sl.val e.1).ownBlock = some z ∧ e.2.1 ≤ z ∧ z < e.2.2 := fun i e he => by
    cases hb : (Sl.val e.1).ownBlock with
    | none => exact Or.inl rfl
    | some z => exact Or.inr ⟨z, rfl, (IntO.lt (K.own i e he).1 z hb).1, (K.own i e he).2.2.1 z hb⟩
  have hsz : wx.heap.size < (wx.alloc (.cells cs t)).heap.size := by simp
  have hP : apartI.Parts (Ks.map (rwOf Lo)) wx.heap.size := by
    refine ⟨fun k k' x x' hx hx' hne => ?_, fun k x hx => ?_⟩
    · obtain ⟨i, e, hi, he, rfl, _⟩ := hL k x hx
      obtain ⟨j, f, hj, hf, rfl, _⟩ := hL k' x' hx'
      have hij : i ≠ j := by
        rintro rfl
        obtain ⟨h1, h2⟩ := List.getElem?_eq_some_iff.1 hi
        obtain ⟨h3, h4⟩ := List.getElem?_eq_some_iff.1 hj
        have hp := List.pairwise_iff_getElem.1 hK
        rcases Nat.lt_or_gt_of_ne hne with h | h
        · exact hp k k' h1 h3 h (h2.trans h4.symm)
        · exact hp k' k h3 h1 h (h4.trans h2.symm)
      rw [hval, hval]
      rcases key i e he with h | ⟨z, h1, h2, h3⟩
      · exact Or.inl h
      · right
        rcases key j f hf with h | ⟨z', h4, h5, h6⟩
        · rw [h1, h]; intro e'; cases e'
        · intro e'
          rw [h1, h4] at e'
          have e3 := Option.some.inj e'
          rcases Nat.lt_or_gt_of_ne hij with h | h
          · have := K.apart i j e f h he hf; omega
          · have := K.apart j i f e h hf he; omega
    · obtain ⟨i, e, hi, he, rfl, _⟩ := hL k x hx
      rw [hval]
      intro e'
      have h1 := (K.own i e he).2.2.1 _ e'
      have h2 := (K.own i e he).2.2.2
      omega
  obtain ⟨C0, hC0⟩ := own_chooseI (B := B) (w := wx.alloc (.cells cs t)) (L := Ks.map (rwOf Lo)) (fun k x hx => by
    obtain ⟨i, e, _, he, rfl, _⟩ := hL k x hx
    obtain ⟨h1, h2, _, _⟩ := K.own i e he
    exact ⟨_, World.ownsRow.alloc (h1.base h2) _⟩)
  have hS : apartI.Sit (wx.alloc (.cells cs t)) wx.heap.size 0 (Ks.map (rwOf Lo)) := ⟨hsz, fun j x hx => by
    obtain ⟨i, e, _, he, rfl, hc, _⟩ := hL j x hx
    rw [Nat.zero_add, cell_alloc_row, hval, hc]⟩
  have hlen : ∀ x ∈ Ks.map (rwOf Lo), x.2.2 ≤ 100000 := fun x hx => by
    obtain ⟨k, hk⟩ := List.getElem?_of_mem hx
    obtain ⟨i, e, _, _, rfl, _, hl⟩ := hL k x hk
    exact hl
  have h := apartI.apart_any B (Ks.map (rwOf Lo)) wx.heap.size 0 Ks.length (wx.alloc (.cells cs t)) (Nat.le_trans K.base (Nat.le_of_lt hsz)) hP C0 hC0 hS (by rw [List.length_map]; exact hn2) hlen (by rw [List.length_map]; exact Nat.le_refl _) (by omega)
  rw [List.length_map] at h
  refine h.mono ?_
  rintro e w' ⟨rfl, hfr⟩
  have hblk : ∀ z, z < wx.heap.size → (∀ (k i : Nat) (e : MkI), Ks[k]? = some i → Lo[i]? = some e → (Sl.val e.1).ownBlock ≠ some z) → w'.heap[z]? = wx.heap[z]? := fun z hz hno => by
    rw [hfr.block z (Nat.lt_trans hz hsz) (fun k x hx => by
      obtain ⟨i, e, hi, he, rfl, _⟩ := hL k x hx
      rw [hval]
      exact hno k i e hi he)]
    exact Below.heap_alloc _ _ _ hz
  have hBl : ∀ z, z < w.heap.size → w'.heap[z]? = wx.heap[z]? := fun z hz => hblk z (Nat.lt_of_lt_of_le hz K.below.size) (fun k i e _ he h => by
    have h1 := (IntO.lt (K.own i e he).1 z h).1
    have h2 := (K.own i e he).2.1
    have := K.low
    omega)
  exact ⟨rfl, K.below.trans ⟨hfr.os, hfr.tape, hfr.output, by have := hfr.size; have := K.below.size; omega, fun k hk => hBl k hk⟩, fun z hz hno => hblk z hz (fun k i e hk he h => hno i e (List.mem_of_getElem? hk) he ⟨(IntO.lt (K.own i e he).1 z h).1, (K.own i e he).2.2.1 z h⟩), by have := hfr.size; omega⟩
end Go.Proofs.YtienaogmljlmlaaDoor
end
