/- Package rule by its contracts, tenth part: Text of a rule that stands.
What the statements of layer 5 share: awake, and image.
append(l, y) in a statement that draws its order: whatever the list, the answer is an own list that reads it with y behind.
Package forms by its contracts, twelfth part: where Compose refuses, in one word.
edenraw.Under by its contract: an Err, told further.
edenraw.Rules of any two rules.
An argument that is a rule, opened.
An argument that is a list of limbs, opened: it reads a list of numbers below 2^32.
What a longer list gives: api's twelve errors behind three tables of the library; and one world that meets it. -/
import Derived.Test.YtienaogmljlmlaaGreatDoorB4
import Derived.Test.YtienaogmljlmlaaGreatDoorB3
import Derived.Lib.AppendIntMem
import Derived.Lib.ItoaLen
import Derived.Deep.RegionWith
import Derived.Deep.RegionHeld3
import Derived.Laws.Concat
import Derived.Test.YtienaogmljlmlaaGreatDoorB6
import Derived.Test.YtienaogmljlmlaaGreatDoorB1
import Derived.Deep.AppendLies
import Derived.Test.YtienaogmljlmlaaGreatDoorB5
import Derived.Deep.DrawnRows
import Derived.Lib.SmallJoins
import Derived.Test.YtienaogmljlmlaaGreatDoorB2
import Derived.ChangeSlices
section
namespace Go.Proofs.YtienaogmljlmlaaGreatDoor
open Go.RowKit Go.Extern.Stop Go.Stop Go.Extern WordM RuleM NatM

def itoaB (n : Int) : ByteArray := ⟨(Lib.itoa n).toArray⟩
theorem itoaB_size (n : Int) (h0 : -9223372036854775808 ≤ n) (h1 : n ≤ 9223372036854775807) : (itoaB n).size ≤ 21 := by
  have := Lib.itoa_length_le n h0 h1
  show (Lib.itoa n).toArray.size ≤ 21
  simpa using this
theorem itoa_small (n : Nat) (h : n ≤ 4) (w : World) :
    Calls Tryz.prog 54 #[.int .i64 (n : Int)] w (Tells (.string (itoaB (n : Int))) w) :=
  Tells.of_same ((Tryz.strconv_Itoa_small n (by omega) w).mono fun _ _ h => by first | exact h | exact ⟨h.1, h.2.symm⟩)

/-- a rule's text -/
def ruleText (K R N : Nat) : ByteArray := (((itoaB (K : Int) ++ ⟨#[46]⟩) ++ itoaB (R : Int)) ++ ⟨#[46]⟩) ++ textOf N

set_option maxRecDepth 100000 in
set_option maxHeartbeats 4000000 in
theorem rtext_ok (K R : Nat) (p : Option Addr) (n c : Nat) (t : List Int) (w : World) (hn : n = t.length) (h : IntV w.heap.size w p c t) (ho : OkR K R t) (hs : t.length ≤ 256) (hsz : (textOf (codeR K t)).size ≤ 100000) :
    Calls Tryz.prog 14 #[.agg #[.int .i64 (K : Int), .int .i64 (R : Int), .slice p n c]] w (Tells (.tuple #[.string (ruleText K R (codeR K t)), .nilIface]) w) := by
  have hcd := fun W hW => code_ok K R p n c t W hn hW ho hs
  have hNl : (D32 (codeR K t)).length ≤ 100000 := by
    have h1 := valW_len ho.k4 ho.rev
    unfold codeR
    rw [List.length_reverse] at h1
    omega
  obtain ⟨N, hN⟩ : ∃ N, codeR K t = N := ⟨_, rfl⟩
  rw [hN] at hsz hNl ⊢
  simp only [hN] at hcd
  have hnt := fun W q d hW => text_eq q (D32 N).length d (D32 N) W rfl hW hNl
  simp only [V32_D32] at hnt
  have hiK := fun W => itoa_small K ho.k4 W
  have hiR := fun W => itoa_small R (by have := ho.r3; omega) W
  have hsK := itoaB_size (K : Int) (by omega) (by have := ho.k4; omega)
  have hsR := itoaB_size (R : Int) (by omega) (by have := ho.r3; omega)
  have hdot : (⟨#[46]⟩ : ByteArray).size = 1 := rfl
  have a1 := fun (W : World) => run_string_add_sum (P := Tryz.prog) W (itoaB (K : Int)) ⟨#[46]⟩ (by omega)
  have a2 := fun (W : World) => run_string_add_sum (P := Tryz.prog) W (itoaB (K : Int) ++ ⟨#[46]⟩) (itoaB (R : Int)) (by rw [ByteArray.size_append]; omega)
  have a3 := fun (W : World) => run_string_add_sum (P := Tryz.prog) W ((itoaB (K : Int) ++ ⟨#[46]⟩) ++ itoaB (R : Int)) ⟨#[46]⟩ (by simp only [ByteArray.size_append]; omega)
  have a4 := fun (W : World) => run_string_add_sum (P := Tryz.prog) W (((itoaB (K : Int) ++ ⟨#[46]⟩) ++ itoaB (R : Int)) ++ ⟨#[46]⟩) (textOf N) (by simp only [ByteArray.size_append]; omega)
  have HF : Hid (ruleText K R N = (((itoaB (K : Int) ++ ⟨#[46]⟩) ++ itoaB (R : Int)) ++ ⟨#[46]⟩) ++ textOf N) := rfl
  obtain ⟨sK, hsK'⟩ : ∃ x, itoaB (K : Int) = x := ⟨_, rfl⟩
  obtain ⟨sR, hsR'⟩ : ∃ x, itoaB (R : Int) = x := ⟨_, rfl⟩
  obtain ⟨sN, hsN'⟩ : ∃ x, textOf N = x := ⟨_, rfl⟩
  simp only [hsK', hsR', hsN'] at hiK hiR hnt a1 a2 a3 a4 HF
  obtain ⟨p1, hp1⟩ : ∃ x, sK ++ (⟨#[46]⟩ : ByteArray) = x := ⟨_, rfl⟩
  rw [hp1] at a2 a3 a4 HF
  simp only [hp1] at a1
  obtain ⟨p2, hp2⟩ : ∃ x, p1 ++ sR = x := ⟨_, rfl⟩
  rw [hp2] at a3 a4 HF
  simp only [hp2] at a2
  obtain ⟨p3, hp3⟩ : ∃ x, p2 ++ (⟨#[46]⟩ : ByteArray) = x := ⟨_, rfl⟩
  rw [hp3] at a4 HF
  simp only [hp3] at a3
  obtain ⟨p4, hp4⟩ : ∃ x, p3 ++ sN = x := ⟨_, rfl⟩
  rw [hp4] at HF
  simp only [hp4] at a4
  obtain ⟨dl, hdl⟩ : ∃ z, (D32 N).length = z := ⟨_, rfl⟩
  simp only [hdl] at hnt
  have H := Lib.hid (And.intro h (And.intro hcd (And.intro hnt (And.intro hiK (And.intro hiR hdl)))))
  clear h hcd hnt hiK hiR hdl hn ho hs hsz hN hNl hsK hsR hdot hsK' hsR' hsN' hp1 hp2 hp3 hp4
  go_enter Tryz.func14, Tryz.ntmps14
  go_upto_region 1 with fail
  obtain ⟨w0, hw0⟩ : ∃ w0, w0 = w.alloc (.cells #[.int .i64 (K : Int), .int .i64 (R : Int), .slice p n c] 36) := ⟨_, rfl⟩
  have hb0 : Below w.heap.size w w0 := by rw [hw0]; exact (Below.refl _ _).alloc (Nat.le_refl _) _
  have hE0 : Rul3 w0 w.heap.size (.int .i64 (K : Int)) (.int .i64 (R : Int)) (.slice p n c) := by rw [hw0]; exact Rul3.new w _ _ _
  rw [← hw0]
  obtain ⟨_, hc0, hc1, hc2⟩ := hE0.facts
  have HE := Lib.hid (And.intro hE0 hb0)
  clear hw0 hE0 hb0
  go_wp2_with fail
  refine (H.out.2.1 w0 (H.out.1.next HE.out.2)).mono ?_
  rintro e w1 ⟨p1', c1', rfl, ho1, hb1⟩
  rw [H.out.2.2.2.2.2]
  clear hc0 hc1 hc2
  have hb01 := HE.out.2.trans (hb1.mono HE.out.2.size)
  have hx : ∀ wx : World, Below w1.heap.size w1 wx → wx.cell? ⟨w.heap.size, 0, none⟩ = some (.int .i64 (K : Int)) ∧ wx.cell? ⟨w.heap.size, 1, none⟩ = some (.int .i64 (R : Int)) := fun wx hbx =>
    ⟨((HE.out.1.next hb1).next hbx).facts.2.1, ((HE.out.1.next hb1).next hbx).facts.2.2.1⟩
  have hbx : ∀ wx : World, Below w1.heap.size w1 wx → Below w.heap.size w wx := fun wx hbx => hb01.trans (hbx.mono hb01.size)
  have hnx : ∀ wx : World, Below w1.heap.size w1 wx → NatV wx.heap.size wx p1' c1' (D32 N) := fun wx hbx => ho1.toV.next hbx
  have hr0 : Below w1.heap.size w1 w1 := Below.refl _ _
  have hd0 : Below w1.heap.size w1 w1.drew := (Below.refl _ _).drew
  have HX := Lib.hid (And.intro hx (And.intro hbx hnx))
  obtain ⟨hc0, hc1⟩ := hx w1 hr0
  clear hx hbx hnx hb01 ho1 hb1
  go_wp2_with fail
  go_region_held3 (fun w' => w'.cell? ⟨w.heap.size, 0, none⟩ = some (.int .i64 (K : Int)) ∧ w'.cell? ⟨w.heap.size, 1, none⟩ = some (.int .i64 (R : Int))) (first | exact HX.out.1 _ (by assumption) | go_keep) (first
    | (go_at_call 55; refine (H.out.2.2.1 _ p1' c1' (HX.out.2.2 _ (by assumption))).mono ?_; rintro e wl ⟨rfl, hbl⟩; have hBl := (by assumption : Below w1.heap.size w1 _).trans (hbl.mono (by assumption : Below w1.heap.size w1 _).size))
    | (go_at_call 54; refine (H.out.2.2.2.1 _).mono ?_; rintro e wl ⟨rfl, hbl⟩; have hBl := (by assumption : Below w1.heap.size w1 _).trans (hbl.mono (by assumption : Below w1.heap.size w1 _).size))
    | (go_at_call 54; refine (H.out.2.2.2.2.1 _).mono ?_; rintro e wl ⟨rfl, hbl⟩; have hBl := (by assumption : Below w1.heap.size w1 _).trans (hbl.mono (by assumption : Below w1.heap.size w1 _).size)))
  all_goals
    go_wp2_with fail
    go_ret2
    exact ⟨by rw [HF.out]; rfl, HX.out.2.1 _ (by assumption)⟩

set_option maxRecDepth 100000 in
set_option maxHeartbeats 4000000 in
theorem rtext_bad (k r : Int) (p : Option Addr) (n c : Nat) (t : List Int) (w : World) (A : Nat → Addr) (hr : Roots w A) (hn : n = t.length) (h : IntV w.heap.size w p c t) (i m : Nat) (hc : chkS k r t = some (i, m)) :
    Calls Tryz.prog 14 #[.agg #[.int .i64 k, .int .i64 r, .slice p n c]] w (Err2 w A ruleOp i m (.string ⟨#[]⟩)) := by
  have hcd := fun W hR hW => code_bad k r p n c t W A hR hn hW i m hc
  have H := Lib.hid (And.intro hr (And.intro h hcd))
  clear hr h hcd hn hc
  go_enter Tryz.func14, Tryz.ntmps14
  go_upto_region 1 with fail
  obtain ⟨w0, hw0⟩ : ∃ w0, w0 = w.alloc (.cells #[.int .i64 k, .int .i64 r, .slice p n c] 36) := ⟨_, rfl⟩
  have hb0 : Below w.heap.size w w0 := by rw [hw0]; exact (Below.refl _ _).alloc (Nat.le_refl _) _
  have hE0 : Rul3 w0 w.heap.size (.int .i64 k) (.int .i64 r) (.slice p n c) := by rw [hw0]; exact Rul3.new w _ _ _
  rw [← hw0]
  obtain ⟨_, hc0, hc1, hc2⟩ := hE0.facts
  have HE := Lib.hid (And.intro hE0 hb0)
  clear hw0 hE0 hb0
  go_wp2_with fail
  refine (H.out.2.2 w0 (H.out.1.below HE.out.2) (H.out.2.1.next HE.out.2)).mono ?_
  rintro e w1 ⟨b, rfl, hl1, hb1⟩
  have H1 := Lib.hid (And.intro hl1 (HE.out.2.trans (hb1.mono HE.out.2.size)))
  clear hl1 hb1
  go_wp2_with fail
  go_ret2
  exact ⟨b, rfl, H1.out.1, H1.out.2⟩
end Go.Proofs.YtienaogmljlmlaaGreatDoor
end
section
namespace Go.Proofs.YtienaogmljlmlaaGreatDoor
open Go.RowKit Go.Extern.Stop Go.Stop Go.Extern WordM RuleM NatM

def T124 : List Int := [0, 0, 1, 1, 1, 1, 1, 0]
theorem mir110 : mirT 2 1 T110 = T124 := by decide +kernel
def txt124 : ByteArray := { data := #[50, 46, 49, 46, 49, 50, 52] }
theorem code124 : codeR 2 T124 = 124 := by decide +kernel
theorem digits124 : textOf 124 = { data := #[49, 50, 52] } := by
  unfold textOf decL
  rw [if_neg (by decide), D10_of (l := [4, 2, 1]) (by decide) (by decide) (by decide)]
  rfl
theorem itoaB_one (n : Nat) (h : n < 10) : itoaB (n : Int) = ⟨#[UInt8.ofNat (48 + n)]⟩ := by
  unfold itoaB Lib.itoa
  rw [if_neg (by omega), Int.toNat_natCast, Lib.decDigits_one h]
theorem rtext124 : ruleText 2 1 (codeR 2 T124) = txt124 := by
  unfold ruleText
  rw [code124, digits124, itoaB_one 2 (by omega), itoaB_one 1 (by omega)]
  rfl
theorem list124 : (txt124.toList == [50, 46, 49, 46, 49, 50, 52]) = true := by decide +kernel
theorem mirror_110 (p : Option Addr) (c : Nat) (w : World) (h : IntV w.heap.size w p c T110) :
    Calls Tryz.prog 72 #[.agg #[.int .i64 2, .int .i64 1, .slice p 8 c]] w (RuleOk w 2 1 T124) := by
  have := fmirror_ok 2 1 p 8 c T110 w rfl h ok110
  rwa [mir110] at this
theorem ok124 : OkR 2 1 T124 := by have := mirT_ok ok110; rwa [mir110] at this
theorem text_124 (p : Option Addr) (c : Nat) (w : World) (h : IntV w.heap.size w p c T124) :
    Calls Tryz.prog 14 #[.agg #[.int .i64 2, .int .i64 1, .slice p 8 c]] w (Tells (.tuple #[.string txt124, .nilIface]) w) := by
  have := rtext_ok 2 1 p 8 c T124 w rfl h ok124 (by decide) (by rw [code124, digits124]; decide)
  rwa [rtext124] at this
theorem shift_24 (w : World) (A : Nat → Addr) (hr : Roots w A) : Calls Tryz.prog 73 #[.int .i64 2, .int .i64 4] w (FErr2 w A [(formsOp, 0)] 3 noRule) :=
  fshift_bad 2 4 w A hr (by omega)

set_option maxRecDepth 100000 in
set_option maxHeartbeats 8000000 in
theorem awakeF (w : World) (A : Nat → Addr) (hr : Roots w A) : Calls Tryz.prog 20 #[] w (Tells (.bool true) w) := by
  have HR := Lib.hid hr
  have h124 := list124
  clear hr
  go_enter Tryz.func20, Tryz.ntmps20
  go_wp2_with fail
  refine (parse_110 w).mono ?_
  rintro e w1 ⟨p1, c1, rfl, ho1, hb1⟩
  go_upto_region 2 with fail
  obtain ⟨w2, hw2⟩ : ∃ w2, w2 = w1.alloc (.cells #[.int .i64 2, .int .i64 1, .slice p1 8 c1] 36) := ⟨_, rfl⟩
  obtain ⟨hb2, hE2⟩ := start_rule w1 _ _ _ w2 hw2
  rw [← hw2]
  obtain ⟨_, hc0, hc1, hc2⟩ := hE2.facts
  have S2 := Lib.hid (And.intro (hb1.trans (hb2.mono hb1.size)) (ho1.next hb2).toV)
  clear hw2 hb2 hE2 ho1 hb1
  go_wp2_with fail
  refine (mirror_110 p1 c1 w2 S2.out.2).mono ?_
  rintro e w3 ⟨p3, c3, rfl, ho3, hb3⟩
  rw [show T124.length = 8 from rfl]
  clear hc0 hc1 hc2
  go_upto_region 3 with fail
  obtain ⟨w4, hw4⟩ : ∃ x, x = w3.alloc (.cells #[.int .i64 2, .int .i64 1, .slice p3 8 c3] 36) := ⟨_, rfl⟩
  obtain ⟨hb4, hE4⟩ := start_rule w3 (.int .i64 2) (.int .i64 1) (.slice p3 8 c3) w4 hw4
  first
    | rw [← hw4]
    | (have hraw : w3.alloc (.cells #[.int .i64 ((2 : Nat) : Int), .int .i64 ((1 : Nat) : Int), .slice p3 8 c3] 36) = w4 := hw4.symm
       rw [hraw])
  obtain ⟨_, hc0, hc1, hc2⟩ := hE4.facts
  have h34 := hb3.trans (hb4.mono hb3.size)
  have S4 := Lib.hid (And.intro (S2.out.1.trans (h34.mono S2.out.1.size)) (ho3.next hb4).toV)
  clear hw4 hb4 hE4 ho3 hb3 h34
  go_wp2_with fail
  refine (text_124 p3 c3 w4 S4.out.2).mono ?_
  rintro e w5 ⟨rfl, hb5⟩
  have S5 := Lib.hid (S4.out.1.trans (hb5.mono S4.out.1.size))
  clear hb5 hc0 hc1 hc2
  go_wp2_with fail
  refine (shift_24 w5 A (HR.out.below S5.out)).mono ?_
  rintro e w6 ⟨b6, rfl, _, hb6⟩
  rw [noRule_eq]
  go_upto_region 5 with fail
  obtain ⟨w7, hw7⟩ : ∃ x, x = w6.alloc (.cells #[.int .i64 0, .int .i64 0, .slice none 0 0] 36) := ⟨_, rfl⟩
  obtain ⟨hb7, _⟩ := start_rule w6 _ _ _ w7 hw7
  rw [← hw7]
  have h67 := hb6.trans (hb7.mono hb6.size)
  have S7 := Lib.hid (S5.out.trans (h67.mono S5.out.size))
  clear hw7 hb7 hb6 h67
  go_wp2_with fail
  go_ret
  exact ⟨rfl, S7.out⟩

/-- what image tells: the image, or nothing -/
def ImgPost (w : World) (l : List Int) (ok : Bool) (e : Ending) (w' : World) : Prop :=
  ∃ p c, e = .returned (.tuple #[.slice p l.length c, .bool ok]) ∧ IntO w.heap.size w' p c l ∧ Below w.heap.size w w'
end Go.Proofs.YtienaogmljlmlaaGreatDoor
end
section
namespace Go.Proofs.YtienaogmljlmlaaGreatDoor
open Go.RowKit Go

theorem wp_pushI {o : Oper} {a : Act} {K : Act → World → Prop} {Q : Exit → Act → World → Prop} {w : World} (s x : Operand)
    (ho : o.op = .call { callee := .builtin .append, args := #[s, x], argTypes := #[24, 24] }) (base : Nat) (p : Option Addr) (n c : Nat) (l : List Int) (hs : a.eval s = .slice p n c) (hn : n = l.length) (h : IntO base w p c l) (hB : base ≤ w.heap.size)
    (B : Nat) (y : Int) (hx : a.eval x = .slice (some ⟨B, 0, none⟩) 1 1) (hb : w.heap[B]? = some (.cells #[.int .i64 y] 3 (0, 0))) (hl : l.length ≤ 1000000)
    (hK : ∀ p' c' w', IntO base w' p' c' (l ++ [y]) → Below base w w' → K (a.put o.dst (.slice p' (n + 1) c')) w') : o.wp Tryz.prog a w K Q := by
  obtain ⟨i0, hi, hz0, hz1, hz2⟩ := info_parts infoI
  subst hn
  refine wp_append_lies w s x 24 ho base 3 i0 (.int .i64 0) 1 8 Tryz.underlying24 hi hz0 hz1 hz2 rfl (by decide) _ l.length (cI l) hs h ⟨B, 0, none⟩ 1 1 [.int .i64 y] hx (by simp) (World.news_of_block hb) (by simp [Value.oneCell']) (by omega) (by unfold maxLen; omega) (by omega) hB w.heap.size rfl ?_
  intro g cap w' hown hgrow _ _
  have hxs : cI l ++ [Value.int .i64 y] = cI (l ++ [y]) := by rw [cI_app]; rfl
  rw [hxs] at hown
  have hown2 : w'.ownsRow base 3 1 (.slice (some ⟨g, 0, none⟩) (l.length + 1) cap) (l ++ [y]).length (cI (l ++ [y])) := by rw [List.length_append]; exact hown
  obtain ⟨p', c', he, ho'⟩ := IntO.slice_own hown2
  rw [List.length_append] at he
  rw [he]
  exact hK p' c' w' ho' ((Below.refl _ _).grown hgrow hB (fun j hj => (World.ownsRow.lt h j hj).1))
theorem step_pushI {ops : Array Oper} {o : Oper} {a : Act} {K : Act → World → Prop} {Q : Exit → Act → World → Prop} {E : Prop} {w : World} (hgd : o.guard = none) (s x : Operand)
    (ho : o.op = .call { callee := .builtin .append, args := #[s, x], argTypes := #[24, 24] }) (base : Nat) (p : Option Addr) (n c : Nat) (l : List Int) (hs : a.eval s = .slice p n c) (hn : n = l.length) (h : IntO base w p c l) (hB : base ≤ w.heap.size)
    (B : Nat) (y : Int) (hx : a.eval x = .slice (some ⟨B, 0, none⟩) 1 1) (hb : w.heap[B]? = some (.cells #[.int .i64 y] 3 (0, 0))) (hl : l.length ≤ 1000000)
    (hK : ∀ p' c' w', IntO base w' p' c' (l ++ [y]) → Below base w w' → K (a.put o.dst (.slice p' (n + 1) c')) w') :
    if Region.wanted o (yielded ops a.tmps) = true then Oper.wp Tryz.prog o a w K Q else E := by
  have hw : Region.wanted o (yielded ops a.tmps) = true := by simp [Region.wanted, hgd]
  rw [if_pos hw]
  exact wp_pushI s x ho base p n c l hs hn h hB B y hx hb hl hK
theorem wpList_pushI {ops : Array Oper} {rest : List Oper} {o : Oper} {a : Act} {Q : Exit → Act → World → Prop} {w : World} (hgd : o.guard = none) (s x : Operand)
    (ho : o.op = .call { callee := .builtin .append, args := #[s, x], argTypes := #[24, 24] }) (base : Nat) (p : Option Addr) (n c : Nat) (l : List Int) (hs : a.eval s = .slice p n c) (hn : n = l.length) (h : IntO base w p c l) (hB : base ≤ w.heap.size)
    (B : Nat) (y : Int) (hx : a.eval x = .slice (some ⟨B, 0, none⟩) 1 1) (hb : w.heap[B]? = some (.cells #[.int .i64 y] 3 (0, 0))) (hl : l.length ≤ 1000000)
    (hK : ∀ p' c' w', IntO base w' p' c' (l ++ [y]) → Below base w w' → wpList Tryz.prog ops Q rest (a.put o.dst (.slice p' (n + 1) c')) w') : wpList Tryz.prog ops Q (o :: rest) a w :=
  wpList_plain hgd fun _ h' => wp_pushI s x ho base p n c l hs hn h hB B y hx hb hl fun p' c' w' h1 h2 => h' _ _ (hK p' c' w' h1 h2)
end Go.Proofs.YtienaogmljlmlaaGreatDoor
end
section
namespace Go.Proofs.YtienaogmljlmlaaGreatDoor
open Go.RowKit Go.Extern.Stop Go.Stop Go.Extern WordM RuleM NatM

/-- where Compose refuses -/
def chkCmp (k r : Int) (t : List Int) (k' r' : Int) (u : List Int) : Option (List (ByteArray × Int) × Nat) := match chkF2 k r t k' r' u with
  | some x => some x
  | none => if k ≠ k' then some ([(formsOp, 1)], 3) else if 3 < r + r' then some ([(formsOp, 0)], 4) else none
theorem chkF2_none {k r k' r' : Int} {t u : List Int} (h : chkF2 k r t k' r' u = none) : ∃ K R K' R' : Nat, k = K ∧ r = R ∧ k' = K' ∧ r' = R' ∧ OkR K R t ∧ OkR K' R' u := by
  unfold chkF2 at h
  cases hk : chkR k r t with
  | some i => rw [hk] at h; cases h
  | none =>
    rw [hk] at h
    have hk' : chkR k' r' u = none := by simpa using h
    obtain ⟨K, R, rfl, rfl, ho⟩ := chkR_none hk
    obtain ⟨K', R', rfl, rfl, ho'⟩ := chkR_none hk'
    exact ⟨K, R, K', R', rfl, rfl, rfl, rfl, ho, ho'⟩
theorem chkCmp_none {k r k' r' : Int} {t u : List Int} (h : chkCmp k r t k' r' u = none) : ∃ K R R' : Nat, k = K ∧ r = R ∧ k' = K ∧ r' = R' ∧ OkR K R t ∧ OkR K R' u ∧ R + R' ≤ 3 := by
  unfold chkCmp at h
  cases hk : chkF2 k r t k' r' u with
  | some x => rw [hk] at h; cases h
  | none =>
    rw [hk] at h
    obtain ⟨K, R, K', R', rfl, rfl, rfl, rfl, ho, ho'⟩ := chkF2_none hk
    by_cases h1 : (K : Int) = K'
    · obtain rfl : K = K' := by omega
      by_cases h2 : (3 : Int) < R + R'
      · simp [h2] at h
      · exact ⟨K, R, R', rfl, rfl, rfl, rfl, ho, ho', by omega⟩
    · simp [h1] at h
theorem fcompose_err (k r k' r' : Int) (p q : Option Addr) (n c m d : Nat) (t u : List Int) (w : World) (A : Nat → Addr) (hr : Roots w A) (hn : n = t.length) (hm : m = u.length) (h : IntV w.heap.size w p c t) (h' : IntV w.heap.size w q d u) (L : List (ByteArray × Int)) (x : Nat) (hc : chkCmp k r t k' r' u = some (L, x)) :
    Calls Tryz.prog 80 #[.agg #[.int .i64 k, .int .i64 r, .slice p n c], .agg #[.int .i64 k', .int .i64 r', .slice q m d]] w (FErr2 w A L x noRule) := by
  unfold chkCmp at hc
  cases hk : chkF2 k r t k' r' u with
  | some y =>
    rw [hk] at hc
    exact fcompose_bad k r k' r' p q n c m d t u w A hr hn hm h h' L x (by rw [hk]; exact hc)
  | none =>
    rw [hk] at hc
    obtain ⟨K, R, K', R', rfl, rfl, rfl, rfl, ho, ho'⟩ := chkF2_none hk
    by_cases h1 : (K : Int) = K'
    · obtain rfl : K = K' := by omega
      by_cases h2 : (3 : Int) < R + R'
      · simp [h2] at hc
        obtain ⟨rfl, rfl⟩ := hc
        exact fcompose_big K R R' p q n c m d t u w A hr hn hm h h' ho ho' (by omega)
      · simp [h2] at hc
    · simp [h1] at hc
      obtain ⟨rfl, rfl⟩ := hc
      exact fcompose_arg K K' R R' p q n c m d t u w A hr hn hm h h' ho ho' (by omega)
theorem chkF2_num {k r k' r' : Int} {t u : List Int} {y : List (ByteArray × Int) × Nat} (h : chkF2 k r t k' r' u = some y) : 1 ≤ y.2 ∧ y.2 ≤ 11 := by
  unfold chkF2 at h
  split at h
  · obtain rfl := Option.some.inj h; simp
  · obtain ⟨i, _, rfl⟩ := Option.map_eq_some_iff.1 h; simp
theorem chkCmp_num {k r k' r' : Int} {t u : List Int} {y : List (ByteArray × Int) × Nat} (h : chkCmp k r t k' r' u = some y) : 1 ≤ y.2 ∧ y.2 ≤ 11 := by
  unfold chkCmp at h
  split at h
  · rename_i hh; obtain rfl := Option.some.inj h; exact chkF2_num hh
  · split at h
    · obtain rfl := Option.some.inj h; simp
    · split at h
      · obtain rfl := Option.some.inj h; simp
      · cases h
/-- a word made by a rule of its own: n symbols, each some number's remainder -/
def madeW (f : Nat → Nat) (k n : Nat) : List Int := tabN n fun i => ((f i % k : Nat) : Int)
theorem madeW_length (f : Nat → Nat) (k n : Nat) : (madeW f k n).length = n := tabN_length _ _
theorem madeW_succ (f : Nat → Nat) (k n : Nat) : madeW f k (n + 1) = madeW f k n ++ [((f n % k : Nat) : Int)] := tabN_succ _ _
theorem madeW_ok {k : Nat} (hk : 1 ≤ k) (f : Nat → Nat) (n : Nat) : okW k (madeW f k n) := tabN_ok fun i _ => by
  have : f i % k < k := Nat.mod_lt _ hk
  omega
end Go.Proofs.YtienaogmljlmlaaGreatDoor
end
section
namespace Go.Proofs.YtienaogmljlmlaaGreatDoor
open Go.RowKit Go.Extern.Stop Go.Stop Go.Extern
attribute [local go_sem ↓] Go.wp_at_zero Go.wp_at_succ

theorem infoSt : (Tryz.prog.info? 9).map (fun i => (i.zero, i.size, i.bytes)) = some (some (.string ⟨#[]⟩), 1, 16) := by kernel_rfl
def cS (L : List (ByteArray × Int)) : List Value := L.map fun x => Value.string x.1
def cA (L : List (ByteArray × Int)) : List Value := L.map fun x => Value.int .i64 x.2
theorem own_lit {e : TypeId} {w : World} {v : Value} {base g : Nat} (hb : base ≤ g) (h : w.heap[g]? = some (.cells #[v] e (0, 0))) : w.ownsRow base e 1 (.slice (some ⟨g, 0, none⟩) 1 1) 1 [v] :=
  ⟨rfl, Or.inr ⟨g, 1, #[v], rfl, hb, h, Nat.le_refl _, by decide, rfl, rfl⟩⟩
theorem other_row {w : World} {b b' : Nat} {e e' : TypeId} {v v' : Value} {n n' : Nat} {xs xs' : List Value} (h : w.ownsRow b e 1 v n xs) (h' : w.ownsRow b' e' 1 v' n' xs') (hne : e ≠ e') : v.ownBlock = none ∨ v.ownBlock ≠ v'.ownBlock := by
  rcases h.2 with ⟨rfl, _⟩ | ⟨g, cap, cur, rfl, _, hh, _⟩
  · exact Or.inl rfl
  · right
    rcases h'.2 with ⟨rfl, _⟩ | ⟨g', cap', cur', rfl, _, hh', _⟩
    · simp [Value.ownBlock]
    · intro hq
      have : g = g' := by simpa [Value.ownBlock] using hq
      subst this
      rw [hh] at hh'
      injection hh' with hh'
      injection hh' with _ ht
      exact hne ht
theorem WantV.news {w wx : World} {po pa : Option Addr} {co ca : Nat} {L : List (ByteArray × Int)} (h : WantV w po pa co ca L) (hb : Below w.heap.size w wx) (hL : L ≠ []) :
    ∃ bo oo ba oa, po = some ⟨bo, oo, none⟩ ∧ pa = some ⟨ba, oa, none⟩ ∧ (∀ j u, (cS L)[j]? = some u → wx.cell? ((⟨bo, oo, none⟩ : Addr).add j) = some u) ∧ (∀ j u, (cA L)[j]? = some u → wx.cell? ((⟨ba, oa, none⟩ : Addr).add j) = some u) := by
  have h' := h.below hb
  obtain ⟨bo, oo, rfl, _, hco⟩ := h'.ops hL
  obtain ⟨ba, oa, rfl, _, hca⟩ := h'.ats hL
  refine ⟨bo, oo, ba, oa, rfl, rfl, fun j u hu => ?_, fun j u hu => ?_⟩
  · unfold cS at hu
    rw [List.getElem?_map] at hu
    obtain ⟨x, hx, rfl⟩ := Option.map_eq_some_iff.1 hu
    rw [add_off]
    exact hco j x hx
  · unfold cA at hu
    rw [List.getElem?_map] at hu
    obtain ⟨x, hx, rfl⟩ := Option.map_eq_some_iff.1 hu
    rw [add_off]
    exact hca j x hx
/-- two own rows make an Err's two slices -/
theorem WantV.of_own {w : World} {base g g' m c c' : Nat} {L : List (ByteArray × Int)} (hm : m = L.length) (hc : c ≤ maxLen) (hc' : c' ≤ maxLen) (h : w.ownsRow base 9 1 (.slice (some ⟨g, 0, none⟩) m c) m (cS L)) (h' : w.ownsRow base 3 1 (.slice (some ⟨g', 0, none⟩) m c') m (cA L)) (hle : m ≤ c) (hle' : m ≤ c') (hg : g < w.heap.size) (hg' : g' < w.heap.size) :
    WantV w (some ⟨g, 0, none⟩) (some ⟨g', 0, none⟩) c c' L := by
  subst hm
  refine ⟨fun _ => ⟨g, 0, rfl, hg, fun j x hx => ?_⟩, fun _ => ⟨g', 0, rfl, hg', fun j x hx => ?_⟩, hle, hle', hc, hc'⟩
  · have hl := (List.getElem?_eq_some_iff.1 hx).1
    rw [Nat.zero_add]
    refine (h.cellAt j (by omega)).trans ?_
    unfold cS
    rw [List.getElem?_map, hx]; rfl
  · have hl := (List.getElem?_eq_some_iff.1 hx).1
    rw [Nat.zero_add]
    refine (h'.cellAt j (by omega)).trans ?_
    unfold cA
    rw [List.getElem?_map, hx]; rfl
/-- a literal of one value, and a row behind it: in a region that draws its order -/
theorem step_lit {ops : Array Oper} {o : Oper} {a : Act} {K : Act → World → Prop} {Q : Exit → Act → World → Prop} {E : Prop} {w : World} (t e : TypeId) (i0 : TypeInfo) (z : Value) (bytes : Nat) (hgd : o.guard = none) (s x : Operand)
    (ho : o.op = .call { callee := .builtin .append, args := #[s, x], argTypes := #[t, t] })
    (ht : Tryz.prog.underlying t = some (.slice e)) (hi : Tryz.prog.info? e = some i0) (hz0 : i0.zero = some z) (hz1 : i0.size = 1) (hz2 : i0.bytes = bytes) (hz : z.cells.size = 1) (hb16 : bytes ≤ 16)
    (base g : Nat) (v : Value) (hs : a.eval s = .slice (some ⟨g, 0, none⟩) 1 1) (hg : base ≤ g) (hh : w.heap[g]? = some (.cells #[v] e (0, 0)))
    (ad : Addr) (n c : Nat) (vs : List Value) (hx : a.eval x = .slice (some ad) n c) (hl : vs.length = n * 1) (hv : ∀ j u, vs[j]? = some u → w.cell? (ad.add j) = some u) (h1 : ∀ u ∈ vs, u.oneCell' = true) (hn : 0 < n) (hn2 : n ≤ 1000) (hB : base ≤ w.heap.size)
    (hK : ∀ g' c' w', w'.ownsRow base e 1 (.slice (some ⟨g', 0, none⟩) (1 + n) c') (1 + n) (v :: vs) → w.grownBy w' (some g) → Below base w w' → K (a.put o.dst (.slice (some ⟨g', 0, none⟩) (1 + n) c')) w') :
    if Region.wanted o (yielded ops a.tmps) = true then Oper.wp Tryz.prog o a w K Q else E := by
  have hw : Region.wanted o (yielded ops a.tmps) = true := by simp [Region.wanted, hgd]
  rw [if_pos hw]
  have hown := own_lit hg hh
  refine wp_append_lies w s x t ho base e i0 z 1 bytes ht hi hz0 hz1 hz2 hz (by decide) _ 1 [v] hs hown ad n c vs hx hl hv h1 hn (by unfold maxLen; omega) ?_ hB w.heap.size rfl ?_
  · have : (1 + n) * bytes ≤ 1001 * 16 := Nat.mul_le_mul (by omega) hb16
    omega
  · intro g' c' w' hown' hgrow _ _
    exact hK g' c' w' hown' hgrow ((Below.refl _ _).grown hgrow hB (fun j hj => (World.ownsRow.lt hown j hj).1))
theorem own_put3 {w : World} {base h : Nat} {e : TypeId} {v : Value} {n : Nat} {xs : List Value} (ho : w.ownsRow base e 1 v n xs) (hh : h < base) (a b d : Value) : (put3 w h a b d).ownsRow base e 1 v n xs :=
  ownsRow_setCell_below (ownsRow_setCell_below (ownsRow_setCell_below ho (a := ⟨h, 0, none⟩) hh a) (a := ⟨h, 1, none⟩) hh b) (a := ⟨h, 2, none⟩) hh d
theorem WantV.of_rows {w : World} {base g g' m c c' : Nat} {L : List (ByteArray × Int)} (hm : m = L.length) (h0 : 0 < m) (h : w.ownsRow base 9 1 (.slice (some ⟨g, 0, none⟩) m c) m (cS L)) (h' : w.ownsRow base 3 1 (.slice (some ⟨g', 0, none⟩) m c') m (cA L)) :
    WantV w (some ⟨g, 0, none⟩) (some ⟨g', 0, none⟩) c c' L := by
  rcases own_shape h with ⟨hv, h1, _⟩ | ⟨x, cap, hv, _, hlt, hc, hmx, _⟩
  · omega
  · rcases own_shape h' with ⟨hv', h1', _⟩ | ⟨x', cap', hv', _, hlt', hc', hmx', _⟩
    · omega
    · obtain ⟨rfl, rfl⟩ : g = x ∧ c = cap := by simpa using hv
      obtain ⟨rfl, rfl⟩ : g' = x' ∧ c' = cap' := by simpa using hv'
      exact WantV.of_own hm hmx hmx' h h' hc hc' hlt hlt'
/-- what an Err says, told further -/
def UnderPost (w : World) (a : Int) (L : List (ByteArray × Int)) (e : Ending) (w' : World) : Prop :=
  ∃ po pa co ca, e = .returned (.agg #[.int .i64 a, .slice po L.length co, .slice pa L.length ca]) ∧ WantV w' po pa co ca L ∧ Below w.heap.size w w'
theorem two_errs (w : World) (a b c x y z : Value) (w0 : World) (hw0 : w0 = (w.alloc (.cells #[a, b, c] 43)).alloc (.cells #[x, y, z] 43)) :
    Below w.heap.size w w0 ∧ Err3 w0 w.heap.size a b c ∧ Err3 w0 (w.heap.size + 1) x y z := by
  have h1 : Below w.heap.size w (w.alloc (.cells #[a, b, c] 43)) := (Below.refl _ _).alloc (Nat.le_refl _) _
  have h2 : Below (w.alloc (.cells #[a, b, c] 43)).heap.size (w.alloc (.cells #[a, b, c] 43)) w0 := by rw [hw0]; exact (Below.refl _ _).alloc (Nat.le_refl _) _
  have hs : (w.alloc (.cells #[a, b, c] 43)).heap.size = w.heap.size + 1 := by simp
  have h3 : Err3 w0 (w.alloc (.cells #[a, b, c] 43)).heap.size x y z := by rw [hw0]; exact ⟨heap_alloc_new _ _⟩
  rw [hs] at h3
  have h4 : Err3 (w.alloc (.cells #[a, b, c] 43)) w.heap.size a b c := ⟨heap_alloc_new _ _⟩
  exact ⟨h1.trans (h2.mono h1.size), h4.next h2, h3⟩
set_option maxRecDepth 100000 in
set_option maxHeartbeats 4000000 in
theorem under_ref (op : ByteArray) (pl a : Int) (po pa : Option Addr) (n co ca : Nat) (L : List (ByteArray × Int)) (w : World) (ha : a ≠ 0) (hn : n = L.length) (h1 : 1 ≤ n) (hn2 : n ≤ 1000) (h : WantV w po pa co ca L) :
    Calls Tryz.prog 67 #[.string op, .int .i64 pl, .agg #[.int .i64 a, .slice po n co, .slice pa n ca]] w (UnderPost w a ((op, pl) :: L)) := by
  have ST := Lib.hid (two_errs w (.int .i64 a) (.slice po n co) (.slice pa n ca) (.int .i64 0) (.slice none 0 0) (.slice none 0 0))
  have H := Lib.hid (And.intro hn (And.intro h1 h))
  clear hn h
  go_enter Tryz.func67, Tryz.ntmps67
  go_upto_region 1 with fail
  obtain ⟨w0, hw0⟩ : ∃ w0, w0 = (w.alloc (.cells #[.int .i64 a, .slice po n co, .slice pa n ca] 43)).alloc (.cells #[.int .i64 0, .slice none 0 0, .slice none 0 0] 43) := ⟨_, rfl⟩
  rw [← hw0]
  obtain ⟨hb0, hE0, hF0⟩ := ST.out w0 hw0
  obtain ⟨_, hc0, hc1, hc2⟩ := hE0.facts
  have hfa : ∀ wx : World, Below w0.heap.size w0 wx → wx.cell? ⟨w.heap.size, 0, none⟩ = some (.int .i64 a) ∧ wx.cell? ⟨w.heap.size, 1, none⟩ = some (.slice po n co) ∧ wx.cell? ⟨w.heap.size, 2, none⟩ = some (.slice pa n ca) := fun wx hbx => (hE0.next hbx).facts.2
  have hff : ∀ wx : World, Below w0.heap.size w0 wx → wx.frozen? ⟨w.heap.size + 1, 0, none⟩ = false ∧ wx.frozen? ⟨w.heap.size + 1, 1, none⟩ = false ∧ wx.frozen? ⟨w.heap.size + 1, 2, none⟩ = false := fun wx hbx => (hF0.next hbx).facts.1
  have hfc : ∀ wx : World, Below w0.heap.size w0 wx → wx.cell? ⟨w.heap.size + 1, 0, none⟩ = some (.int .i64 0) ∧ wx.cell? ⟨w.heap.size + 1, 1, none⟩ = some (.slice none 0 0) ∧ wx.cell? ⟨w.heap.size + 1, 2, none⟩ = some (.slice none 0 0) := fun wx hbx => (hF0.next hbx).facts.2
  have HE := Lib.hid (And.intro hb0 (And.intro hE0 hF0))
  clear hw0 hE0 hb0 hF0
  go_wp2_with fail
  have hL0 : L ≠ [] := by have := H.out.1; rintro rfl; simp at this; omega
  obtain ⟨bo, oo, ba, oa, hpo, hpa, _, _⟩ := H.out.2.2.news (Below.refl _ _) hL0
  subst hpo hpa
  have hnS : ∀ wx : World, Below w0.heap.size w0 wx → ∀ j u, (cS L)[j]? = some u → wx.cell? ((⟨bo, oo, none⟩ : Addr).add j) = some u := fun wx hbx => by
    obtain ⟨_, _, _, _, e1, e2, h1, _⟩ := H.out.2.2.news (HE.out.1.trans (hbx.mono HE.out.1.size)) hL0
    cases e1; exact h1
  have hnA : ∀ wx : World, Below w0.heap.size w0 wx → ∀ j u, (cA L)[j]? = some u → wx.cell? ((⟨ba, oa, none⟩ : Addr).add j) = some u := fun wx hbx => by
    obtain ⟨_, _, _, _, e1, e2, _, h2⟩ := H.out.2.2.news (HE.out.1.trans (hbx.mono HE.out.1.size)) hL0
    cases e2; exact h2
  have hlS : (cS L).length = n * 1 := by unfold cS; rw [List.length_map, Nat.mul_one]; exact H.out.1.symm
  have hlA : (cA L).length = n * 1 := by unfold cA; rw [List.length_map, Nat.mul_one]; exact H.out.1.symm
  have hoS : ∀ u ∈ cS L, u.oneCell' = true := fun u hu => by unfold cS at hu; obtain ⟨x, _, rfl⟩ := List.mem_map.1 hu; rfl
  have hoA : ∀ u ∈ cA L, u.oneCell' = true := fun u hu => by unfold cA at hu; obtain ⟨x, _, rfl⟩ := List.mem_map.1 hu; rfl
  have h1n : 0 < n := h1
  obtain ⟨iS, hiS, hzS0, hzS1, hzS2⟩ := info_parts infoSt
  obtain ⟨iA, hiA, hzA0, hzA1, hzA2⟩ := info_parts infoI
  have hd0 : Below w0.heap.size w0 w0.drew := (Below.refl _ _).drew
  have hB : w.heap.size + 1 < w0.heap.size := heap_ltN HE.out.2.2.heap
  have hs0 : w.heap.size < w0.heap.size := by omega
  have HH := Lib.hid (And.intro hnS (And.intro hnA (And.intro hlS (And.intro hlA (And.intro hoS (And.intro hoA (And.intro hfa (And.intro hff hfc))))))))
  clear hnS hnA hlS hlA hoS hoA hfa hff hfc
  have h16 : (16 : Nat) ≤ 16 := Nat.le_refl _
  have h8 : (8 : Nat) ≤ 16 := by omega
  obtain ⟨WS, hWS⟩ : ∃ x, x = w0.alloc (.cells #[.string op] 9) := ⟨_, rfl⟩
  obtain ⟨WA, hWA⟩ : ∃ x, x = w0.alloc (.cells #[.int .i64 pl] 3) := ⟨_, rfl⟩
  have sS : WS.heap.size = w0.heap.size + 1 := by rw [hWS]; simp
  have sA : WA.heap.size = w0.heap.size + 1 := by rw [hWA]; simp
  have lS : WS.heap[w0.heap.size]? = some (.cells #[.string op] 9 (0, 0)) := by rw [hWS]; exact heap_newN w0 _
  have lA : WA.heap[w0.heap.size]? = some (.cells #[.int .i64 pl] 3 (0, 0)) := by rw [hWA]; exact heap_newN w0 _
  have bS : Below w0.heap.size w0 WS := by rw [hWS]; exact (Below.refl w0.heap.size w0).alloc (Nat.le_refl _) _
  have bA : Below w0.heap.size w0 WA := by rw [hWA]; exact (Below.refl w0.heap.size w0).alloc (Nat.le_refl _) _
  have hal : ∀ w1 : World, (w1.alloc (.cells #[.int .i64 pl] 3)).heap[w1.heap.size]? = some (.cells #[.int .i64 pl] 3 (0, 0)) := fun w1 => heap_newN w1 _
  have hbl : ∀ w1 : World, Below w1.heap.size w1 (w1.alloc (.cells #[.int .i64 pl] 3)) := fun w1 => (Below.refl w1.heap.size w1).alloc (Nat.le_refl _) _
  -- two literals, the words first
  have b2 : Below w0.heap.size w0 (WS.alloc (.cells #[.int .i64 pl] 3)) := bS.trans ((hbl WS).mono bS.size)
  have l2S : (WS.alloc (.cells #[.int .i64 pl] 3)).heap[w0.heap.size]? = some (.cells #[.string op] 9 (0, 0)) := ((hbl WS).block _ (by omega)).trans lS
  have l2A : (WS.alloc (.cells #[.int .i64 pl] 3)).heap[w0.heap.size + 1]? = some (.cells #[.int .i64 pl] 3 (0, 0)) := by have := hal WS; rwa [sS] at this
  -- two literals, the places first
  have bb : Below WA.heap.size WA (WA.alloc (.cells #[.string op] 9)) := (Below.refl _ WA).alloc (Nat.le_refl _) _
  have b3 : Below w0.heap.size w0 (WA.alloc (.cells #[.string op] 9)) := bA.trans (bb.mono bA.size)
  have l3A : (WA.alloc (.cells #[.string op] 9)).heap[w0.heap.size]? = some (.cells #[.int .i64 pl] 3 (0, 0)) := (bb.block _ (by omega)).trans lA
  have l3S : (WA.alloc (.cells #[.string op] 9)).heap[w0.heap.size + 1]? = some (.cells #[.string op] 9 (0, 0)) := by have := heap_newN WA (.cells #[.string op] 9); rwa [sA] at this
  have z2 : (WS.alloc (.cells #[.int .i64 pl] 3)).heap.size = w0.heap.size + 2 := by simp [sS]
  have z3 : (WA.alloc (.cells #[.string op] 9)).heap.size = w0.heap.size + 2 := by simp [sA]
  rw [hWS] at b2 l2S l2A z2 lS bS
  rw [hWA] at b3 l3A l3S z3
  have b1 := bS.drew
  have b2 := b2.drew
  have b3 := b3.drew
  have lS : ((w0.alloc (.cells #[.string op] 9)).drew).heap[w0.heap.size]? = some (.cells #[.string op] 9 (0, 0)) := lS
  have l2S : (((w0.alloc (.cells #[.string op] 9)).alloc (.cells #[.int .i64 pl] 3)).drew).heap[w0.heap.size]? = some (.cells #[.string op] 9 (0, 0)) := l2S
  have l2A : (((w0.alloc (.cells #[.string op] 9)).alloc (.cells #[.int .i64 pl] 3)).drew).heap[w0.heap.size + 1]? = some (.cells #[.int .i64 pl] 3 (0, 0)) := l2A
  have l3S : (((w0.alloc (.cells #[.int .i64 pl] 3)).alloc (.cells #[.string op] 9)).drew).heap[w0.heap.size + 1]? = some (.cells #[.string op] 9 (0, 0)) := l3S
  have l3A : (((w0.alloc (.cells #[.int .i64 pl] 3)).alloc (.cells #[.string op] 9)).drew).heap[w0.heap.size]? = some (.cells #[.int .i64 pl] 3 (0, 0)) := l3A
  have z2 : (((w0.alloc (.cells #[.string op] 9)).alloc (.cells #[.int .i64 pl] 3)).drew).heap.size = w0.heap.size + 2 := z2
  have z3 : (((w0.alloc (.cells #[.int .i64 pl] 3)).alloc (.cells #[.string op] 9)).drew).heap.size = w0.heap.size + 2 := z3
  have hle1 : w0.heap.size ≤ w0.heap.size + 1 := Nat.le_succ _
  have hzlt : w0.heap.size + 1 < w0.heap.size + 2 := by omega
  have hzlt0 : w0.heap.size < w0.heap.size + 2 := by omega
  have hne1 : some (w0.heap.size + 1) ≠ some w0.heap.size := by simp
  have hne0 : some w0.heap.size ≠ some (w0.heap.size + 1) := by simp
  have hne : 9 ≠ 3 := by decide
  have P1 := Lib.hid (And.intro lS (And.intro b1 (And.intro hal hbl)))
  have P2 := Lib.hid (And.intro b2 (And.intro l2S (And.intro l2A z2)))
  have P3 := Lib.hid (And.intro b3 (And.intro l3A (And.intro l3S z3)))
  have Q := Lib.hid (And.intro hle1 (And.intro hzlt (And.intro hzlt0 (And.intro hne1 (And.intro hne0 hne)))))
  clear hWS hWA sS sA lS lA bS bA b1 hal hbl b2 l2S l2A bb b3 l3A l3S z2 z3 hle1 hzlt hzlt0 hne1 hne0 hne
  go_region_held3 (fun w' => w'.cell? ⟨w.heap.size, 0, none⟩ = some (.int .i64 a) ∧ w'.cell? ⟨w.heap.size, 1, none⟩ = some (.slice (some ⟨bo, oo, none⟩) n co) ∧ w'.cell? ⟨w.heap.size, 2, none⟩ = some (.slice (some ⟨ba, oa, none⟩) n ca)) (first | exact HH.out.2.2.2.2.2.2.1 _ (by assumption) | exact HH.out.2.2.2.2.2.2.1 _ hd0 | go_keep) (first
    | (refine step_lit 41 9 iS _ 16 (by rfl) _ _ (by rfl) Tryz.underlying41 hiS hzS0 hzS1 hzS2 (by rfl) h16 w0.heap.size w0.heap.size (.string op) (by rfl) (Nat.le_refl _) P1.out.1 ⟨bo, oo, none⟩ n co (cS L) (by rfl) HH.out.2.2.1 (HH.out.1 _ P1.out.2.1) HH.out.2.2.2.2.1 h1n hn2 P1.out.2.1.size ?_; intro gs cs w1 hS1 _ hgS; have hB1 : Below w0.heap.size w0 w1 := P1.out.2.1.trans hgS)
    | (refine step_lit 41 9 iS _ 16 (by rfl) _ _ (by rfl) Tryz.underlying41 hiS hzS0 hzS1 hzS2 (by rfl) h16 w0.heap.size w0.heap.size (.string op) (by rfl) (Nat.le_refl _) P2.out.2.1 ⟨bo, oo, none⟩ n co (cS L) (by rfl) HH.out.2.2.1 (HH.out.1 _ P2.out.1) HH.out.2.2.2.2.1 h1n hn2 P2.out.1.size ?_; intro gs cs u1 hS1 hrS hgS; have hB1 : Below w0.heap.size w0 u1 := P2.out.1.trans hgS; have hAl := (hrS.block (w0.heap.size + 1) (by rw [P2.out.2.2.2]; exact Q.out.2.1) Q.out.2.2.2.1).trans P2.out.2.2.1)
    | (refine step_lit 41 9 iS _ 16 (by rfl) _ _ (by rfl) Tryz.underlying41 hiS hzS0 hzS1 hzS2 (by rfl) h16 w0.heap.size (w0.heap.size + 1) (.string op) (by rfl) Q.out.1 P3.out.2.2.1 ⟨bo, oo, none⟩ n co (cS L) (by rfl) HH.out.2.2.1 (HH.out.1 _ P3.out.1) HH.out.2.2.2.2.1 h1n hn2 P3.out.1.size ?_; intro gs cs v1 hS1 hrS hgS; have hB1 : Below w0.heap.size w0 v1 := P3.out.1.trans hgS; have hAl := (hrS.block w0.heap.size (by rw [P3.out.2.2.2]; exact Q.out.2.2.1) Q.out.2.2.2.2.1).trans P3.out.2.1)
    | (refine step_lit 24 3 iA _ 8 (by rfl) _ _ (by rfl) Tryz.underlying24 hiA hzA0 hzA1 hzA2 (by rfl) h8 w0.heap.size w1.heap.size (.int .i64 pl) (by rfl) hB1.size (P1.out.2.2.1 w1) ⟨ba, oa, none⟩ n ca (cA L) (by rfl) HH.out.2.2.2.1 (HH.out.2.1 _ (hB1.trans ((P1.out.2.2.2 w1).mono hB1.size))) HH.out.2.2.2.2.2.1 h1n hn2 (Nat.le_trans hB1.size (P1.out.2.2.2 w1).size) ?_; intro ga ca' w2 hA2 hrA hgA; have hB2 : Below w0.heap.size w0 w2 := (hB1.trans ((P1.out.2.2.2 w1).mono hB1.size)).trans hgA; have hSf := (ownsRow_below (P1.out.2.2.2 w1) hS1).kept hrA (other_row (ownsRow_below (P1.out.2.2.2 w1) hS1) (own_lit hB1.size (P1.out.2.2.1 w1)) Q.out.2.2.2.2.2); obtain ⟨hf0, hf1, hf2⟩ := HH.out.2.2.2.2.2.2.2.1 w2 hB2; obtain ⟨hx0, hx1, hx2⟩ := HH.out.2.2.2.2.2.2.2.2 w2 hB2)
    | (refine step_lit 24 3 iA _ 8 (by rfl) _ _ (by rfl) Tryz.underlying24 hiA hzA0 hzA1 hzA2 (by rfl) h8 w0.heap.size (w0.heap.size + 1) (.int .i64 pl) (by rfl) Q.out.1 hAl ⟨ba, oa, none⟩ n ca (cA L) (by rfl) HH.out.2.2.2.1 (HH.out.2.1 _ hB1) HH.out.2.2.2.2.2.1 h1n hn2 hB1.size ?_; intro ga ca' w2 hA2 hrA hgA; have hB2 : Below w0.heap.size w0 w2 := hB1.trans hgA; have hSf := hS1.kept hrA (other_row hS1 (own_lit Q.out.1 hAl) Q.out.2.2.2.2.2); obtain ⟨hf0, hf1, hf2⟩ := HH.out.2.2.2.2.2.2.2.1 w2 hB2; obtain ⟨hx0, hx1, hx2⟩ := HH.out.2.2.2.2.2.2.2.2 w2 hB2)
    | (refine step_lit 24 3 iA _ 8 (by rfl) _ _ (by rfl) Tryz.underlying24 hiA hzA0 hzA1 hzA2 (by rfl) h8 w0.heap.size w0.heap.size (.int .i64 pl) (by rfl) (Nat.le_refl _) hAl ⟨ba, oa, none⟩ n ca (cA L) (by rfl) HH.out.2.2.2.1 (HH.out.2.1 _ hB1) HH.out.2.2.2.2.2.1 h1n hn2 hB1.size ?_; intro ga ca' w2 hA2 hrA hgA; have hB2 : Below w0.heap.size w0 w2 := hB1.trans hgA; have hSf := hS1.kept hrA (other_row hS1 (own_lit (Nat.le_refl _) hAl) Q.out.2.2.2.2.2); obtain ⟨hf0, hf1, hf2⟩ := HH.out.2.2.2.2.2.2.2.1 w2 hB2; obtain ⟨hx0, hx1, hx2⟩ := HH.out.2.2.2.2.2.2.2.2 w2 hB2))
  all_goals
    have hm : 1 + n = ((op, pl) :: L).length := by show 1 + n = L.length + 1; rw [H.out.1]; omega
    have hbw : Below w.heap.size w w2 := HE.out.1.trans (hB2.mono HE.out.1.size)
    have HF := Lib.hid (And.intro hm (And.intro hbw (And.intro hSf (And.intro hA2 hB))))
    clear hm hbw hSf hA2 hB2
    go_wp2_with fail
    refine bodyPost_ret (v := .agg #[.int .i64 a, .slice (some ⟨gs, 0, none⟩) (1 + n) cs, .slice (some ⟨ga, 0, none⟩) (1 + n) ca']) (by simp [results, Tryz.results67, go_sem, hx0, hx1, hx2]) rfl ⟨_, _, _, _, by rw [HF.out.1], WantV.of_rows HF.out.1 (by omega) (own_put3 HF.out.2.2.1 HF.out.2.2.2.2 _ _ _) (own_put3 HF.out.2.2.2.1 HF.out.2.2.2.2 _ _ _), put3_below HF.out.2.1 (Nat.le_succ _) _ _ _⟩
theorem under_ref_none (op : ByteArray) (pl : Int) (w : World) :
    Calls Tryz.prog 67 #[.string op, .int .i64 pl, .agg #[.int .i64 0, .slice none 0 0, .slice none 0 0]] w (Tells (.agg #[.int .i64 0, .slice none 0 0, .slice none 0 0]) w) := by
  have ST := Lib.hid (two_errs w (.int .i64 0) (.slice none 0 0) (.slice none 0 0) (.int .i64 0) (.slice none 0 0) (.slice none 0 0))
  go_enter Tryz.func67, Tryz.ntmps67
  go_upto_region 1 with fail
  obtain ⟨w0, hw0⟩ : ∃ w0, w0 = (w.alloc (.cells #[.int .i64 0, .slice none 0 0, .slice none 0 0] 43)).alloc (.cells #[.int .i64 0, .slice none 0 0, .slice none 0 0] 43) := ⟨_, rfl⟩
  rw [← hw0]
  obtain ⟨hb0, hE0, hF0⟩ := ST.out w0 hw0
  obtain ⟨_, hc0, hc1, hc2⟩ := hE0.facts
  obtain ⟨⟨hf0, hf1, hf2⟩, hd0, hd1, hd2⟩ := hF0.facts
  have HE := Lib.hid hb0
  clear hw0 hE0 hb0 hF0
  go_wp2_with fail
  refine bodyPost_ret (v := .agg #[.int .i64 0, .slice none 0 0, .slice none 0 0]) (by simp [results, Tryz.results67, go_sem, hd0, hd1, hd2]) rfl ⟨rfl, put3_below HE.out (Nat.le_succ _) _ _ _⟩
end Go.Proofs.YtienaogmljlmlaaGreatDoor
end
section
namespace Go.Proofs.YtienaogmljlmlaaGreatDoor
open Go.RowKit Go.Extern.Stop Go.Stop Go.Extern WordM RuleM NatM

/-- whether two rules are one -/
def RulesPost (w : World) (k r k' r' : Int) (t t' : List Int) (e : Ending) (w' : World) : Prop :=
  ∃ B : Bool, e = .returned (.bool B) ∧ (B = true ↔ k = k' ∧ r = r' ∧ t = t') ∧ Below w.heap.size w w'
set_option maxHeartbeats 4000000 in
theorem rules_any (k r k' r' : Int) (p q : Option Addr) (n m c d : Nat) (t t' : List Int) (w : World) (hn : n = t.length) (hm : m = t'.length) (h : IntV w.heap.size w p c t) (h' : IntV w.heap.size w q d t') :
    Calls Tryz.prog 19 #[.agg #[.int .i64 k, .int .i64 r, .slice p n c], .agg #[.int .i64 k', .int .i64 r', .slice q m d]] w (RulesPost w k r k' r' t t') := by
  have H := Lib.hid (And.intro h (And.intro h' (And.intro hn hm)))
  clear h h' hn hm
  by_cases hk : k = k'
  · subst hk
    by_cases hr : r = r'
    · subst hr
      obtain ⟨B, hB⟩ : ∃ B, sameI t t' = B := ⟨_, rfl⟩
      have HB := Lib.hid hB
      clear hB
      go_enter Tryz.func19, Tryz.ntmps19
      go_upto_region 1 with fail
      obtain ⟨w0, hw0⟩ : ∃ w0, w0 = (w.alloc (.cells #[.int .i64 k, .int .i64 r, .slice p n c] 36)).alloc (.cells #[.int .i64 k, .int .i64 r, .slice q m d] 36) := ⟨_, rfl⟩
      obtain ⟨hb0, hE0, hE1⟩ := two_boxes w _ _ _ _ _ _ w0 hw0
      rw [← hw0]
      obtain ⟨_, hc0, hc1, hc2⟩ := hE0.facts
      obtain ⟨_, hd0, hd1, hd2⟩ := hE1.facts
      have HE := Lib.hid hb0
      have hsz : (w.alloc (.cells #[.int .i64 k, .int .i64 r, .slice p n c] 36)).heap.size = w.heap.size + 1 := by simp
      clear hw0 hE0 hE1 hb0
      go_wp2_with fail
      refine (ints_any p q n m c d t t' w0 H.out.2.2.1 H.out.2.2.2 (H.out.1.next HE.out) (H.out.2.1.next HE.out)).mono ?_
      rintro e w1 ⟨rfl, hb1⟩
      rw [HB.out]
      have HF := Lib.hid (HE.out.trans (hb1.mono HE.out.size))
      clear hb1
      go_wp2_with fail
      go_ret
      refine ⟨B, rfl, ⟨fun hb => ⟨rfl, rfl, by have := HB.out.trans hb; simpa [sameI] using this⟩, fun ⟨_, _, e⟩ => by rw [← HB.out, e]; exact sameI_self _⟩, HF.out⟩
    · go_enter Tryz.func19, Tryz.ntmps19
      go_upto_region 1 with fail
      obtain ⟨w0, hw0⟩ : ∃ w0, w0 = (w.alloc (.cells #[.int .i64 k, .int .i64 r, .slice p n c] 36)).alloc (.cells #[.int .i64 k, .int .i64 r', .slice q m d] 36) := ⟨_, rfl⟩
      obtain ⟨hb0, hE0, hE1⟩ := two_boxes w _ _ _ _ _ _ w0 hw0
      rw [← hw0]
      obtain ⟨_, hc0, hc1, hc2⟩ := hE0.facts
      obtain ⟨_, hd0, hd1, hd2⟩ := hE1.facts
      have HE := Lib.hid hb0
      have hsz : (w.alloc (.cells #[.int .i64 k, .int .i64 r, .slice p n c] 36)).heap.size = w.heap.size + 1 := by simp
      have hr2 : (r == r') = false := by simpa using hr
      have HR := Lib.hid hr
      clear hw0 hE0 hE1 hb0 hr
      go_wp2_with fail
      go_ret
      exact ⟨false, rfl, ⟨fun hb => (by cases hb), fun ⟨_, e, _⟩ => absurd e HR.out⟩, HE.out⟩
  · go_enter Tryz.func19, Tryz.ntmps19
    go_upto_region 1 with fail
    obtain ⟨w0, hw0⟩ : ∃ w0, w0 = (w.alloc (.cells #[.int .i64 k, .int .i64 r, .slice p n c] 36)).alloc (.cells #[.int .i64 k', .int .i64 r', .slice q m d] 36) := ⟨_, rfl⟩
    obtain ⟨hb0, hE0, hE1⟩ := two_boxes w _ _ _ _ _ _ w0 hw0
    rw [← hw0]
    obtain ⟨_, hc0, hc1, hc2⟩ := hE0.facts
    obtain ⟨_, hd0, hd1, hd2⟩ := hE1.facts
    have HE := Lib.hid hb0
    have hsz : (w.alloc (.cells #[.int .i64 k, .int .i64 r, .slice p n c] 36)).heap.size = w.heap.size + 1 := by simp
    have hk2 : (k == k') = false := by simpa using hk
    have HK := Lib.hid hk
    clear hw0 hE0 hE1 hb0 hk
    go_wp2_with fail
    go_ret
    exact ⟨false, rfl, ⟨fun hb => (by cases hb), fun ⟨e, _⟩ => absurd e HK.out⟩, HE.out⟩
end Go.Proofs.YtienaogmljlmlaaGreatDoor
end
section
namespace Go.Proofs.YtienaogmljlmlaaGreatDoor
open Go.ChangeShapes Go.WideShapes Go.ChangeAt Go.RowKit WordM RuleM

theorem fld_int {H : Type} {enc : TypeId × Value → H} {W : World} {n : Nat} {c : Value} {y : DataW H × List MemPlace} (h : DataW.trod enc Tryz.prog W 0 (fun _ => true) true n 3 [c] = some y) : ∃ x : Int, c = .int .i64 x ∧ -9223372036854775808 ≤ x ∧ x ≤ 9223372036854775807 := by
  obtain ⟨x, hx, _, hw⟩ := DataW.trod_int Tryz.underlying3 h
  exact ⟨x, by simpa using hx, wf_i64 hw⟩
theorem fld_ints {H : Type} {enc : TypeId × Value → H} {W : World} {n : Nat} {c : Value} {y : DataW H × List MemPlace} (h : DataW.trod enc Tryz.prog W 0 (fun _ => true) true n 24 [c] = some y) (hlt : ∀ x ∈ y.2, x.block < W.heap.size) (hw : ∀ x ∈ y.1.weights Tryz.prog 24, x ≤ reachBytes) :
    ∃ (a : Option Addr) (cap : Nat) (l : List Int), c = .slice a l.length cap ∧ IntV W.heap.size W a cap l ∧ okI l ∧ l.length ≤ 17592186043904 := by
  have hs : ∃ a len cap, c = .slice a len cap := by
    rcases Go.Deep.open_slice Tryz.underlying24 h with ⟨hcs, _⟩ | ⟨a, len, cap, _, _, _, _, hcs, _⟩
    · exact ⟨none, 0, 0, by simpa using hcs⟩
    · exact ⟨some a, len, cap, by simpa using hcs⟩
  have ht : DataW.Trod enc Tryz.prog W 0 (fun _ => true) true 24 c y.1 y.2 := by
    refine ⟨n, ?_⟩
    obtain ⟨a, len, cap, rfl⟩ := hs
    simpa [Value.cells] using h
  obtain ⟨a, cap, l, rfl, h1, h2⟩ := open_intl hs ht hlt
  exact ⟨a, cap, l, rfl, h1, h2, open_reach ht hw⟩
theorem cellsRule3 : Tryz.prog.cellsOf 36 = 3 := by kernel_rfl
set_option maxRecDepth 100000 in
/-- a rule that came in: its table's length is in reach -/
theorem open_rule {H : Type} {enc : TypeId × Value → H} {W : World} {v : Value} {d : DataW H} {p : List MemPlace} {r : Reach} {b0 : Nat} (hv : Value.okWide Tryz.prog W r b0 36 v)
    (h : DataW.Trod enc Tryz.prog W 0 (fun _ => true) true 36 v d p) (hlt : ∀ x ∈ p, x.block < W.heap.size) (hw : ∀ x ∈ d.weights Tryz.prog 36, x ≤ reachBytes) :
    ∃ (k r : Int) (a : Option Addr) (cap : Nat) (l : List Int), v = .agg #[.int .i64 k, .int .i64 r, .slice a l.length cap] ∧ IntV W.heap.size W a cap l ∧ l.length ≤ 17592186043904 := by
  obtain ⟨v0, v1, v2, y0, y1, y2, n, rfl, rfl, rfl, h0, h1, h2⟩ := Go.Joins.open_agg3 Tryz.underlying36 (by kernel_rfl) cellsRule3 hv h
  obtain ⟨k, rfl, _⟩ := fld_int h0
  obtain ⟨q, rfl, _⟩ := fld_int h1
  obtain ⟨a, cap, l, rfl, h3, _, h4⟩ := fld_ints h2 (fun x hx => hlt x (by simp [hx])) (fun x hx => hw x (by
    unfold DataW.weights
    rw [Tryz.underlying36]
    exact weights_get _ _ 2 _ _ rfl rfl x hx))
  exact ⟨k, q, a, cap, l, rfl, h3, h4⟩
end Go.Proofs.YtienaogmljlmlaaGreatDoor
end
section
namespace Go.Proofs.YtienaogmljlmlaaGreatDoor
open Go.ChangeShapes Go.WideShapes Go.ChangeAt Go.RowKit NatM

theorem cells32_1 : Tryz.prog.cellsOf 70 = 1 := by kernel_rfl
theorem wf_u32 {n : Int} (h : (Lit.int .u32 n).wf = true) : 0 ≤ n ∧ n < 4294967296 := by
  have := bounds_u32 h
  omega
theorem open_nat {H : Type} {enc : TypeId × Value → H} {W : World} {v : Value} {d : DataW H} {p : List MemPlace} (hok : ∃ a len cap, v = .slice a len cap)
    (h : DataW.Trod enc Tryz.prog W 0 (fun _ => true) true 26 v d p) (hlt : ∀ x ∈ p, x.block < W.heap.size) :
    ∃ (a : Option Addr) (cap : Nat) (l : List Nat), v = .slice a l.length cap ∧ NatV W.heap.size W a cap l := by
  obtain ⟨a0, len, cap, rfl⟩ := hok
  obtain ⟨fuel, hf⟩ := h
  rcases open_ints Tryz.underlying26 Tryz.underlying70 cells32_1 hf with ⟨hcs, _⟩ | ⟨a, len', cap', zs, hcs, _, hl, hm, hz, hx, hcell, hwf⟩
  · simp [Value.cells] at hcs
    obtain ⟨rfl, rfl, rfl⟩ := hcs
    exact ⟨none, 0, [], rfl, okB_nil _, Nat.le_refl _, Nat.zero_le _, fun _ => rfl, fun h => absurd rfl h⟩
  · simp [Value.cells] at hcs
    obtain ⟨rfl, rfl, rfl⟩ := hcs
    simp only [if_true] at hz
    obtain ⟨rfl, rfl⟩ := Prod.mk.inj hx
    have hlen : ((zs.take len).map Int.toNat).length = len := by rw [List.length_map, List.length_take]; omega
    refine ⟨some a, cap, (zs.take len).map Int.toNat, by rw [hlen], ?_, by rw [hlen]; exact hl, hm, (fun h => by cases h), fun hn => ?_⟩
    · intro x hx
      obtain ⟨z, hz, rfl⟩ := List.mem_map.1 hx
      have := wf_u32 (hwf z (List.mem_of_mem_take hz))
      omega
    · obtain ⟨b, off, spot⟩ := a
      have h0 : 0 < zs.length := by
        have := List.length_pos_iff.2 hn
        rw [hlen] at this
        omega
      have hspot : spot = none := by simpa [Addr.add] using World.cell?_spot (hcell 0 h0)
      subst hspot
      refine ⟨b, off, rfl, hlt (.cell b off) (MemPlace.mem_row.2 ⟨0, h0, by simp⟩), fun j x hx => ?_⟩
      have hj := get_lt hx
      rw [hlen] at hj
      have hjz : j < zs.length := by omega
      have hc := hcell j hjz
      have hw := wf_u32 (hwf _ (List.getElem_mem hjz))
      have e : zs.getD j 0 = (x : Int) := by
        rw [List.getElem?_map, List.getElem?_take, if_pos hj, List.getElem?_eq_getElem hjz] at hx
        have := Option.some.inj hx
        rw [List.getD_eq_getElem?_getD, List.getElem?_eq_getElem hjz]
        show zs[j] = _
        omega
      rw [e, add_plain] at hc
      exact hc
end Go.Proofs.YtienaogmljlmlaaGreatDoor
end
section
namespace Go.Proofs.YtienaogmljlmlaaGreatDoor
open Go.ChangeShapes Go.WideShapes Go.ChangeAt Go.RowKit

def tabled (l : List (String × DataW Unit)) : List (String × DataW Unit) := ("math/bits.deBruijn32tab", Rows.laid_math_bits_deBruijn32tab) :: ("math/bits.deBruijn64tab", Rows.laid_math_bits_deBruijn64tab) :: ("internal/strconv.uint64pow10", Rows.laid_internal_strconv_uint64pow10) :: l
theorem roots_of_tabled {W : World} (h : laidMetH Tryz.prog (tabled thirteen) W) : ∃ A, Roots W A ∧ TypeVar W := by
  have h' : laidMet Tryz.prog (tabled twelve) W ∧ handlesMet Tryz.prog [("errors.errorType", Rows.laid_errors_errorType)] W := h
  obtain ⟨A, hA⟩ := roots_of_twelve h'.1.tail.tail.tail
  exact ⟨A, hA, typeVar_of_handle h'.2⟩
theorem roots_of_tabled12 {W : World} (h : laidMetH Tryz.prog (tabled twelve) W) : ∃ A, Roots W A := by
  have h' : laidMet Tryz.prog (tabled twelve) W := h
  exact roots_of_twelve h'.tail.tail.tail
/-- The cells of a table's datum. -/
def flatCellB (d : DataW Unit) : Value := match d with
  | .lit (.int k n) => .int k n
  | _ => .nilIface
def flatB (d : DataW Unit) : List Value := match d with
  | .agg l => l.map flatCellB
  | _ => []
def layCellsB (vs : List Value) (o : Obj) : Obj := match o with
  | .cells _ t frozen => .cells vs.toArray t frozen
  | o => o
noncomputable def laidWorldT (os : Os) : World :=
  { laidWorld os with heap := ((((laidWorld os).heap.modify 15 (layCellsB (flatB Rows.laid_math_bits_deBruijn32tab))).modify 16 (layCellsB (flatB Rows.laid_math_bits_deBruijn64tab)))).modify 14 (layCellsB (flatB Rows.laid_internal_strconv_uint64pow10)) }
end Go.Proofs.YtienaogmljlmlaaGreatDoor
end
