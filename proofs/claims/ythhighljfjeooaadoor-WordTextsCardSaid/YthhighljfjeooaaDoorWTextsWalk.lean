/- WordTexts: its walk: whatever the alphabet, the list and the text, it answers true and old memory stays. -/
import Derived.Test.YthhighljfjeooaaDoorLawWord
namespace Go.Proofs.YthhighljfjeooaaDoor
open Go.RowKit Go.Extern.Stop Go.Stop Go.Extern WordM NatM

set_option maxRecDepth 100000 in
set_option maxHeartbeats 8000000 in
theorem wtexts_any (k : Int) (p : Option Addr) (c : Nat) (l : List Int) (s : ByteArray) (w : World) (A : Nat → Addr) (hr : Roots w A) (h : IntV w.heap.size w p c l) (hsz : s.size ≤ maxLen) :
    Calls Tryd.prog 7 #[.int .i64 k, .slice p l.length c, .string s] w (Tells (.bool true) w) := by
  have S0 := Lib.hid (And.intro ((Si.start w).push h) hr)
  have hsz0 := Lib.hid hsz
  clear h hr hsz
  go_enter Tryd.func7, Tryd.ntmps7
  go_wp2_with fail
  refine (awakeW _).mono ?_
  rintro e w1 ⟨rfl, hb1⟩
  have S1 := Lib.hid (And.intro (S0.out.1.next hb1) (S0.out.2.below hb1))
  clear hb1 S0
  go_wp2_with fail
  cases hc : chkW k l
  case' none =>
    have HC := Lib.hid hc
    refine (textW_ok k p l.length c l _ rfl (S1.out.1.get 0 rfl) hc).mono ?_
    clear hc
    rintro e w2 ⟨rfl, hb2⟩
    have S2 := Lib.hid (And.intro (S1.out.1.next hb2) (S1.out.2.below hb2))
    clear hb2 S1
    have htx : (txW l).size = l.length := txW_size l
    obtain ⟨n, hkn, hk1, hk4, hl, ho⟩ := chkW_none HC.out
    have hback : sW (txW l) = l := sW_txW hk4 ho
    obtain ⟨t, ht⟩ : ∃ t, txW l = t := ⟨_, rfl⟩
    rw [ht] at htx hback ⊢
    have HT := Lib.hid (And.intro htx hback)
    have hts : ((t.size : Int) != (l.length : Int)) = false := by rw [htx]; simp
    clear htx hback ht hkn ho
    have hchk := fun W hW => check_ok k p l.length c l W rfl hW HC.out
    have HK := Lib.hid hchk
    clear hchk
    go_wp2_with fail
    go_region_with (first
      | (go_at_call 32; refine (HK.out _ (by first | exact (S2.out.1.get 0 rfl) | exact (S2.out.1.drew.get 0 rfl))).mono ?_; rintro e w3 ⟨rfl, hb3⟩))
    have S3 := Lib.hid (And.intro (S2.out.1.next ((Below.refl _ _).drew.trans hb3)) (S2.out.2.below ((Below.refl _ _).drew.trans hb3)))
    have hpar := parseW_ok k t w3 (by rw [HT.out.2]; exact HC.out)
    rw [HT.out.2] at hpar
    have HP := Lib.hid hpar
    clear hb3 S2 hpar
    go_wp2_with fail
    refine HP.out.mono ?_
    rintro e w4 ⟨p4, c4, rfl, ho4, hb4⟩
    have S4 := Lib.hid (And.intro ((S3.out.1.next hb4).push ho4.toV) (S3.out.2.below hb4))
    clear ho4 hb4 S3 HP
    go_wp2_with fail
    refine (ints_any _ _ _ _ _ _ l l _ rfl rfl (S4.out.1.get 0 rfl) (S4.out.1.get 1 rfl)).mono ?_
    rintro e w5 ⟨rfl, hb5⟩
    rw [sameI_self]
    have S5 := Lib.hid (And.intro (S4.out.1.next hb5).below (S4.out.2.below hb5))
    clear hb5 S4
    go_upto_region 10 with fail
  case' some x =>
    obtain ⟨i, m⟩ := x
    have HC := Lib.hid hc
    refine (textW_bad k p l.length c l _ A S1.out.2 rfl (S1.out.1.get 0 rfl) i m hc).mono ?_
    clear hc
    rintro e w2 ⟨b2, rfl, _, hb2⟩
    have S2 := Lib.hid (And.intro (S1.out.1.next hb2) (S1.out.2.below hb2))
    clear hb2 S1
    have hchk := fun W hW hR => check_bad k p l.length c l W A hR rfl hW i m HC.out
    have HK := Lib.hid hchk
    clear hchk
    go_wp2_with fail
    go_region_with (first
      | (go_at_call 32; refine (HK.out _ (by first | exact (S2.out.1.get 0 rfl) | exact (S2.out.1.drew.get 0 rfl)) (by first | exact S2.out.2 | exact S2.out.2.below (Below.refl _ _).drew)).mono ?_; rintro e w5 ⟨b5, rfl, _, hb5⟩))
    have S5 := Lib.hid (And.intro (S2.out.1.next ((Below.refl _ _).drew.trans hb5)).below (S2.out.2.below ((Below.refl _ _).drew.trans hb5)))
    clear hb5 S2
    go_upto_region 10 with fail
  all_goals
    go_wp2_with fail
    cases hs : chkW k (sW s) with
    | none =>
      have HS := Lib.hid hs
      refine (parseW_ok k s _ hs).mono ?_
      clear hs
      rintro e w6 ⟨p6, c6, rfl, ho6, hb6⟩
      have hok := chkW_none HS.out
      have htw := textW_ok k p6 (sW s).length c6 (sW s) w6 rfl ho6.toV HS.out
      rw [txW_sW hok.choose_spec.2.2.2.2] at htw
      have S6 := Lib.hid (And.intro (S5.out.1.trans (hb6.mono S5.out.1.size)) htw)
      clear ho6 hb6 hok htw
      go_wp2_with fail
      refine S6.out.2.mono ?_
      rintro e w7 ⟨rfl, hb7⟩
      have S7 := Lib.hid (S6.out.1.trans (hb7.mono S6.out.1.size))
      clear hb7 S6
      go_wp2_with fail
      go_ret
      exact ⟨rfl, S7.out⟩
    | some x =>
      obtain ⟨i, m⟩ := x
      have HS := Lib.hid hs
      refine (parseW_bad k s _ A S5.out.2 hsz0.out i m hs).mono ?_
      clear hs
      rintro e w6 ⟨b6, rfl, _, hb6⟩
      have S6 := Lib.hid (S5.out.1.trans (hb6.mono S5.out.1.size))
      clear hb6
      go_wp2_with fail
      go_ret
      exact ⟨rfl, S6.out⟩
end Go.Proofs.YthhighljfjeooaaDoor
