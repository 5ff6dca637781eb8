/- The document's own package of rules by its contracts: Parse where the number reads.
edenraw.Lent, Kept and Copy, by contracts.
What the rows' lists of package-level variables give the walks: api's twelve errors and errors' own handle; and one world that meets the lists.
How a law's row is closed from its walk: where the law answers true and only new memory was written, each argument reads as it did.
Package word by its contracts, third part: Period, Least.
What the statements of layer 3 share: lists that are known, awake.
What the statements of layer 4 share: rules that are held against each other, lent rules, awake.
What the program answers and what the document answers, told by one word: an error, or none.
Code and From, the program's and the document's, told by one word.
Text and Parse, the program's and the document's, told by one word.
A rule's text, read back: what Parse finds in what Text writes.
An argument that is a rule, opened.
An argument that is a list of limbs, opened: it reads a list of numbers below 2^32.
What a longer list gives: api's twelve errors behind three tables of the library; and one world that meets it. -/
import Derived.Test.YtgdjnohhofbcnaaGreatDoorB6
import Derived.Test.YtgdjnohhofbcnaaGreatDoorB4
import Derived.Laws.CopyOwn
import Derived.Laws.AppendOwnNone
import Derived.Test.YtgdjnohhofbcnaaGreatDoorCards
import Derived.Test.YtgdjnohhofbcnaaGreatDoorTie
import Derived.Test.YtgdjnohhofbcnaaGreatDoorB2
import Derived.ProofKit
import Derived.OpenShut
import Derived.Deep.DeepHandedRow
import Derived.Deep.DeepWitnessRowRef
import Derived.LaidHandle
import Derived.LaidLaws
import Derived.Stop.LaidErr
import Derived.Carry
import Derived.SliceStrings
import Derived.Test.YtgdjnohhofbcnaaGreatDoorB3
import Derived.ChangeSlices
import Derived.Deep.RegionWith
import Derived.Test.YtgdjnohhofbcnaaGreatDoorB5
import Derived.Lib.SmallJoins
section
namespace Go.Proofs.YtgdjnohhofbcnaaGreatDoor
open Go.RowKit Go.Extern.Stop Go.Stop Go.Extern WordM RuleM NatM
attribute [local go_sem ↓] Go.wp_at_zero Go.wp_at_succ

theorem num_len {l : List Nat} (h : parseBad l = none) : (D32 (numOf l)).length ≤ 125 := by
  unfold parseBad at h
  split at h
  · cases h
  · split at h
    · cases h
    · split at h
      · cases h
      · rename_i h1 h2 _ hj
        have hd : ∀ b ∈ l, isDig b = true := fun b hb => by simpa using findIdx_none hj b hb
        refine D32_len (Nat.lt_of_lt_of_le (numOf_lt l hd) (Nat.le_trans (Nat.pow_le_pow_right (n := 10) (by omega) (show l.length ≤ 1200 by omega)) (by decide +kernel)))
theorem Err3.putE {w : World} {h : Nat} {a b c : Value} (k : Err3 w h a b c) (a' b' c' : Value) : Err3 (put3 w h a' b' c') h a' b' c' := by
  have set : ∀ {w : World} {cs : Array Value} {T : TypeId} (i : Nat) (v : Value), w.heap[h]? = some (.cells cs T (0, 0)) → (w.setCell ⟨h, i, none⟩ v).heap[h]? = some (.cells (cs.setIfInBounds i v) T (0, 0)) := fun {w cs T} i v hh => by
    show (w.heap.modify h _)[h]? = _
    rw [Array.getElem?_modify, if_pos rfl, hh]; rfl
  exact ⟨set 2 c' (set 1 b' (set 0 a' k.heap))⟩
theorem Err3.putOther {w : World} {h : Nat} {a b c : Value} (k : Err3 w h a b c) (g : Nat) (hg : g ≠ h) (x y z : Value) : Err3 (put3 w g x y z) h a b c := by
  have set : ∀ {w : World} (i : Nat) (v : Value), (w.setCell ⟨g, i, none⟩ v).heap[h]? = w.heap[h]? := fun {w} i v => by
    show (w.heap.modify g _)[h]? = _
    rw [Array.getElem?_modify, if_neg hg]
  exact ⟨(set 2 z).trans ((set 1 y).trans ((set 0 x).trans k.heap))⟩
theorem chkF_over {K R N : Nat} (h1 : 1 ≤ K) (h4 : K ≤ 4) (h3 : R ≤ 3) (hz : K ^ (2 * R + 1) ≤ 256) (hge : K ^ (K ^ (2 * R + 1)) ≤ N) : chkF (K : Int) (R : Int) N = some (1, 3) := by
  have hn : ¬ (((K : Int) < 1 ∨ 4 < (K : Int)) ∨ (R : Int) < 0 ∨ 3 < (R : Int)) := by clear hz hge; omega
  unfold chkF
  rw [if_neg hn, Int.toNat_natCast, Int.toNat_natCast, if_neg (Nat.not_lt.2 hz), if_pos hge]

set_option maxRecDepth 100000 in
set_option maxHeartbeats 8000000 in
theorem rparse_ref_from (s : ByteArray) (w : World) (hs : s.size ≤ 8192) (hf : fwT s = 4) (hz : symK s ^ (2 * symR s + 1) ≤ 256) (hp : parseBad (bsOf (restS s)) = none) (hcmp : symK s ^ (symK s ^ (2 * symR s + 1)) ≤ numOf (bsOf (restS s))) :
    Calls Tryz.prog 10 #[.string s] w (RefErrR2 w noRule 4 3) := by
  have hs' : ¬ (8192 : Int) < (s.size : Int) := by omega
  obtain ⟨h1, h4, h3⟩ := sym_range hf
  obtain ⟨h4s, ⟨hb0, hb0'⟩, _, ⟨hb2, hb2'⟩, _⟩ := fwT_four hf
  have e0 := byteS_get (s := s) (i := 0) (by omega)
  have e2 := byteS_get (s := s) (i := 2) (by omega)
  have hgd : ∀ j, j < 4 → j < s.size ∧ loT j ≤ byteS s j ∧ byteS s j ≤ hiT j := fun j h => fw_good (by rw [hf]; exact h)
  obtain ⟨K, hK⟩ : ∃ K, symK s = K := ⟨_, rfl⟩
  obtain ⟨R, hR⟩ : ∃ R, symR s = R := ⟨_, rfl⟩
  have hk0 : ((s[0]'(by omega)).toNat : Int) - 48 = (K : Int) := by unfold symK at hK; omega
  have hr0 : ((s[2]'(by omega)).toNat : Int) - 48 = (R : Int) := by unfold symR at hR; omega
  have hwk : wrap64 (wrap64 ((s[0]'(by omega)).toNat : Int) - 48) = (K : Int) := wrap_dig _ _ hk0 (by omega)
  have hwr : wrap64 (wrap64 ((s[2]'(by omega)).toNat : Int) - 48) = (R : Int) := wrap_dig _ _ hr0 (by omega)
  rw [hK, hR] at hz
  have h1' : 1 ≤ K := by rw [← hK]; exact h1
  have h4' : K ≤ 4 := by rw [← hK]; exact h4
  have h3' : R ≤ 3 := by rw [← hR]; exact h3
  have hNl := num_len hp
  obtain ⟨N, hN⟩ : ∃ N, numOf (bsOf (restS s)) = N := ⟨_, rfl⟩
  have hnp : ∀ W, Calls Tryz.prog 40 #[.string (restS s)] W (PowOutR W (numOf (bsOf (restS s)))) := fun W => parse_ref_num (restS s) W hp
  rw [hK, hR] at hcmp
  rw [hN] at hNl hcmp hnp
  unfold restS at hnp
  have hc : chkF (K : Int) (R : Int) (V32 (D32 N)) = some (1, 3) := by
    rw [V32_D32]
    exact chkF_over h1' h4' h3' hz hcmp
  have hfr : ∀ (W : World) (p : Option Addr) (c : Nat), NatV W.heap.size W p c (D32 N) → Calls Tryz.prog 42 #[.int .i64 (K : Int), .int .i64 (R : Int), .slice p (D32 N).length c] W (RefErrR2 W (.agg #[.int .i64 0, .int .i64 0, .slice none 0 0]) 1 3) := fun W p c hW => from_ref_bad (K : Int) (R : Int) p (D32 N).length c (D32 N) W rfl hW (by omega) 1 3 hc
  have hsz : ∀ W, Calls Tryz.prog 39 #[.int .i64 (K : Int), .int .i64 (R : Int)] W (SizeOutR W (K ^ (2 * R + 1))) := fun W => size_ref_ok K R W h1' h4' h3'
  have H := Lib.hid (And.intro hgd (And.intro hnp hfr))
  obtain ⟨S, hS⟩ : ∃ S, K ^ (2 * R + 1) = S := ⟨_, rfl⟩
  simp only [hS] at hsz
  rw [hS] at hz
  have HZ := Lib.hid hsz
  have l0 : 0 < s.size := by omega
  have l2 : 2 < s.size := by omega
  have i0 : (0 : Int) < (s.size : Int) := by omega
  have i2 : (2 : Int) < (s.size : Int) := by omega
  have i4 : (4 : Int) ≤ (s.size : Int) := by omega
  have hz' : ¬ (256 : Int) < (S : Int) := by omega
  clear hgd hsz hK hR hk0 hr0 e0 e2 hb0 hb0' hb2 hb2' hS hf hz h1' h4' h3' h1 h4 h3 hnp hp hcmp hc hfr hNl hN
  go_enter Tryz.func10, Tryz.ntmps10
  go_upto_region 1 with fail
  obtain ⟨w0, hw0⟩ : ∃ w0, w0 = (w.alloc (.cells #[.int .i64 0, .int .i64 0, .slice none 0 0] 24)).alloc (.cells #[.int .i64 0, .slice none 0 0, .slice none 0 0] 32) := ⟨_, rfl⟩
  obtain ⟨hb0, hR0, hE0⟩ := start_both w _ _ _ w0 hw0
  rw [← hw0]
  have hszb : (w.alloc (.cells #[.int .i64 0, .int .i64 0, .slice none 0 0] 24)).heap.size = w.heap.size + 1 := by simp
  have HE := Lib.hid (And.intro hR0 (And.intro hE0 hb0))
  clear hw0 hR0 hE0 hb0
  go_wp2_with fail
  obtain ⟨LO, hLO⟩ : ∃ x, (⟨#[49, 46, 48, 46]⟩ : ByteArray) = x := ⟨_, rfl⟩
  obtain ⟨HI, hHI⟩ : ∃ x, (⟨#[52, 46, 51, 46]⟩ : ByteArray) = x := ⟨_, rfl⟩
  have hLl : LO.size = 4 := by rw [← hLO]; rfl
  have hHl : HI.size = 4 := by rw [← hHI]; rfl
  have hLg : ∀ (j : Nat) (h : j < LO.size), (LO[j]'h).toNat = loT j := by subst hLO; exact fun j h => lo_get h
  have hHg : ∀ (j : Nat) (h : j < HI.size), (HI[j]'h).toNat = hiT j := by subst hHI; exact fun j h => hi_get h
  rw [hLO, hHI]
  have HN := Lib.hid (And.intro hLl (And.intro hHl (And.intro hLg hHg)))
  clear hLl hHl hLg hHg hLO hHI
  go_loopw [6] (fun v wr => ∃ j : Nat, j ≤ 4 ∧ j ≤ 4 ∧ v = .int .i64 (j : Int) ∧ Below w0.heap.size w0 wr) (fun v _ => 4 - (intOf v).toNat)
  case atStart => exact ⟨0, by omega, Nat.zero_le _, rfl, Below.refl _ _⟩
  case round =>
    obtain ⟨j, hj4, hjF, rfl, hbi⟩ := hrel
    by_cases hlt : j < 4
    · have hj : j < 4 := by omega
      have hg := H.out.1 j hlt
      have hz2 : j < s.size := hg.1
      have hL2 : j < LO.size := by rw [HN.out.1]; exact hj
      have hH2 : j < HI.size := by rw [HN.out.2.1]; exact hj
      have hL1 : (j : Int) < (LO.size : Int) := by omega
      have hH1 : (j : Int) < (HI.size : Int) := by omega
      have hej := byteS_get hz2
      have hlg := HN.out.2.2.1 j hL2
      have hhg := HN.out.2.2.2 j hH2
      have hz0 : decide (s.size ≤ j) = false := by rw [decide_eq_false_iff_not]; omega
      have hz1 : (j : Int) < (s.size : Int) := by omega
      have hlo : decide ((s[j]'hz2).toNat < (LO[j]'hL2).toNat) = false := by rw [decide_eq_false_iff_not]; omega
      have hhi : decide ((HI[j]'hH2).toNat < (s[j]'hz2).toNat) = false := by rw [decide_eq_false_iff_not]; omega
      have HB := Lib.hid (And.intro hlt hbi.drew)
      clear hg hej hbi hlt hlg hhg
      go_wp2_with fail
      go_region
      go_wp2_with fail
      go_roundw
      case rel => exact ⟨j + 1, by omega, HB.out.1, by go_num, HB.out.2⟩
      case measure => simp [intOf]; omega
    · obtain rfl : j = 4 := by omega
      have HW := Lib.hid (And.intro (HE.out.1.next hbi) (And.intro (HE.out.2.1.next hbi) (HE.out.2.2.trans (hbi.mono HE.out.2.2.size))))
      clear hbi
      go_wp2_with fail
      refine (HZ.out wr).mono ?_
      rintro e w1 ⟨rfl, hb1⟩
      go_upto_region 13 with fail
      obtain ⟨wB, hwB⟩ : ∃ x, x = w1.alloc (.cells #[.int .i64 0, .slice none 0 0, .slice none 0 0] 32) := ⟨_, rfl⟩
      have hbB : Below w1.heap.size w1 wB := by rw [hwB]; exact (Below.refl _ _).alloc (Nat.le_refl _) _
      have hb1B := hb1.trans (hbB.mono hb1.size)
      rw [← hwB]
      have HQ := Lib.hid (And.intro (HW.out.1.next hb1B) (And.intro (HW.out.2.1.next hb1B) (HW.out.2.2.trans (hb1B.mono HW.out.2.2.size))))
      clear hwB hbB hb1 hb1B
      go_wp2_with fail
      refine (H.out.2.1 wB).mono ?_
      rintro e w3 ⟨pp, cc, rfl, ho3, hb3⟩
      go_upto_region 16 with fail
      obtain ⟨wC, hwC⟩ : ∃ x, x = w3.alloc (.cells #[.int .i64 0, .slice none 0 0, .slice none 0 0] 32) := ⟨_, rfl⟩
      have hbC : Below w3.heap.size w3 wC := by rw [hwC]; exact (Below.refl _ _).alloc (Nat.le_refl _) _
      have hEC : Err3 wC w3.heap.size (.int .i64 0) (.slice none 0 0) (.slice none 0 0) := by rw [hwC]; exact ⟨heap_newN w3 _⟩
      have hb3C := hb3.trans (hbC.mono hb3.size)
      rw [← hwC]
      obtain ⟨_, hk0, hk1, hk2⟩ := hEC.facts
      have HC := Lib.hid (And.intro (HQ.out.1.next hb3C) (And.intro (HQ.out.2.1.next hb3C) (And.intro (HQ.out.2.2.trans (hb3C.mono HQ.out.2.2.size)) (And.intro hEC (ho3.next hbC).toV))))
      have hlt3 : w.heap.size + 1 < w3.heap.size := Nat.lt_of_lt_of_le HQ.out.2.1.lt hb3.size
      clear hwC hbC hb3 hb3C hEC ho3
      go_wp2_with fail
      refine (bad_no (.slice none 0 0) (.slice none 0 0) wC).mono ?_
      rintro e wD ⟨rfl, hbD⟩
      clear hk0 hk1 hk2
      have HD := Lib.hid (And.intro (HC.out.1.next hbD) (And.intro (HC.out.2.1.next hbD) (And.intro (HC.out.2.2.1.trans (hbD.mono HC.out.2.2.1.size)) (And.intro (HC.out.2.2.2.1.next hbD) (HC.out.2.2.2.2.next hbD)))))
      clear hbD
      go_wp2_with fail
      refine (H.out.2.2 wD pp cc HD.out.2.2.2.2).mono ?_
      rintro e w5 ⟨v, rfl, g, g', rfl, hgg, hw5, hb5⟩
      obtain ⟨⟨hf0, hf1, hf2⟩, hc0, hc1, hc2⟩ := (HD.out.2.2.2.1.next hb5).facts
      have hlt5 := (HD.out.2.2.2.1.next hb5).lt
      go_upto_region 19 with fail
      obtain ⟨wE, hwE⟩ : ∃ x, x = (put3 w5 w3.heap.size (.int .i64 3) (.slice (some ⟨g, 0, none⟩) 1 1) (.slice (some ⟨g', 0, none⟩) 1 1)).alloc (.cells #[.int .i64 0, .int .i64 0, .slice none 0 0] 24) := ⟨_, rfl⟩
      have hPE : Below (put3 w5 w3.heap.size (.int .i64 3) (.slice (some ⟨g, 0, none⟩) 1 1) (.slice (some ⟨g', 0, none⟩) 1 1)).heap.size (put3 w5 w3.heap.size (.int .i64 3) (.slice (some ⟨g, 0, none⟩) 1 1) (.slice (some ⟨g', 0, none⟩) 1 1)) wE := by rw [hwE]; exact (Below.refl _ _).alloc (Nat.le_refl _) _
      have hEE := (Err3.putE (HD.out.2.2.2.1.next hb5) (.int .i64 3) (.slice (some ⟨g, 0, none⟩) 1 1) (.slice (some ⟨g', 0, none⟩) 1 1)).next hPE
      have hRE := ((HD.out.1.next hb5).putOther w3.heap.size (by omega) (.int .i64 3) (.slice (some ⟨g, 0, none⟩) 1 1) (.slice (some ⟨g', 0, none⟩) 1 1)).next hPE
      have hFE := ((HD.out.2.1.next hb5).putOther w3.heap.size (by omega) (.int .i64 3) (.slice (some ⟨g, 0, none⟩) 1 1) (.slice (some ⟨g', 0, none⟩) 1 1)).next hPE
      have hbp := put3_below (h := w3.heap.size) (HD.out.2.2.1.trans (hb5.mono HD.out.2.2.1.size)) (by omega) (.int .i64 3) (.slice (some ⟨g, 0, none⟩) 1 1) (.slice (some ⟨g', 0, none⟩) 1 1)
      have hbE := hbp.trans (hPE.mono hbp.size)
      clear hf0 hf1 hf2 hc0 hc1 hc2
      obtain ⟨_, hk0, hk1, hk2⟩ := hEE.facts
      have HG := Lib.hid (And.intro hRE (And.intro hFE hbE))
      change Code.wp _ _ _ _ ((put3 w5 w3.heap.size (.int .i64 3) (.slice (some ⟨g, 0, none⟩) 1 1) (.slice (some ⟨g', 0, none⟩) 1 1)).alloc (.cells #[.int .i64 0, .int .i64 0, .slice none 0 0] 24))
      rw [← hwE]
      clear hwE hPE hEE hRE hFE hbp hbE hb5 hw5 hgg hlt5
      go_wp2_with fail
      refine (bad_yes 3 (by omega) (.slice (some ⟨g, 0, none⟩) 1 1) (.slice (some ⟨g', 0, none⟩) 1 1) wE).mono ?_
      rintro e wF ⟨rfl, hbF⟩
      clear hk0 hk1 hk2
      have HK := Lib.hid (And.intro (HG.out.1.next hbF) (And.intro (HG.out.2.1.next hbF) (HG.out.2.2.trans (hbF.mono HG.out.2.2.size))))
      clear hbF
      go_wp2_with fail
      refine (raw_fresh ruleOp 4 3 wF).mono ?_
      rintro e w2 ⟨g2, g2', rfl, hg, hcg, hcg', hb2⟩
      obtain ⟨⟨hf0, hf1, hf2⟩, hc0, hc1, hc2⟩ := (HK.out.2.1.next hb2).facts
      obtain ⟨⟨he0, he1, he2⟩, hd0, hd1, hd2⟩ := (HK.out.1.next hb2).facts
      have hs2 := put3_same (HK.out.1.next hb2)
      have HB := Lib.hid (And.intro (RefErrR.laid (k := 3) HK.out.2.2 (Nat.le_succ _) HK.out.2.1.lt hg hcg hcg' hb2) hs2)
      clear hb2 hcg hcg' hg hs2
      go_wp2_with fail
      refine bodyPost_ret (v := .tuple #[noRule, .agg #[.int .i64 3, .slice (some ⟨g2, 0, none⟩) 1 1, .slice (some ⟨g2', 0, none⟩) 1 1]]) (by simp [results, Tryz.results10, go_sem, hc0, hc1, hc2, hd0, hd1, hd2, noRule]) rfl ⟨_, rfl, ?_⟩
      show RefErrR _ _ _ _ (put3 (put3 w2 w.heap.size _ _ _) (w.heap.size + 1) _ _ _)
      rw [HB.out.2]
      exact HB.out.1 _ _ _
/-- the rule with this number, the error written out -/
def FromOutR (w : World) (k r i : Nat) (e : Ending) (w' : World) : Prop :=
  ∃ t p c, OkR k r t ∧ codeR k t = i ∧ e = .returned (.tuple #[.agg #[.int .i64 (k : Int), .int .i64 (r : Int), .slice p t.length c], .agg #[.int .i64 0, .slice none 0 0, .slice none 0 0]]) ∧ IntO w.heap.size w' p c t ∧ Below w.heap.size w w'

set_option maxRecDepth 100000 in
set_option maxHeartbeats 8000000 in
theorem rparse_ref_ok (s : ByteArray) (w : World) (hs : s.size ≤ 8192) (hf : fwT s = 4) (hz : symK s ^ (2 * symR s + 1) ≤ 256) (hp : parseBad (bsOf (restS s)) = none) (hcmp : numOf (bsOf (restS s)) < symK s ^ (symK s ^ (2 * symR s + 1))) :
    Calls Tryz.prog 10 #[.string s] w (FromRef w (symK s) (symR s) (numOf (bsOf (restS s)))) := by
  have hs' : ¬ (8192 : Int) < (s.size : Int) := by omega
  obtain ⟨h1, h4, h3⟩ := sym_range hf
  obtain ⟨h4s, ⟨hb0, hb0'⟩, _, ⟨hb2, hb2'⟩, _⟩ := fwT_four hf
  have e0 := byteS_get (s := s) (i := 0) (by omega)
  have e2 := byteS_get (s := s) (i := 2) (by omega)
  have hgd : ∀ j, j < 4 → j < s.size ∧ loT j ≤ byteS s j ∧ byteS s j ≤ hiT j := fun j h => fw_good (by rw [hf]; exact h)
  obtain ⟨K, hK⟩ : ∃ K, symK s = K := ⟨_, rfl⟩
  obtain ⟨R, hR⟩ : ∃ R, symR s = R := ⟨_, rfl⟩
  have hk0 : ((s[0]'(by omega)).toNat : Int) - 48 = (K : Int) := by unfold symK at hK; omega
  have hr0 : ((s[2]'(by omega)).toNat : Int) - 48 = (R : Int) := by unfold symR at hR; omega
  have hwk : wrap64 (wrap64 ((s[0]'(by omega)).toNat : Int) - 48) = (K : Int) := wrap_dig _ _ hk0 (by omega)
  have hwr : wrap64 (wrap64 ((s[2]'(by omega)).toNat : Int) - 48) = (R : Int) := wrap_dig _ _ hr0 (by omega)
  rw [hK, hR] at hz
  have h1' : 1 ≤ K := by rw [← hK]; exact h1
  have h4' : K ≤ 4 := by rw [← hK]; exact h4
  have h3' : R ≤ 3 := by rw [← hR]; exact h3
  have hNl := num_len hp
  obtain ⟨N, hN⟩ : ∃ N, numOf (bsOf (restS s)) = N := ⟨_, rfl⟩
  have hnp : ∀ W, Calls Tryz.prog 40 #[.string (restS s)] W (PowOutR W (numOf (bsOf (restS s)))) := fun W => parse_ref_num (restS s) W hp
  rw [hK, hR] at hcmp
  rw [hK, hR, hN]
  rw [hN] at hNl hcmp hnp
  unfold restS at hnp
  have hfr : ∀ (W : World) (p : Option Addr) (c : Nat), NatV W.heap.size W p c (D32 N) → Calls Tryz.prog 42 #[.int .i64 (K : Int), .int .i64 (R : Int), .slice p (D32 N).length c] W (FromOutR W K R N) := fun W p c hW => by
    have h := from_ref_ok K R p (D32 N).length c (D32 N) W rfl hW (by clear hz hcmp; omega) h1' h4' h3' hz (by rw [V32_D32]; exact hcmp)
    rw [V32_D32] at h
    exact h
  have hsz : ∀ W, Calls Tryz.prog 39 #[.int .i64 (K : Int), .int .i64 (R : Int)] W (SizeOutR W (K ^ (2 * R + 1))) := fun W => size_ref_ok K R W h1' h4' h3'
  have H := Lib.hid (And.intro hgd (And.intro hnp hfr))
  obtain ⟨S, hS⟩ : ∃ S, K ^ (2 * R + 1) = S := ⟨_, rfl⟩
  simp only [hS] at hsz
  rw [hS] at hz
  have HZ := Lib.hid hsz
  have l0 : 0 < s.size := by omega
  have l2 : 2 < s.size := by omega
  have i0 : (0 : Int) < (s.size : Int) := by omega
  have i2 : (2 : Int) < (s.size : Int) := by omega
  have i4 : (4 : Int) ≤ (s.size : Int) := by omega
  have hz' : ¬ (256 : Int) < (S : Int) := by omega
  clear hgd hsz hK hR hk0 hr0 e0 e2 hb0 hb0' hb2 hb2' hS hf hz h1' h4' h3' h1 h4 h3 hnp hp hcmp hfr hNl hN
  go_enter Tryz.func10, Tryz.ntmps10
  go_upto_region 1 with fail
  obtain ⟨w0, hw0⟩ : ∃ w0, w0 = (w.alloc (.cells #[.int .i64 0, .int .i64 0, .slice none 0 0] 24)).alloc (.cells #[.int .i64 0, .slice none 0 0, .slice none 0 0] 32) := ⟨_, rfl⟩
  obtain ⟨hb0, hR0, hE0⟩ := start_both w _ _ _ w0 hw0
  rw [← hw0]
  have hszb : (w.alloc (.cells #[.int .i64 0, .int .i64 0, .slice none 0 0] 24)).heap.size = w.heap.size + 1 := by simp
  have HE := Lib.hid (And.intro hR0 (And.intro hE0 hb0))
  clear hw0 hR0 hE0 hb0
  go_wp2_with fail
  obtain ⟨LO, hLO⟩ : ∃ x, (⟨#[49, 46, 48, 46]⟩ : ByteArray) = x := ⟨_, rfl⟩
  obtain ⟨HI, hHI⟩ : ∃ x, (⟨#[52, 46, 51, 46]⟩ : ByteArray) = x := ⟨_, rfl⟩
  have hLl : LO.size = 4 := by rw [← hLO]; rfl
  have hHl : HI.size = 4 := by rw [← hHI]; rfl
  have hLg : ∀ (j : Nat) (h : j < LO.size), (LO[j]'h).toNat = loT j := by subst hLO; exact fun j h => lo_get h
  have hHg : ∀ (j : Nat) (h : j < HI.size), (HI[j]'h).toNat = hiT j := by subst hHI; exact fun j h => hi_get h
  rw [hLO, hHI]
  have HN := Lib.hid (And.intro hLl (And.intro hHl (And.intro hLg hHg)))
  clear hLl hHl hLg hHg hLO hHI
  go_loopw [6] (fun v wr => ∃ j : Nat, j ≤ 4 ∧ j ≤ 4 ∧ v = .int .i64 (j : Int) ∧ Below w0.heap.size w0 wr) (fun v _ => 4 - (intOf v).toNat)
  case atStart => exact ⟨0, by omega, Nat.zero_le _, rfl, Below.refl _ _⟩
  case round =>
    obtain ⟨j, hj4, hjF, rfl, hbi⟩ := hrel
    by_cases hlt : j < 4
    · have hj : j < 4 := by omega
      have hg := H.out.1 j hlt
      have hz2 : j < s.size := hg.1
      have hL2 : j < LO.size := by rw [HN.out.1]; exact hj
      have hH2 : j < HI.size := by rw [HN.out.2.1]; exact hj
      have hL1 : (j : Int) < (LO.size : Int) := by omega
      have hH1 : (j : Int) < (HI.size : Int) := by omega
      have hej := byteS_get hz2
      have hlg := HN.out.2.2.1 j hL2
      have hhg := HN.out.2.2.2 j hH2
      have hz0 : decide (s.size ≤ j) = false := by rw [decide_eq_false_iff_not]; omega
      have hz1 : (j : Int) < (s.size : Int) := by omega
      have hlo : decide ((s[j]'hz2).toNat < (LO[j]'hL2).toNat) = false := by rw [decide_eq_false_iff_not]; omega
      have hhi : decide ((HI[j]'hH2).toNat < (s[j]'hz2).toNat) = false := by rw [decide_eq_false_iff_not]; omega
      have HB := Lib.hid (And.intro hlt hbi.drew)
      clear hg hej hbi hlt hlg hhg
      go_wp2_with fail
      go_region
      go_wp2_with fail
      go_roundw
      case rel => exact ⟨j + 1, by omega, HB.out.1, by go_num, HB.out.2⟩
      case measure => simp [intOf]; omega
    · obtain rfl : j = 4 := by omega
      have HW := Lib.hid (And.intro (HE.out.1.next hbi) (And.intro (HE.out.2.1.next hbi) (HE.out.2.2.trans (hbi.mono HE.out.2.2.size))))
      clear hbi
      go_wp2_with fail
      refine (HZ.out wr).mono ?_
      rintro e w1 ⟨rfl, hb1⟩
      go_upto_region 13 with fail
      obtain ⟨wB, hwB⟩ : ∃ x, x = w1.alloc (.cells #[.int .i64 0, .slice none 0 0, .slice none 0 0] 32) := ⟨_, rfl⟩
      have hbB : Below w1.heap.size w1 wB := by rw [hwB]; exact (Below.refl _ _).alloc (Nat.le_refl _) _
      have hb1B := hb1.trans (hbB.mono hb1.size)
      rw [← hwB]
      have HQ := Lib.hid (And.intro (HW.out.1.next hb1B) (And.intro (HW.out.2.1.next hb1B) (HW.out.2.2.trans (hb1B.mono HW.out.2.2.size))))
      clear hwB hbB hb1 hb1B
      go_wp2_with fail
      refine (H.out.2.1 wB).mono ?_
      rintro e w3 ⟨pp, cc, rfl, ho3, hb3⟩
      go_upto_region 16 with fail
      obtain ⟨wC, hwC⟩ : ∃ x, x = w3.alloc (.cells #[.int .i64 0, .slice none 0 0, .slice none 0 0] 32) := ⟨_, rfl⟩
      have hbC : Below w3.heap.size w3 wC := by rw [hwC]; exact (Below.refl _ _).alloc (Nat.le_refl _) _
      have hEC : Err3 wC w3.heap.size (.int .i64 0) (.slice none 0 0) (.slice none 0 0) := by rw [hwC]; exact ⟨heap_newN w3 _⟩
      have hb3C := hb3.trans (hbC.mono hb3.size)
      rw [← hwC]
      obtain ⟨_, hk0, hk1, hk2⟩ := hEC.facts
      have HC := Lib.hid (And.intro (HQ.out.1.next hb3C) (And.intro (HQ.out.2.1.next hb3C) (And.intro (HQ.out.2.2.trans (hb3C.mono HQ.out.2.2.size)) (And.intro hEC (ho3.next hbC).toV))))
      have hlt3 : w.heap.size + 1 < w3.heap.size := Nat.lt_of_lt_of_le HQ.out.2.1.lt hb3.size
      clear hwC hbC hb3 hb3C hEC ho3
      go_wp2_with fail
      refine (bad_no (.slice none 0 0) (.slice none 0 0) wC).mono ?_
      rintro e wD ⟨rfl, hbD⟩
      clear hk0 hk1 hk2
      have HD := Lib.hid (And.intro (HC.out.1.next hbD) (And.intro (HC.out.2.1.next hbD) (And.intro (HC.out.2.2.1.trans (hbD.mono HC.out.2.2.1.size)) (And.intro (HC.out.2.2.2.1.next hbD) (HC.out.2.2.2.2.next hbD)))))
      clear hbD
      go_wp2_with fail
      refine (H.out.2.2 wD pp cc HD.out.2.2.2.2).mono ?_
      rintro e w5 ⟨t, p5, c5, hok, hcd, rfl, ho5, hb5⟩
      obtain ⟨n5, hn5⟩ : ∃ x, t.length = x := ⟨_, rfl⟩
      rw [hn5]
      obtain ⟨⟨hf0, hf1, hf2⟩, hc0, hc1, hc2⟩ := (HD.out.2.2.2.1.next hb5).facts
      have hlt5 := (HD.out.2.2.2.1.next hb5).lt
      have hltD := HD.out.2.2.2.1.lt
      have HT := Lib.hid (And.intro hok (And.intro hcd hn5))
      clear hok hcd hn5
      go_upto_region 19 with fail
      obtain ⟨wE, hwE⟩ : ∃ x, x = (put3 w5 w3.heap.size (.int .i64 0) (.slice none 0 0) (.slice none 0 0)).alloc (.cells #[.int .i64 (K : Int), .int .i64 (R : Int), .slice p5 n5 c5] 24) := ⟨_, rfl⟩
      have hPE : Below (put3 w5 w3.heap.size (.int .i64 0) (.slice none 0 0) (.slice none 0 0)).heap.size (put3 w5 w3.heap.size (.int .i64 0) (.slice none 0 0) (.slice none 0 0)) wE := by rw [hwE]; exact (Below.refl _ _).alloc (Nat.le_refl _) _
      have hGE : Rul3 wE (put3 w5 w3.heap.size (.int .i64 0) (.slice none 0 0) (.slice none 0 0)).heap.size (.int .i64 (K : Int)) (.int .i64 (R : Int)) (.slice p5 n5 c5) := by rw [hwE]; exact Rul3.new _ _ _ _
      rw [put3_size] at hGE
      have hEE := (Err3.putE (HD.out.2.2.2.1.next hb5) (.int .i64 0) (.slice none 0 0) (.slice none 0 0)).next hPE
      have hRE := ((HD.out.1.next hb5).putOther w3.heap.size (by omega) (.int .i64 0) (.slice none 0 0) (.slice none 0 0)).next hPE
      have hFE := ((HD.out.2.1.next hb5).putOther w3.heap.size (by omega) (.int .i64 0) (.slice none 0 0) (.slice none 0 0)).next hPE
      have hbp := put3_below (h := w3.heap.size) (HD.out.2.2.1.trans (hb5.mono HD.out.2.2.1.size)) (by omega) (.int .i64 0) (.slice none 0 0) (.slice none 0 0)
      have hbE := hbp.trans (hPE.mono hbp.size)
      have hoE := (ho5.put3 (h := w3.heap.size) (by omega) (.int .i64 0) (.slice none 0 0) (.slice none 0 0)).next hPE
      clear hf0 hf1 hf2 hc0 hc1 hc2
      obtain ⟨_, hk0, hk1, hk2⟩ := hEE.facts
      have HG := Lib.hid (And.intro hRE (And.intro hFE (And.intro hbE (And.intro hGE hoE))))
      change Code.wp _ _ _ _ ((put3 w5 w3.heap.size (.int .i64 0) (.slice none 0 0) (.slice none 0 0)).alloc (.cells #[.int .i64 (K : Int), .int .i64 (R : Int), .slice p5 n5 c5] 24))
      rw [← hwE]
      have h35 : w3.heap.size < w5.heap.size := by have := hb5.size; omega
      clear hwE hPE hEE hRE hFE hbp hbE hb5 hGE hoE ho5 hlt5
      go_wp2_with fail
      refine (bad_no (.slice none 0 0) (.slice none 0 0) wE).mono ?_
      rintro e wF ⟨rfl, hbF⟩
      clear hk0 hk1 hk2
      have HK := Lib.hid (And.intro (HG.out.2.2.1.trans (hbF.mono HG.out.2.2.1.size)) (HG.out.2.2.2.2.next hbF))
      obtain ⟨⟨he0, he1, he2⟩, hd0, hd1, hd2⟩ := (HG.out.1.next hbF).facts
      obtain ⟨⟨hf0, hf1, hf2⟩, hc0, hc1, hc2⟩ := (HG.out.2.1.next hbF).facts
      obtain ⟨_, hg0, hg1, hg2⟩ := (HG.out.2.2.2.1.next hbF).facts
      have hne1 : w5.heap.size ≠ w.heap.size := by omega
      have hne2 : w5.heap.size ≠ w.heap.size + 1 := by omega
      clear hbF
      go_wp2_with fail
      refine bodyPost_ret (v := .tuple #[.agg #[.int .i64 (K : Int), .int .i64 (R : Int), .slice p5 n5 c5], noErr]) (by simp [results, Tryz.results10, go_sem, hc0, hc1, hc2, hd0, hd1, hd2, noErr]) rfl ⟨t, p5, c5, HT.out.1, HT.out.2.1, by rw [HT.out.2.2], ?_, ?_⟩
      · exact ((HK.out.2.put3 (by omega) _ _ _).put3 (by omega) _ _ _).base (by omega)
      · exact put3_below (put3_below HK.out.1 (Nat.le_refl _) _ _ _) (Nat.le_succ _) _ _ _
end Go.Proofs.YtgdjnohhofbcnaaGreatDoor
end
section
namespace Go.Proofs.YtgdjnohhofbcnaaGreatDoor
open Go.RowKit

/-- a lent list: its block holds it, and the two marks behind -/
def LentI (w : World) (g : Nat) (l : List Int) : Prop := w.heap[g]? = some (.cells (cI (l ++ [7001, 7002])).toArray 3 (0, 0))
theorem LentI.lt {w : World} {g : Nat} {l : List Int} (h : LentI w g l) : g < w.heap.size := heap_ltN h
theorem LentI.cell {w : World} {g : Nat} {l : List Int} (h : LentI w g l) {j : Nat} {x : Int} (hx : (l ++ [7001, 7002])[j]? = some x) : w.cell? ⟨g, j, none⟩ = some (.int .i64 x) := by
  rw [cell_of_row w g j _ _ _ h, List.getElem?_toArray]
  exact cI_get hx
theorem LentI.block {w w' : World} {g : Nat} {l : List Int} (hb : w'.heap[g]? = w.heap[g]?) (h : LentI w g l) : LentI w' g l := hb.trans h
theorem LentI.below {w w' : World} {g : Nat} {l : List Int} (hb : Below w.heap.size w w') (h : LentI w g l) : LentI w' g l := h.block (hb.block g h.lt)
theorem LentI.own {w : World} {g base : Nat} {l : List Int} (hB : base ≤ g) (hl : l.length ≤ 17592186043904) (h : LentI w g l) : IntO base w (some ⟨g, 0, none⟩) (l.length + 2) l := by
  refine ⟨by rw [cI_length, Nat.mul_one], Or.inr ⟨g, l.length + 2, _, rfl, hB, h, by omega, by unfold maxLen; omega, by simp [cI], ?_⟩⟩
  rw [List.toList_toArray, Nat.mul_one]
  unfold cI
  rw [List.map_append, List.take_left' (by simp)]
theorem LentI.of_own {w : World} {g base : Nat} {l : List Int} (h : IntO base w (some ⟨g, 0, none⟩) l.length l) (hfull : ∃ m, l = m ++ [7001, 7002]) : ∃ m, l = m ++ [7001, 7002] ∧ LentI w g m := by
  obtain ⟨m, rfl⟩ := hfull
  refine ⟨m, rfl, ?_⟩
  obtain ⟨hx, h1 | ⟨g', cap, cur, hv, hg, hh, hc, hm, hs, ht⟩⟩ := h
  · simp at h1
  · obtain ⟨rfl, rfl⟩ : g = g' ∧ (m ++ [7001, 7002]).length = cap := by simpa using hv
    unfold LentI
    rw [hh]
    congr 2
    rw [← Array.toList_inj, List.toList_toArray, ← ht, Nat.mul_one, List.take_of_length_le (by rw [Array.length_toList]; omega)]

def LentPostI (w : World) (l : List Int) (e : Ending) (w' : World) : Prop :=
  e = .returned (.slice (some ⟨w.heap.size, 0, none⟩) l.length (l.length + 2)) ∧ LentI w' w.heap.size l ∧ Below w.heap.size w w'
theorem splice_zeroI (cs : List Value) (n : Nat) (v : Value) : splice (List.replicate n v) 0 cs = cs ++ List.replicate (n - cs.length) v := by
  unfold splice
  simp

set_option maxRecDepth 100000 in
set_option maxHeartbeats 1000000 in
theorem lentI_any (p : Option Addr) (cap : Nat) (l : List Int) (w : World) (h : IntV w.heap.size w p cap l) (hl : l.length ≤ 17592186043904) :
    Calls Tryz.prog 14 #[.slice p l.length cap] w (LentPostI w l) := by
  obtain ⟨n, hn⟩ : ∃ n, n = l.length + 2 := ⟨_, rfl⟩
  have hmk := makeI n (by omega)
  have hn2 : (l.length : Int) + 2 = (n : Int) := by omega
  have H := Lib.hid (And.intro h hn)
  have hln : l.length < n := by omega
  have hln1 : l.length + 1 < n := by omega
  have hnb : n ≤ 17592186043906 := by omega
  clear h hn
  go_enter Tryz.func14, Tryz.ntmps14
  have hB1 : Below w.heap.size w (w.alloc (.cells (madeCells #[.int .i64 0] n) 3)) := (Below.refl _ _).alloc (Nat.le_refl _) _
  have HB1 := Lib.hid hB1
  have hh : (w.alloc (.cells (madeCells #[.int .i64 0] n) 3)).heap[w.heap.size]? = some (.cells (List.replicate n (Value.int .i64 0)).toArray 3 (0, 0)) := by
    rw [heap_newN, ← madeI_list]
  have HHH := Lib.hid hh
  clear hB1 hh
  go_wp2_with (with_reducible refine wpList_copy_splice rfl (.tmp 8) (.tmp 9) 22 22 rfl 3 Tryz.underlying22 sizeI (some ⟨w.heap.size, 0, none⟩) p n n l.length cap rfl rfl w.heap.size 0 (List.replicate n (Value.int .i64 0)) 3 HHH.out (cI l) ?k1 ?k2 ?k3 ?k4 w.heap.size w HB1.out (Nat.le_refl _) ?_)
  case k1 => rw [cI_length]; exact (Nat.min_eq_left (by omega)).symm
  case k2 =>
    intro hpos
    rw [cI_length] at hpos
    obtain ⟨b, off, rfl, hb, hc⟩ := H.out.1.cell (List.length_pos_iff.1 hpos)
    refine ⟨_, rfl, fun j v hv => ?_⟩
    rw [add_off]
    unfold cI at hv
    rw [List.getElem?_map] at hv
    obtain ⟨x, hx, rfl⟩ := Option.map_eq_some_iff.1 hv
    exact (HB1.out.cell (p := ⟨b, off + j, none⟩) hb).trans (hc j x hx)
  case k3 => rw [cI_length, List.length_replicate]; omega
  case k4 =>
    intro v hv
    unfold cI at hv
    obtain ⟨x, _, rfl⟩ := List.mem_map.1 hv
    rfl
  intro w1 hw1 hb1
  have hn0 : n = l.length + 2 := H.out.2
  have hw2 : w1.heap[w.heap.size]? = some (.cells (cI l ++ [Value.int .i64 0, Value.int .i64 0]).toArray 3 (0, 0)) := by
    have h := hw1.out
    rw [splice_zeroI, cI_length, show n - l.length = 2 by omega] at h
    exact h
  have hc1 : w1.cell? ⟨w.heap.size, l.length, none⟩ = some (.int .i64 0) := by
    rw [cell_of_row w1 _ _ _ _ _ hw2, List.getElem?_toArray, List.getElem?_append_right (by rw [cI_length]; exact Nat.le_refl _), cI_length, Nat.sub_self]
    rfl
  have hc2 : w1.cell? ⟨w.heap.size, l.length + 1, none⟩ = some (.int .i64 0) := by
    rw [cell_of_row w1 _ _ _ _ _ hw2, List.getElem?_toArray, List.getElem?_append_right (by rw [cI_length]; omega), cI_length, show l.length + 1 - l.length = 1 by omega]
    rfl
  have hf1 : ∀ j, w1.frozen? ⟨w.heap.size, j, none⟩ = false := fun j => frozen_of_row w1 w.heap.size j _ _ hw2
  have hff1 := hf1 l.length
  have hff2 := hf1 (l.length + 1)
  have hnn : n ≤ l.length + 2 := by omega
  have hB2 : Below w.heap.size w ((w1.setCell ⟨w.heap.size, l.length, none⟩ (.int .i64 7001)).setCell ⟨w.heap.size, l.length + 1, none⟩ (.int .i64 7002)) := (hb1.setCell (p := ⟨w.heap.size, l.length, none⟩) (Nat.le_refl _) _).setCell (p := ⟨w.heap.size, l.length + 1, none⟩) (Nat.le_refl _) _
  have hL : LentI ((w1.setCell ⟨w.heap.size, l.length, none⟩ (.int .i64 7001)).setCell ⟨w.heap.size, l.length + 1, none⟩ (.int .i64 7002)) w.heap.size l := by
    unfold LentI
    rw [heap_setCell_same _ w.heap.size (l.length + 1) _ _ _ (heap_setCell_same w1 w.heap.size l.length _ _ _ hw2)]
    congr 2
    rw [← Array.toList_inj]
    simp only [Array.toList_setIfInBounds]
    rw [List.set_append_right _ _ (by rw [cI_length]; exact Nat.le_refl _), List.set_append_right _ _ (by rw [cI_length]; omega), cI_length, Nat.sub_self, show l.length + 1 - l.length = 1 by omega]
    simp [cI]
  have HF := Lib.hid (And.intro hL hB2)
  clear hw1 hb1 hw2 hf1 hn0 hL hB2 hmk HB1 HHH
  go_wp2_with fail
  go_ret
  exact ⟨by rw [H.out.2]; rfl, HF.out.1, HF.out.2⟩
set_option maxRecDepth 100000 in
set_option maxHeartbeats 1000000 in
theorem keptI_any (g : Nat) (p : Option Addr) (n m c : Nat) (l : List Int) (w : World) (hg : LentI w g l) (h : IntV w.heap.size w p c l) (hl : l.length ≤ 17592186043904) (hn : n = l.length) (hm : m = l.length + 2) :
    Calls Tryz.prog 17 #[.slice (some ⟨g, 0, none⟩) n m, .slice p l.length c] w (Tells (.bool true) w) := by
  subst hn hm
  have hcap := h.cap
  unfold maxLen at hcap
  have hle := h.le
  have hsame := ints_any (some ⟨g, 0, none⟩) p l.length l.length (l.length + 2) c l l w rfl rfl ((LentI.own (base := 0) (Nat.zero_le _) (by omega) hg).toV) h
  rw [sameI_self] at hsame
  have HG := Lib.hid hg
  clear hg h
  go_enter Tryz.func17, Tryz.ntmps17
  go_wp2_with fail
  refine hsame.mono ?_
  clear hsame
  rintro e w1 ⟨rfl, hb1⟩
  have hc1 : w1.cell? ⟨g, l.length, none⟩ = some (.int .i64 7001) := (HG.out.below hb1).cell (by simp)
  have hc2 : w1.cell? ⟨g, l.length + 1, none⟩ = some (.int .i64 7002) := (HG.out.below hb1).cell (by rw [List.getElem?_append_right (by omega), show l.length + 1 - l.length = 1 by omega]; rfl)
  have HB := Lib.hid hb1
  clear hb1
  go_wp2_with fail
  go_ret
  exact ⟨rfl, HB.out⟩

def CopyPostI (w : World) (l : List Int) (e : Ending) (w' : World) : Prop :=
  ∃ p c, e = .returned (.slice p l.length c) ∧ IntO w.heap.size w' p c l ∧ Below w.heap.size w w'
set_option maxRecDepth 100000 in
set_option maxHeartbeats 1000000 in
theorem copyI_any (p : Option Addr) (n cap : Nat) (l : List Int) (w : World) (hn : n = l.length) (h : IntV w.heap.size w p cap l) (hl : l.length ≤ 17592186043904) :
    Calls Tryz.prog 114 #[.slice p n cap] w (CopyPostI w l) := by
  subst hn
  obtain ⟨i0, hi, hz0, hz1, hz2⟩ := info_parts infoI
  have H := Lib.hid h
  have hle := h.le
  rcases p with _ | a
  · have hc := h.nil rfl
    subst hc
    obtain rfl : l = [] := List.eq_nil_of_length_eq_zero (by omega)
    clear h
    show Calls Tryz.prog 114 #[.slice none 0 0] w (CopyPostI w [])
    go_enter Tryz.func114, Tryz.ntmps114
    go_wp2_with (at_builtin; refine wpList_append_own_none rfl _ _ 22 rfl w.heap.size 3 i0 1 Tryz.underlying22 hi _ 0 [] rfl (World.ownsRow_made w #[] 0 (Nat.le_refl _) (Nat.zero_le _) rfl) rfl ?_)
    go_ret
    have ho : IntO w.heap.size (w.alloc (.cells #[] 3)) (some ⟨w.heap.size, 0, none⟩) 0 [] := IntO.of_block (l := []) (Nat.le_refl _) (Nat.zero_le _) (heap_newN _ _)
    exact ⟨_, _, rfl, ho, (Below.refl _ _).alloc (Nat.le_refl _) _⟩
  rcases Nat.eq_zero_or_pos l.length with hl0 | hl0
  · obtain rfl : l = [] := List.eq_nil_of_length_eq_zero hl0
    clear h
    show Calls Tryz.prog 114 #[.slice (some a) 0 cap] w (CopyPostI w [])
    go_enter Tryz.func114, Tryz.ntmps114
    go_wp2_with (at_builtin; refine wpList_append_own _ rfl _ _ 22 rfl w.heap.size 3 i0 (.int .i64 0) 1 8 Tryz.underlying22 hi hz0 hz1 hz2 rfl (by decide) _ 0 [] rfl (World.ownsRow_made w #[] 0 (Nat.le_refl _) (Nat.zero_le _) rfl) a 0 cap [] rfl rfl ?c1 ?c2 ?c3 ?c4 ?c5 ?_)
    case c1 => intro j u hj; simp at hj
    case c2 => intro u hu; simp at hu
    case c3 => unfold maxLen; omega
    case c4 => omega
    case c5 => simp
    intro v' w1 hown' hgrow _
    obtain ⟨p1, c1, rfl, ho1⟩ := IntO.slice_own (l := []) hown'
    have hb1 : Below w.heap.size w w1 := ((Below.refl _ _).alloc (Nat.le_refl _) _).grown hgrow (by simp) (fun j hj => by have := Option.some.inj hj; simp at this; omega)
    have HO := Lib.hid (And.intro ho1 hb1)
    clear hown' hgrow ho1 hb1
    go_wp2_with fail
    go_ret
    exact ⟨p1, c1, rfl, HO.out.1, HO.out.2⟩
  · obtain ⟨b, off, ha, hb, hc⟩ := h.cell (List.length_pos_iff.1 hl0)
    obtain rfl : a = ⟨b, off, none⟩ := by simpa using ha
    have HC := Lib.hid hc
    clear h hc ha
    go_enter Tryz.func114, Tryz.ntmps114
    go_wp2_with (at_builtin; refine wpList_append_own _ rfl _ _ 22 rfl w.heap.size 3 i0 (.int .i64 0) 1 8 Tryz.underlying22 hi hz0 hz1 hz2 rfl (by decide) _ 0 [] rfl (World.ownsRow_made w #[] 0 (Nat.le_refl _) (Nat.zero_le _) rfl) ⟨b, off, none⟩ l.length cap (cI l) rfl ?d0 ?d1 ?d2 ?d3 ?d4 ?d5 ?_)
    case d0 => simp [cI]
    case d1 =>
      intro j u hj
      unfold cI at hj
      rw [List.getElem?_map] at hj
      obtain ⟨x, hx, rfl⟩ := Option.map_eq_some_iff.1 hj
      rw [add_off]
      exact (((Below.refl w.heap.size w).alloc (Nat.le_refl _) _).cell (p := ⟨b, off + j, none⟩) hb).trans (HC.out j x hx)
    case d2 =>
      intro u hu
      unfold cI at hu
      obtain ⟨x, _, rfl⟩ := List.mem_map.1 hu
      rfl
    case d3 => unfold maxLen; omega
    case d4 => omega
    case d5 => simp
    intro v' w1 hown' hgrow _
    obtain ⟨p1, c1, rfl, ho1⟩ := IntO.slice_own (l := l) (by simpa using hown')
    have hb1 : Below w.heap.size w w1 := ((Below.refl _ _).alloc (Nat.le_refl _) _).grown hgrow (by simp) (fun j hj => by have := Option.some.inj hj; simp at this; omega)
    have HO := Lib.hid (And.intro ho1 hb1)
    clear hown' hgrow ho1 hb1
    go_wp2_with fail
    go_ret
    exact ⟨p1, c1, by simp, HO.out.1, HO.out.2⟩
end Go.Proofs.YtgdjnohhofbcnaaGreatDoor
end
section
namespace Go.Proofs.YtgdjnohhofbcnaaGreatDoor
open Go.ChangeShapes Go.WideShapes Go.ChangeAt Go.RowKit

theorem own : ownKnob Tryz.prog.godebug = none := by kernel_rfl
theorem star : "*" ++ "errors.errorString" = "*errors.errorString" := by decide
theorem row94 (u : TypeId) (h : Tryz.prog.typeName? 3 u = some "*errors.errorString") : u = 212 :=
  typeName_ptr_named (nm := "errors.errorString") (by rw [star]; kernel_rfl) (by kernel_rfl) (by decide) u (by rw [star]; exact h)
theorem cells96 : Tryz.prog.cellsOf 233 = 1 := by kernel_rfl
theorem cells9 : Tryz.prog.cellsOf 9 = 1 := by kernel_rfl

set_option maxRecDepth 100000 in
/-- The sentinels of a list: each variable points to a string's cell of its own. -/
theorem sents {W : World} : ∀ (l : List (String × DataW Unit)) (ps : List MemPlace), DataW.LaidVars Tryz.prog W l ps →
    (∀ x ∈ l, ∃ text, x.2 = .iface "*errors.errorString" (.ptr (.agg [.lit (.string text)]))) → (∀ x ∈ l, ∀ g, Tryz.prog.globalNamed x.1 = some g → (Tryz.prog.globals[g]?).map (·.type) = some 27) →
    (∀ b off, MemPlace.cell b off ∈ ps → (∃ c t, W.heap[b]? = some (.cells c t (0, 0))) ∧ ∀ u v, W.cell? ⟨b, off, none⟩ = some (.iface u v) → Value.okWide Tryz.prog W .any 0 u v) →
    ∃ ads : List Addr, ads.length = l.length ∧ (∀ i, i < l.length → ∃ n d a, l[i]? = some (n, d) ∧ ads[i]? = some a ∧ W.var? Tryz.prog n = some #[.iface 212 (.pointer (some a))]) ∧
      (∀ a ∈ ads, (∃ c t, W.heap[a.block]? = some (.cells c t (0, 0))) ∧ MemPlace.cell a.block a.off ∈ ps) ∧ (ps.Nodup → ads.Nodup)
  | [], _, _, _, _, _ => ⟨[], rfl, fun i h => absurd h (by simp), fun a h => absurd h (by simp), fun _ => List.nodup_nil⟩
  | (n, d) :: r, ps, h, hf, hg, hrows => by
    obtain ⟨g, t, cs, f0, p0, q0, hg0, ht0, hv0, hd0, hr, rfl⟩ := h
    obtain ⟨text, hx⟩ := hf (n, d) (List.mem_cons_self ..)
    simp only at hx
    subst hx
    have ht := hg _ (List.mem_cons_self ..) g hg0
    obtain rfl := Option.some.inj (ht.symm.trans ht0)
    obtain ⟨l0⟩ := cs
    have ok0 : ∀ u v, l0 = [.iface u v] → Value.okWide Tryz.prog W .any 0 u v := fun u v e => by
      subst e
      exact (hrows g 0 (by simp [MemPlace.row])).2 u v (by simpa using World.var?_cell hg0 hv0 0)
    obtain ⟨a, s, rfl, hc, hs, hz, rfl⟩ := errorString_of_trod Tryz.underlying27 row94 Tryz.underlying212 Tryz.underlying233 rfl rfl Tryz.underlying9 cells96 cells9 hd0 ok0
    obtain ⟨ads, h1, h2, h3, h4⟩ := sents r q0 hr (fun x hx => hf x (List.mem_cons_of_mem _ hx)) (fun x hx => hg x (List.mem_cons_of_mem _ hx)) (fun b off hm => hrows b off (List.mem_append_right _ hm))
    refine ⟨a :: ads, by simp [h1], ?_, ?_, ?_⟩
    · intro i hi
      cases i with
      | zero => exact ⟨n, _, a, rfl, rfl, hv0⟩
      | succ i => exact h2 i (by simpa using hi)
    · intro b hb
      rcases List.mem_cons.1 hb with rfl | hb
      · exact ⟨(hrows b.block b.off (by simp [MemPlace.row])).1, by simp [MemPlace.row]⟩
      · exact ⟨(h3 b hb).1, List.mem_append_right _ (h3 b hb).2⟩
    · intro hn
      have hq : q0.Nodup := (List.nodup_append.1 hn).2.1
      refine List.nodup_cons.2 ⟨fun hm => ?_, h4 hq⟩
      have hd := (List.nodup_append.1 hn).2.2 (MemPlace.cell a.block a.off) (by simp [MemPlace.row]) _ (h3 a hm).2
      exact hd rfl

/-- The list of the twelve, ads every row has it behind the handle. -/
def twelve : List (String × DataW Unit) := [("eden/api.BadRule", Rows.laid_eden_api_BadRule), ("eden/api.BadWord", Rows.laid_eden_api_BadWord), ("eden/api.BadArg", Rows.laid_eden_api_BadArg), ("eden/api.TooBig", Rows.laid_eden_api_TooBig), ("eden/api.NoBudget", Rows.laid_eden_api_NoBudget), ("eden/api.BadText", Rows.laid_eden_api_BadText), ("eden/api.BadPatch", Rows.laid_eden_api_BadPatch), ("eden/api.BadCert", Rows.laid_eden_api_BadCert), ("eden/api.NoInverse", Rows.laid_eden_api_NoInverse), ("eden/api.BadLine", Rows.laid_eden_api_BadLine), ("eden/api.BadState", Rows.laid_eden_api_BadState), ("eden/api.Unknown", Rows.laid_eden_api_Unknown)]
theorem twelve_form : ∀ x ∈ twelve, ∃ text, x.2 = .iface "*errors.errorString" (.ptr (.agg [.lit (.string text)])) := by
  intro x hx
  simp only [twelve, List.mem_cons, List.not_mem_nil, or_false] at hx
  rcases hx with rfl | rfl | rfl | rfl | rfl | rfl | rfl | rfl | rfl | rfl | rfl | rfl <;> exact ⟨_, rfl⟩
theorem gBadRule : Tryz.prog.globalNamed "eden/api.BadRule" = some 0 := by kernel_rfl
theorem gtBadRule : (Tryz.prog.globals[0]?).map (·.type) = some 27 := by kernel_rfl
theorem gBadWord : Tryz.prog.globalNamed "eden/api.BadWord" = some 1 := by kernel_rfl
theorem gtBadWord : (Tryz.prog.globals[1]?).map (·.type) = some 27 := by kernel_rfl
theorem gBadArg : Tryz.prog.globalNamed "eden/api.BadArg" = some 2 := by kernel_rfl
theorem gtBadArg : (Tryz.prog.globals[2]?).map (·.type) = some 27 := by kernel_rfl
theorem gTooBig : Tryz.prog.globalNamed "eden/api.TooBig" = some 3 := by kernel_rfl
theorem gtTooBig : (Tryz.prog.globals[3]?).map (·.type) = some 27 := by kernel_rfl
theorem gNoBudget : Tryz.prog.globalNamed "eden/api.NoBudget" = some 4 := by kernel_rfl
theorem gtNoBudget : (Tryz.prog.globals[4]?).map (·.type) = some 27 := by kernel_rfl
theorem gBadText : Tryz.prog.globalNamed "eden/api.BadText" = some 5 := by kernel_rfl
theorem gtBadText : (Tryz.prog.globals[5]?).map (·.type) = some 27 := by kernel_rfl
theorem gBadPatch : Tryz.prog.globalNamed "eden/api.BadPatch" = some 6 := by kernel_rfl
theorem gtBadPatch : (Tryz.prog.globals[6]?).map (·.type) = some 27 := by kernel_rfl
theorem gBadCert : Tryz.prog.globalNamed "eden/api.BadCert" = some 7 := by kernel_rfl
theorem gtBadCert : (Tryz.prog.globals[7]?).map (·.type) = some 27 := by kernel_rfl
theorem gNoInverse : Tryz.prog.globalNamed "eden/api.NoInverse" = some 8 := by kernel_rfl
theorem gtNoInverse : (Tryz.prog.globals[8]?).map (·.type) = some 27 := by kernel_rfl
theorem gBadLine : Tryz.prog.globalNamed "eden/api.BadLine" = some 9 := by kernel_rfl
theorem gtBadLine : (Tryz.prog.globals[9]?).map (·.type) = some 27 := by kernel_rfl
theorem gBadState : Tryz.prog.globalNamed "eden/api.BadState" = some 10 := by kernel_rfl
theorem gtBadState : (Tryz.prog.globals[10]?).map (·.type) = some 27 := by kernel_rfl
theorem gUnknown : Tryz.prog.globalNamed "eden/api.Unknown" = some 11 := by kernel_rfl
theorem gtUnknown : (Tryz.prog.globals[11]?).map (·.type) = some 27 := by kernel_rfl
theorem twelve_types : ∀ x ∈ twelve, ∀ g, Tryz.prog.globalNamed x.1 = some g → (Tryz.prog.globals[g]?).map (·.type) = some 27 := by
  intro x hx g hg
  simp only [twelve, List.mem_cons, List.not_mem_nil, or_false] at hx
  rcases hx with rfl | rfl | rfl | rfl | rfl | rfl | rfl | rfl | rfl | rfl | rfl | rfl
  · obtain rfl := Option.some.inj (gBadRule.symm.trans hg); exact gtBadRule
  · obtain rfl := Option.some.inj (gBadWord.symm.trans hg); exact gtBadWord
  · obtain rfl := Option.some.inj (gBadArg.symm.trans hg); exact gtBadArg
  · obtain rfl := Option.some.inj (gTooBig.symm.trans hg); exact gtTooBig
  · obtain rfl := Option.some.inj (gNoBudget.symm.trans hg); exact gtNoBudget
  · obtain rfl := Option.some.inj (gBadText.symm.trans hg); exact gtBadText
  · obtain rfl := Option.some.inj (gBadPatch.symm.trans hg); exact gtBadPatch
  · obtain rfl := Option.some.inj (gBadCert.symm.trans hg); exact gtBadCert
  · obtain rfl := Option.some.inj (gNoInverse.symm.trans hg); exact gtNoInverse
  · obtain rfl := Option.some.inj (gBadLine.symm.trans hg); exact gtBadLine
  · obtain rfl := Option.some.inj (gBadState.symm.trans hg); exact gtBadState
  · obtain rfl := Option.some.inj (gUnknown.symm.trans hg); exact gtUnknown

theorem nodup_inj {α : Type} {l : List α} (h : l.Nodup) {i j : Nat} (hi : i < l.length) (hj : j < l.length) (e : l[i] = l[j]) : i = j := by
  have hp := List.pairwise_iff_getElem.1 h
  rcases Nat.lt_trichotomy i j with k | k | k
  · exact absurd e (hp i j hi hj k)
  · exact k
  · exact absurd e.symm (hp j i hj hi k)

/-- Which of the list is which error. -/
def slotOf (k : Nat) : Nat := (k + 11) % 12
theorem slotOf_inj (j k : Nat) (hj : j ≤ 11) (hk : k ≤ 11) (h : slotOf j = slotOf k) : j = k := by unfold slotOf at h; omega

theorem roots_of_twelve {W : World} (h : laidMet Tryz.prog twelve W) : ∃ A, Roots W A := by
  obtain ⟨ps, hv, hn, hrows⟩ := h
  obtain ⟨ads, h1, h2, h3, h4⟩ := sents twelve ps hv twelve_form twelve_types hrows
  have hlen : ads.length = 12 := h1
  have hnd := h4 hn
  refine ⟨fun k => ads.getD (slotOf k) ⟨0, 0, none⟩, ?_, ?_, ?_⟩
  · intro k hk
    have hs : slotOf k < 12 := Nat.mod_lt _ (by decide)
    obtain ⟨n, d, a, e1, e2, e3⟩ := h2 (slotOf k) hs
    have ea : ads.getD (slotOf k) ⟨0, 0, none⟩ = a := by rw [List.getD_eq_getElem?_getD, e2]; rfl
    show W.cell? ⟨rootVar k, 0, none⟩ = some (.iface 212 (.pointer (some (ads.getD (slotOf k) ⟨0, 0, none⟩))))
    rw [ea]
    clear ea e2
    match k, hk with
    | 0, _ => obtain ⟨rfl, rfl⟩ := Prod.mk.inj (Option.some.inj e1); simpa [rootVar] using World.var?_cell gUnknown e3 0
    | 1, _ => obtain ⟨rfl, rfl⟩ := Prod.mk.inj (Option.some.inj e1); simpa [rootVar] using World.var?_cell gBadRule e3 0
    | 2, _ => obtain ⟨rfl, rfl⟩ := Prod.mk.inj (Option.some.inj e1); simpa [rootVar] using World.var?_cell gBadWord e3 0
    | 3, _ => obtain ⟨rfl, rfl⟩ := Prod.mk.inj (Option.some.inj e1); simpa [rootVar] using World.var?_cell gBadArg e3 0
    | 4, _ => obtain ⟨rfl, rfl⟩ := Prod.mk.inj (Option.some.inj e1); simpa [rootVar] using World.var?_cell gTooBig e3 0
    | 5, _ => obtain ⟨rfl, rfl⟩ := Prod.mk.inj (Option.some.inj e1); simpa [rootVar] using World.var?_cell gNoBudget e3 0
    | 6, _ => obtain ⟨rfl, rfl⟩ := Prod.mk.inj (Option.some.inj e1); simpa [rootVar] using World.var?_cell gBadText e3 0
    | 7, _ => obtain ⟨rfl, rfl⟩ := Prod.mk.inj (Option.some.inj e1); simpa [rootVar] using World.var?_cell gBadPatch e3 0
    | 8, _ => obtain ⟨rfl, rfl⟩ := Prod.mk.inj (Option.some.inj e1); simpa [rootVar] using World.var?_cell gBadCert e3 0
    | 9, _ => obtain ⟨rfl, rfl⟩ := Prod.mk.inj (Option.some.inj e1); simpa [rootVar] using World.var?_cell gNoInverse e3 0
    | 10, _ => obtain ⟨rfl, rfl⟩ := Prod.mk.inj (Option.some.inj e1); simpa [rootVar] using World.var?_cell gBadLine e3 0
    | 11, _ => obtain ⟨rfl, rfl⟩ := Prod.mk.inj (Option.some.inj e1); simpa [rootVar] using World.var?_cell gBadState e3 0
  · intro k hk
    have hs : slotOf k < ads.length := by rw [hlen]; exact Nat.mod_lt _ (by decide)
    have ea : ads.getD (slotOf k) ⟨0, 0, none⟩ = ads[slotOf k] := by rw [List.getD_eq_getElem?_getD, List.getElem?_eq_getElem hs]; rfl
    show Target W (ads.getD (slotOf k) ⟨0, 0, none⟩)
    rw [ea]
    exact (h3 _ (List.getElem_mem hs)).1
  · intro j k hj hk h
    have hsj : slotOf j < ads.length := by rw [hlen]; exact Nat.mod_lt _ (by decide)
    have hsk : slotOf k < ads.length := by rw [hlen]; exact Nat.mod_lt _ (by decide)
    have ej : ads.getD (slotOf j) ⟨0, 0, none⟩ = ads[slotOf j] := by rw [List.getD_eq_getElem?_getD, List.getElem?_eq_getElem hsj]; rfl
    have ek : ads.getD (slotOf k) ⟨0, 0, none⟩ = ads[slotOf k] := by rw [List.getD_eq_getElem?_getD, List.getElem?_eq_getElem hsk]; rfl
    have h' : ads[slotOf j] = ads[slotOf k] := ej.symm.trans (h.trans ek)
    exact slotOf_inj j k hj hk (nodup_inj hnd hsj hsk h')

/-! ### errors.errorType -/
theorem et : Tryz.prog.globalNamed "errors.errorType" = some 12 := by kernel_rfl
theorem rt : (Tryz.prog.cutTypes.find? (·.1 == "internal/reflectlite.rtype")).map (·.2) = some 174 := by kernel_rfl
theorem oneRow : ((List.range 245).filter fun t => Tryz.prog.rowNamed t [101, 114, 114, 111, 114]) = [27] := by kernel_rfl
theorem typesSize : Tryz.prog.types.size = 245 := by kernel_rfl
theorem typeVar_of_handle {W : World} (h : handlesMet Tryz.prog [("errors.errorType", Rows.laid_errors_errorType)] W) : TypeVar W := by
  obtain ⟨name, u, ty, e1, e2, e3, e4, e5⟩ := h _ (List.mem_singleton.2 rfl)
  have en : name = [101, 114, 114, 111, 114] := (Option.some.inj e1).symm
  subst en
  obtain rfl := Option.some.inj (rt.symm.trans e2)
  have hm : ty ∈ (List.range 245).filter fun t => Tryz.prog.rowNamed t [101, 114, 114, 111, 114] := List.mem_filter.2 ⟨List.mem_range.2 (by rw [← typesSize]; exact e3), e4⟩
  rw [oneRow] at hm
  obtain rfl := List.mem_singleton.1 hm
  have hh : typeHandle Tryz.prog 27 = .pointer (some ⟨17, 27, none⟩) := by kernel_rfl
  rw [hh] at e5
  unfold TypeVar
  simpa using World.var?_cell et e5 0

/-- The list of thirteen: the handle, then the twelve. -/
def thirteen : List (String × DataW Unit) := ("errors.errorType", Rows.laid_errors_errorType) :: twelve
theorem roots_of_laid {W : World} (h : laidMetH Tryz.prog thirteen W) : ∃ A, Roots W A ∧ TypeVar W := by
  have h' : laidMet Tryz.prog twelve W ∧ handlesMet Tryz.prog [("errors.errorType", Rows.laid_errors_errorType)] W := h
  obtain ⟨A, hA⟩ := roots_of_twelve h'.1
  exact ⟨A, hA, typeVar_of_handle h'.2⟩

/-! ### a world that meets the list -/
noncomputable def low : Nat := (World.holding Tryz.prog default ⟨#[], #[], []⟩).heap.size
/-- A variable's one cell, laid. -/
def layCell (v : Value) (o : Obj) : Obj := match o with
  | .cells _ t frozen => .cells #[v] t frozen
  | o => o
def ptr94 (b : Nat) : Value := .iface 212 (.pointer (some ⟨b, 0, none⟩))
noncomputable def laidWorld (os : Os) : World :=
  let w0 := World.holding Tryz.prog os ⟨#[.cells #[.string { data := #[98, 97, 100, 32, 114, 117, 108, 101] }] 233, .cells #[.string { data := #[98, 97, 100, 32, 119, 111, 114, 100] }] 233, .cells #[.string { data := #[98, 97, 100, 32, 97, 114, 103, 117, 109, 101, 110, 116] }] 233, .cells #[.string { data := #[116, 111, 111, 32, 98, 105, 103] }] 233, .cells #[.string { data := #[110, 111, 32, 98, 117, 100, 103, 101, 116] }] 233, .cells #[.string { data := #[98, 97, 100, 32, 116, 101, 120, 116] }] 233, .cells #[.string { data := #[98, 97, 100, 32, 112, 97, 116, 99, 104] }] 233, .cells #[.string { data := #[98, 97, 100, 32, 99, 101, 114, 116, 105, 102, 105, 99, 97, 116, 101] }] 233, .cells #[.string { data := #[110, 111, 32, 105, 110, 118, 101, 114, 115, 101] }] 233, .cells #[.string { data := #[98, 97, 100, 32, 108, 105, 110, 101] }] 233, .cells #[.string { data := #[98, 97, 100, 32, 115, 116, 97, 116, 101] }] 233, .cells #[.string { data := #[117, 110, 107, 110, 111, 119, 110] }] 233], #[], []⟩
  { w0 with heap := ((((((((((((w0.heap.modify 0 (layCell (ptr94 (low + 0)))).modify 1 (layCell (ptr94 (low + 1)))).modify 2 (layCell (ptr94 (low + 2)))).modify 3 (layCell (ptr94 (low + 3)))).modify 4 (layCell (ptr94 (low + 4)))).modify 5 (layCell (ptr94 (low + 5)))).modify 6 (layCell (ptr94 (low + 6)))).modify 7 (layCell (ptr94 (low + 7)))).modify 8 (layCell (ptr94 (low + 8)))).modify 9 (layCell (ptr94 (low + 9)))).modify 10 (layCell (ptr94 (low + 10)))).modify 11 (layCell (ptr94 (low + 11)))).modify 12 (layCell (.iface 174 (.agg #[.pointer (some ⟨17, 27, none⟩)]))) }
end Go.Proofs.YtgdjnohhofbcnaaGreatDoor
end
section
namespace Go.Proofs.YtgdjnohhofbcnaaGreatDoor
open Go.ChangeShapes Go.WideShapes Go.ChangeAt Go.RowKit

theorem laidOut : laidOutB Tryz.prog = true := by kernel_rfl

/-- A type that a reading can be carried on at. -/
def Carries (t : TypeId) : Prop := Tryz.prog.readableRec t = true ∧ t < Tryz.prog.types.size
theorem trodAll_below {H : Type} {enc : TypeId × Value → H} {W W' : World} (hb : Below W.heap.size W W') (ts : List TypeId) : ∀ {vs : List Value} {ds : List (DataW H)} {ps : List MemPlace},
    (∀ t ∈ ts, Carries t) → (∀ x ∈ ps, x.block < W.heap.size) →
    DataW.TrodAll enc Tryz.prog W 0 (fun _ => true) true ts vs ds ps → DataW.TrodAll enc Tryz.prog W' 0 (fun b => decide (b < W.heap.size)) true ts vs ds ps := by
  induction ts with
  | nil =>
    intro vs ds ps _ _ h
    obtain ⟨rfl, rfl, rfl⟩ := trodAll_nil h
    exact trodAll_mk0
  | cons t ts ih =>
    intro vs ds ps hr hlt h
    obtain ⟨v, vs', d, ds', p, q, rfl, rfl, rfl, h0, h1⟩ := trodAll_cons h
    have ht := hr t (List.mem_cons_self ..)
    exact trodAll_cons_mk (Below.trod laidOut ht.1 ht.2 h0 hb fun x hx => hlt x (List.mem_append_left _ hx))
      (ih (fun u hu => hr u (List.mem_cons_of_mem _ hu)) (fun x hx => hlt x (List.mem_append_right _ hx)) h1)

/-- The post of a law's row. -/
theorem law_post {H : Type} {enc : TypeId × Value → H} {W W' : World} {args : Array Value} {ds gs : List (DataW H)} {before : List MemPlace} (spec : ChangeSpec) (fn : Func)
    (hres : fn.resultTypes = #[4]) (hv : spec.vars = []) (hf : spec.fn H (ds ++ gs) = { results := [.lit (.bool true)], args := ds })
    (hr : ∀ t ∈ fn.params.toList, Carries t)
    (hW : DataW.Whole enc Tryz.prog fn.params.toList spec.vars false W args.toList ds gs before) (hb : Below W.heap.size W W') :
    spec.post enc Tryz.prog fn false true false false W args (.bool true) W' := by
  have hW' := hW
  have hlt : ∀ x ∈ before, x.block < W.heap.size := fun x hx => by simpa using hW'.lt x hx
  obtain ⟨p, q, hA0, hV, rfl, hfz, hnd⟩ := hW
  have hA : DataW.TrodAll enc Tryz.prog W 0 (fun _ => true) true fn.params.toList args.toList ds p := hA0
  refine ⟨_, _, _, [], p, [], hW', ?_, ?_, ?_, hb.frame _, fun h => by cases h⟩
  · rw [hf, hres]
    exact trodAll_mk1 (shut_bool Tryz.underlying4 true)
  · rw [hf]
    exact trodAll_below hb _ hr (fun x hx => hlt x (List.mem_append_left _ hx)) hA
  · rw [hf, hv]
    rfl

/-- An argument that is a slice of strings, opened: its value, and its strings. -/
theorem open_strs {H : Type} {enc : TypeId × Value → H} {W : World} {v : Value} {d : DataW H} {p : List MemPlace} (hok : ∃ a len cap, v = .slice a len cap)
    (h : DataW.Trod enc Tryz.prog W 0 (fun _ => true) true 30 v d p) (hlt : ∀ x ∈ p, x.block < W.heap.size) :
    ∃ (a : Option Addr) (n cap : Nat) (ss : List ByteArray), v = .slice a n cap ∧ n ≤ ss.length ∧ n ≤ cap ∧ cap ≤ maxLen ∧ (∀ s ∈ ss, s.size ≤ maxLen) ∧ ss.length = cap ∧ (d = .nil ∨ d = .slice (strs (ss.take n)) (strs (ss.drop n))) ∧
      ∀ j, j < n → ∃ b off, a = some ⟨b, off, none⟩ ∧ b < W.heap.size ∧ W.cell? ⟨b, off + j, none⟩ = some (.string (ss.getD j .empty)) := by
  obtain ⟨a0, len, cap, rfl⟩ := hok
  obtain ⟨fuel, hf⟩ := h
  rcases open_strings Tryz.underlying30 Tryz.underlying9 cells9 hf with ⟨hcs, hx⟩ | ⟨a, len', cap', ss, hcs, _, hl, hm, hz, hx, hcell, hws⟩
  · simp [Value.cells] at hcs
    obtain ⟨rfl, rfl, rfl⟩ := hcs
    exact ⟨none, 0, 0, [], rfl, Nat.zero_le _, Nat.zero_le _, Nat.zero_le _, (by simp), rfl, Or.inl (Prod.mk.inj hx).1, fun j hj => absurd hj (Nat.not_lt_zero j)⟩
  · simp [Value.cells] at hcs
    obtain ⟨rfl, rfl, rfl⟩ := hcs
    simp only [if_true] at hz
    obtain ⟨rfl, rfl⟩ := Prod.mk.inj hx
    refine ⟨some a, len, cap, ss, rfl, by omega, hl, hm, hws, hz, Or.inr rfl, fun j hj => ?_⟩
    obtain ⟨b, off, spot⟩ := a
    have hspot : spot = none := by simpa [Addr.add] using World.cell?_spot (hcell 0 (by omega))
    subst hspot
    exact ⟨b, off, rfl, hlt (.cell b off) (MemPlace.mem_row.2 ⟨0, by omega, by simp⟩), by rw [← add_plain]; exact hcell j (by omega)⟩
end Go.Proofs.YtgdjnohhofbcnaaGreatDoor
end
section
namespace Go.Proofs.YtgdjnohhofbcnaaGreatDoor
open Go.RowKit WordM

open Classical in
/-- the period of a word; 0 for the empty one -/
noncomputable def perW (l : List Int) : Nat := if h : l.length ≠ 0 ∧ ∃ p, IsPer l p then h.2.choose else 0
theorem perW_eq {l : List Int} {p : Nat} (h0 : l.length ≠ 0) (h : IsPer l p) : perW l = p := by
  unfold perW
  have hx : l.length ≠ 0 ∧ ∃ p, IsPer l p := ⟨h0, p, h⟩
  rw [dif_pos hx]
  exact isPer_unique hx.2.choose_spec h
theorem perW_nil : perW [] = 0 := by unfold perW; rw [dif_neg (by simp)]
open Classical in
/-- the least turn of a word; 0 for the empty one -/
noncomputable def leastW (l : List Int) : Nat := if h : ∃ p, IsLeast l p then h.choose else 0
theorem leastW_eq {l : List Int} {p : Nat} (h : IsLeast l p) : leastW l = p := by
  unfold leastW
  have hx : ∃ p, IsLeast l p := ⟨p, h⟩
  rw [dif_pos hx]
  exact isLeast_unique hx.choose_spec h
theorem leastW_nil : leastW [] = 0 := by
  unfold leastW
  rw [dif_neg]
  rintro ⟨p, h⟩
  have := h.1
  simp at this
theorem leastW_is {l : List Int} (h : 0 < l.length) : IsLeast l (leastW l) := by
  obtain ⟨p, hp⟩ := least_exists h
  rw [leastW_eq hp]; exact hp

theorem piece_same {l : List Int} {q n : Nat} (hn : n = l.length) (hd : q ∣ n) (h : sameI (l.drop q) (l.take (n - q)) = true) : Per l q := by
  have e : l.drop q = l.take (n - q) := by simpa [sameI] using h
  refine per_piece (by rw [← hn]; exact hd) (fun i hi => ?_)
  have h1 := congrArg (fun x : List Int => x[i]?) e
  simp only [List.getElem?_drop, List.getElem?_take] at h1
  rw [if_pos (by omega)] at h1
  rw [Nat.add_comm]
  exact h1
theorem piece_other {l : List Int} {q n : Nat} (hn : n = l.length) (hq : q ≤ n) (h : sameI (l.drop q) (l.take (n - q)) = false) : ¬ Per l q := by
  intro k
  have e : ¬ l.drop q = l.take (n - q) := by simpa [sameI] using h
  apply e
  apply List.ext_getElem?
  intro i
  rw [List.getElem?_drop, List.getElem?_take]
  by_cases hi : i < n - q
  · rw [if_pos hi, Nat.add_comm]
    exact piece_per k i (by omega)
  · rw [if_neg hi, List.getElem?_eq_none (by omega)]
set_option maxRecDepth 100000 in
set_option maxHeartbeats 4000000 in
theorem period_any (p : Option Addr) (n c : Nat) (l : List Int) (w : World) (hn : n = l.length) (h : IntV w.heap.size w p c l) (hl : l.length ≤ 17592186044000) :
    Calls Tryz.prog 49 #[.slice p n c] w (Quiet (.int .i64 (perW l : Int)) w) := by
  have hle := h.le
  have hcap := h.cap
  unfold maxLen at hcap
  have hnc : n ≤ c := by omega
  have hnl : n ≤ 17592186044000 := by omega
  have H := Lib.hid (And.intro h hn)
  clear h hn hl hle
  go_enter Tryz.func49, Tryz.ntmps49
  go_wp2_with fail
  go_loopw [4] (fun v wr => ∃ q : Nat, 1 ≤ q ∧ q ≤ n + 1 ∧ v = .int .i64 (q : Int) ∧ Hid (∃ a, wr = w.drewN a) ∧ Hid (∀ r, 1 ≤ r → r < q → r < n → ¬ (r ∣ n ∧ Per l r))) (fun v _ => n + 1 - (intOf v).toNat)
  case atStart => exact ⟨1, Nat.le_refl _, by omega, rfl, ⟨0, rfl⟩, by intro r h1 h2; omega⟩
  case round =>
    obtain ⟨q, hq1, hqn, rfl, hdr, hno⟩ := hrel
    by_cases hlt : q < n
    · have hbw : Below w.heap.size w wr := hdr.out.elim fun a e => e ▸ below_drewN (Below.refl _ _) a
      have hv := H.out.1.next hbw
      obtain ⟨b, off, rfl, hb, hc⟩ := hv.cell (by have := H.out.2; rintro rfl; simp at this; omega)
      obtain ⟨m, hmm⟩ : ∃ m, n % q = m := ⟨_, rfl⟩
      have e2 : (n : Int) % (q : Int) = (m : Int) := by rw [← hmm]; rfl
      have e1 : (n : Int).tmod (q : Int) = (m : Int) := by rw [Int.tmod_eq_emod_of_nonneg (by omega), e2]
      have hw : IntKind.i64.wrap ((n : Int) - (q : Int)) = ((n - q : Nat) : Int) := by rw [IntWalk.i64_in _ (by omega)]; omega
      have hsub : ((n : Int) - (q : Int)) = ((n - q : Nat) : Int) := by omega
      by_cases hm : m = 0
      · subst hm
        have hm := hmm
        have hd : q ∣ n := Nat.dvd_of_mod_eq_zero hm
        have heq := equal_q (some ⟨b, off + q, none⟩) (some ⟨b, off, none⟩) (n - q) (n - q) (c - q) c (l.drop q) (l.take (n - q))
        have hd1 : (l.drop q).length = n - q := by rw [List.length_drop, H.out.2]
        have hd2 : (l.take (n - q)).length = n - q := by rw [List.length_take, ← H.out.2]; omega
        have hcall : ∀ a, Calls Tryz.prog 113 #[.slice (some ⟨b, off + q, none⟩) (n - q) (c - q), .slice (some ⟨b, off, none⟩) (n - q) c] (wr.drewN a) (Quiet (.bool (sameI (l.drop q) (l.take (n - q)))) (wr.drewN a)) := fun a =>
          heq _ hd1.symm hd2.symm (hd1.trans hd2.symm) ((hv.next (below_drewN (Below.refl _ _) a)).drop q (by have := H.out.2; omega)) ((hv.next (below_drewN (Below.refl _ _) a)).take _)
        have HC := Lib.hid hcall
        have h0q : (0 : Int) ≤ (q : Int) := by omega
        have hqn2 : (q : Int) ≤ (n : Int) := by omega
        have hnc2 : (n : Int) ≤ (c : Int) := by omega
        have hcq : ¬ (c : Int) = (q : Int) := by omega
        have hcq2 : ¬ c = q := by omega
        have hnq : (((n - q : Nat) : Int)) ≤ (c : Int) := by omega
        have HD := Lib.hid (And.intro hd hm)
        clear hcall heq hd hm hmm hbw hv hc hd1 hd2
        obtain ⟨same, hs⟩ : ∃ same, sameI (l.drop q) (l.take (n - q)) = same := ⟨_, rfl⟩
        rw [hs] at HC
        have HS := Lib.hid hs
        clear hs
        rcases same with _ | _
        · go_wp2_with fail
          go_quiet ((go_at_call 113; exact Quiet.add (HC.out _)))
          go_wp2_with fail
          go_roundw
          case rel => exact ⟨q + 1, by omega, by omega, by go_num, quiet_more hdr.out _, by
            intro r h1 h2 h3
            rcases (by omega : r < q ∨ r = q) with h4 | rfl
            · exact hno.out r h1 h4 h3
            · exact fun k => piece_other H.out.2 (by omega) HS.out k.2⟩
          case measure => simp [intOf]; omega
        · have hp : perW l = q := perW_eq (by have := H.out.2; omega) ⟨hq1, by rw [← H.out.2]; exact HD.out.1, piece_same H.out.2 HD.out.1 HS.out, fun r h1 h2 => by rw [← H.out.2]; exact hno.out r h1 h2 (by omega)⟩
          have HP := Lib.hid hp
          clear hp
          go_wp2_with fail
          go_quiet ((go_at_call 113; exact Quiet.add (HC.out _)))
          go_wp2_with fail
          go_ret
          exact ⟨by rw [HP.out]; rfl, quiet_more hdr.out _⟩
      · have hz : ((m : Int) == 0) = false := by rw [beq_eq_false_iff_ne]; omega
        have HD := Lib.hid (And.intro hmm hm)
        clear hbw hv hc hm hmm
        go_wp2_with fail
        go_quiet (fail)
        go_wp2_with fail
        go_roundw
        case rel => exact ⟨q + 1, by omega, by omega, by go_num, quiet_more hdr.out _, by
          intro r h1 h2 h3
          rcases (by omega : r < q ∨ r = q) with h4 | rfl
          · exact hno.out r h1 h4 h3
          · exact fun k => HD.out.2 (HD.out.1.symm.trans (Nat.mod_eq_zero_of_dvd k.1))⟩
        case measure => simp [intOf]; omega
    · have hp : perW l = n := by
        rcases Nat.eq_zero_or_pos n with h0 | h0
        · have hl0 : l = [] := List.eq_nil_of_length_eq_zero (by have := H.out.2; omega)
          rw [hl0, perW_nil, h0]
        · refine perW_eq (by have := H.out.2; omega) ⟨h0, by rw [← H.out.2]; exact Nat.dvd_refl _, by rw [H.out.2]; exact per_len l, fun r h1 h2 => ?_⟩
          rw [← H.out.2]
          exact hno.out r h1 (by omega) h2
      have HP := Lib.hid hp
      clear hp
      go_wp2_with fail
      go_ret
      exact ⟨by rw [HP.out]; rfl, hdr.out⟩
end Go.Proofs.YtgdjnohhofbcnaaGreatDoor
end
section
namespace Go.Proofs.YtgdjnohhofbcnaaGreatDoor
open Go.ChangeShapes Go.WideShapes Go.ChangeAt Go.RowKit Go.Extern.Stop Go.Stop Go.Extern WordM NatM

/-- Lists that are known in the world wx; below w nothing has changed. -/
structure Si (w wx : World) (L : List Sl) : Prop where
  each : ∀ x : Sl, x ∈ L → IntV wx.heap.size wx x.1 x.2.1 x.2.2
  below : Below w.heap.size w wx
theorem Si.start (w : World) : Si w w [] := ⟨(fun x h => by cases h), Below.refl _ _⟩
theorem Si.get {w wx : World} {L : List Sl} (S : Si w wx L) (i : Nat) {p : Option Addr} {c : Nat} {l : List Int} (h : L[i]? = some (p, c, l)) : IntV wx.heap.size wx p c l := S.each _ (List.mem_of_getElem? h)
theorem Si.next {w wx w' : World} {L : List Sl} (S : Si w wx L) (hb : Below wx.heap.size wx w') : Si w w' L :=
  ⟨fun x hx => (S.each x hx).next hb, S.below.trans (hb.mono S.below.size)⟩
theorem Si.push {w wx : World} {L : List Sl} (S : Si w wx L) {p : Option Addr} {c : Nat} {l : List Int} (h : IntV wx.heap.size wx p c l) : Si w wx ((p, c, l) :: L) :=
  ⟨fun x hx => by
    rcases List.mem_cons.1 hx with rfl | hx
    · exact h
    · exact S.each x hx, S.below⟩
theorem Si.alloc {w wx : World} {L : List Sl} (S : Si w wx L) (o : Obj) : Si w (wx.alloc o) L := S.next ((Below.refl _ _).alloc (Nat.le_refl _) _)
/-- a literal of ints, just laid -/
theorem Si.lit {w wx : World} {L : List Sl} (S : Si w wx L) (l : List Int) (cs : Array Value) (t : TypeId) (hc : cs.toList = cI l) (hl : l.length ≤ 1000) :
    Si w (wx.alloc (.cells cs t)) ((some ⟨wx.heap.size, 0, none⟩, l.length, l) :: L) := (S.alloc _).push (IntV.laid l cs t hc hl)
theorem Si.drew {w wx : World} {L : List Sl} (S : Si w wx L) : Si w wx.drew L := S.next (Below.refl _ _).drew

theorem next_011 : IsNext 2 [0, 1, 1] [1, 0, 0] := Or.inl ⟨0, 0, rfl, by decide, by decide, by decide⟩
theorem ok_011 : okW 2 [0, 1, 1] := fun x hx => by simp at hx; omega
theorem chk_011 : chkW 2 [0, 1, 1] = none := by decide
def txt031 : ByteArray := { data := #[48, 51, 49] }
theorem chk_031 : chkW 4 (sW txt031) = none := by decide +kernel
theorem sW_031 : sW txt031 = [0, 3, 1] := by decide +kernel
theorem cmp_0100 : cmpW [0, 1] [0, 0] = 1 := by decide
theorem per_0101 : perW [0, 1, 0, 1] = 2 := by
  refine perW_eq (by decide) ⟨by decide, ⟨2, rfl⟩, fun i => ?_, fun q h1 h2 => ?_⟩
  · have h : i % 4 = 0 ∨ i % 4 = 1 ∨ i % 4 = 2 ∨ i % 4 = 3 := by omega
    unfold F
    show ([0, 1, 0, 1] : List Int).getD ((i + 2) % 4) 0 = ([0, 1, 0, 1] : List Int).getD (i % 4) 0
    rcases h with h | h | h | h
    · rw [h, show (i + 2) % 4 = 2 by omega]; rfl
    · rw [h, show (i + 2) % 4 = 3 by omega]; rfl
    · rw [h, show (i + 2) % 4 = 0 by omega]; rfl
    · rw [h, show (i + 2) % 4 = 1 by omega]; rfl
  · obtain rfl : q = 1 := by omega
    rintro ⟨_, h⟩
    have := h 0
    revert this
    decide
set_option maxRecDepth 100000 in
set_option maxHeartbeats 4000000 in
theorem awakeW (w : World) : Calls Tryz.prog 13 #[] w (Tells (.bool true) w) := by
  go_enter Tryz.func13, Tryz.ntmps13
  go_wp2_with fail
  have S1 := Lib.hid ((Si.start w).lit [0, 1, 1] #[.int .i64 0, .int .i64 1, .int .i64 1] 3 rfl (by decide))
  refine (next_any 2 _ 3 3 [0, 1, 1] _ rfl (S1.out.get 0 rfl) chk_011 (Or.inl (by decide))).mono ?_
  rintro e w1 ⟨x, hx, p1, c1, rfl, ho1, hb1⟩
  obtain rfl := isNext_unique (k := 2) (by decide) ok_011 hx next_011
  have S2 := Lib.hid ((S1.out.next hb1).push ho1.toV)
  clear ho1 hb1 hx S1
  go_wp2_with fail
  refine (parseW_ok 4 txt031 _ chk_031).mono ?_
  rintro e w2 ⟨p2, c2, rfl, ho2, hb2⟩
  rw [sW_031] at ho2 ⊢
  have S3 := Lib.hid ((S2.out.next hb2).push ho2.toV)
  clear ho2 hb2 S2
  go_wp2_with fail
  have S4 := Lib.hid (S3.out.lit [1, 0, 0] #[.int .i64 1, .int .i64 0, .int .i64 0] 3 rfl (by decide))
  refine (ints_any _ _ _ _ _ _ [1, 0, 0] [1, 0, 0] _ rfl rfl (S4.out.get 2 rfl) (S4.out.get 0 rfl)).mono ?_
  rintro e w3 ⟨rfl, hb3⟩
  rw [sameI_self]
  have S5 := Lib.hid (S4.out.next hb3)
  clear hb3 S3 S4
  go_wp2_with fail
  have S6 := Lib.hid (S5.out.lit [0, 3, 1] #[.int .i64 0, .int .i64 3, .int .i64 1] 3 rfl (by decide))
  refine (ints_any _ _ _ _ _ _ [0, 3, 1] [0, 3, 1] _ rfl rfl (S6.out.get 2 rfl) (S6.out.get 0 rfl)).mono ?_
  rintro e w4 ⟨rfl, hb4⟩
  rw [sameI_self]
  have S7 := Lib.hid (S6.out.next hb4)
  clear hb4 S5 S6
  go_wp2_with fail
  have S8 := Lib.hid ((S7.out.lit [0, 1] #[.int .i64 0, .int .i64 1] 3 rfl (by decide)).lit [0, 0] #[.int .i64 0, .int .i64 0] 3 rfl (by decide))
  refine (cmp_w _ _ _ _ _ _ [0, 1] [0, 0] _ rfl rfl (S8.out.get 1 rfl) (by first | exact S8.out.get 0 rfl | (have h := S8.out.get 0 rfl; simpa using h))).mono ?_
  rintro e w5 ⟨rfl, rfl⟩
  rw [cmp_0100]
  go_wp2_with fail
  have S9 := Lib.hid (S8.out.lit [0, 1, 0, 1] #[.int .i64 0, .int .i64 1, .int .i64 0, .int .i64 1] 3 rfl (by decide))
  refine (Quiet.tells (period_any _ _ _ [0, 1, 0, 1] _ rfl (by first | exact S9.out.get 0 rfl | (have h := S9.out.get 0 rfl; simpa using h)) (by decide))).mono ?_
  rintro e w6 ⟨rfl, hb6⟩
  rw [per_0101]
  have S10 := Lib.hid (S9.out.next hb6).below
  clear hb6 S7 S8 S9
  go_wp2_with fail
  go_ret
  exact ⟨rfl, S10.out⟩

/-- every one is an int's value -/
def okI (l : List Int) : Prop := ∀ x ∈ l, -9223372036854775808 ≤ x ∧ x ≤ 9223372036854775807
theorem cellsInt_1 : Tryz.prog.cellsOf 3 = 1 := by kernel_rfl
theorem wf_i64 {n : Int} (h : (Lit.int .i64 n).wf = true) : -9223372036854775808 ≤ n ∧ n ≤ 9223372036854775807 := by
  have := bounds_i64 h
  omega
/-- an argument that is a list of ints, opened -/
theorem open_intl {H : Type} {enc : TypeId × Value → H} {W : World} {v : Value} {d : DataW H} {p : List MemPlace} (hok : ∃ a len cap, v = .slice a len cap)
    (h : DataW.Trod enc Tryz.prog W 0 (fun _ => true) true 22 v d p) (hlt : ∀ x ∈ p, x.block < W.heap.size) :
    ∃ (a : Option Addr) (cap : Nat) (l : List Int), v = .slice a l.length cap ∧ IntV W.heap.size W a cap l ∧ okI l := by
  obtain ⟨a0, len, cap, rfl⟩ := hok
  obtain ⟨fuel, hf⟩ := h
  rcases open_ints Tryz.underlying22 Tryz.underlying3 cellsInt_1 hf with ⟨hcs, _⟩ | ⟨a, len', cap', zs, hcs, _, hl, hm, hz, hx, hcell, hwf⟩
  · simp [Value.cells] at hcs
    obtain ⟨rfl, rfl, rfl⟩ := hcs
    exact ⟨none, 0, [], rfl, ⟨Nat.le_refl _, Nat.zero_le _, fun _ => rfl, fun h => absurd rfl h⟩, fun x h => by cases h⟩
  · simp [Value.cells] at hcs
    obtain ⟨rfl, rfl, rfl⟩ := hcs
    simp only [if_true] at hz
    obtain ⟨rfl, rfl⟩ := Prod.mk.inj hx
    have hlen : (zs.take len).length = len := by rw [List.length_take]; omega
    refine ⟨some a, cap, zs.take len, by rw [hlen], ⟨by rw [hlen]; exact hl, hm, (fun h => by cases h), fun hn => ?_⟩, fun x hx => wf_i64 (hwf x (List.mem_of_mem_take hx))⟩
    obtain ⟨b, off, spot⟩ := a
    have h0 : 0 < zs.length := by
      have := List.length_pos_iff.2 hn
      rw [hlen] at this
      omega
    have hspot : spot = none := by simpa [Addr.add] using World.cell?_spot (hcell 0 h0)
    subst hspot
    refine ⟨b, off, rfl, hlt (.cell b off) (MemPlace.mem_row.2 ⟨0, h0, by simp⟩), fun j x hx => ?_⟩
    have hj := ltI hx
    rw [hlen] at hj
    have hjz : j < zs.length := by omega
    have hc := hcell j hjz
    have e : zs.getD j 0 = x := by
      rw [List.getElem?_take, if_pos hj] at hx
      rw [List.getD_eq_getElem?_getD, hx]; rfl
    rw [e, add_plain] at hc
    exact hc

theorem weights_get {H : Type} {P : Program} : ∀ (ts : List TypeId) (ds : List (DataW H)) (i : Nat) (t : TypeId) (d : DataW H), ts[i]? = some t → ds[i]? = some d → ∀ x ∈ d.weights P t, x ∈ DataW.weightsEach P ts ds
  | [], _, _, _, _, h, _, _, _ => by simp at h
  | _ :: _, [], _, _, _, _, h, _, _ => by simp at h
  | t0 :: ts, d0 :: ds, 0, t, d, ht, hd, x, hx => by
    simp at ht hd; subst ht hd
    unfold DataW.weightsEach
    exact List.mem_append_left _ hx
  | t0 :: ts, d0 :: ds, i + 1, t, d, ht, hd, x, hx => by
    unfold DataW.weightsEach
    exact List.mem_append_right _ (weights_get ts ds i t d (by simpa using ht) (by simpa using hd) x hx)
theorem bytesInt : Tryz.prog.bytesOf 3 = 8 := by kernel_rfl
/-- a list of ints that came in is shorter than 2^44 -/
theorem open_reach {H : Type} {enc : TypeId × Value → H} {W : World} {a : Option Addr} {len cap : Nat} {d : DataW H} {p : List MemPlace}
    (h : DataW.Trod enc Tryz.prog W 0 (fun _ => true) true 22 (.slice a len cap) d p) (hw : ∀ x ∈ d.weights Tryz.prog 22, x ≤ reachBytes) : len ≤ 17592186043904 := by
  obtain ⟨fuel, hf⟩ := h
  rcases open_ints Tryz.underlying22 Tryz.underlying3 cellsInt_1 hf with ⟨hcs, _⟩ | ⟨a, len', cap', zs, hcs, _, hl, hm, hz, hx, hcell, hwf⟩
  · simp [Value.cells] at hcs
    omega
  · simp [Value.cells] at hcs
    obtain ⟨rfl, rfl, rfl⟩ := hcs
    simp only [if_true] at hz
    obtain ⟨rfl, rfl⟩ := Prod.mk.inj hx
    have h1 := hw ((zs.take len).length * 8 + (zs.drop len).length * 8) (by
      unfold DataW.weights
      rw [Tryz.underlying22]
      simp only [lits, List.length_map, bytesInt]
      rw [← Nat.add_mul]
      exact List.mem_cons_self ..)
    unfold reachBytes at h1
    rw [List.length_take] at h1
    omega
end Go.Proofs.YtgdjnohhofbcnaaGreatDoor
end
section
namespace Go.Proofs.YtgdjnohhofbcnaaGreatDoor
open Go.RowKit Go.Extern.Stop Go.Stop Go.Extern WordM RuleM NatM

theorem two_boxes (w : World) (a b c a' b' c' : Value) (w0 : World) (hw0 : w0 = (w.alloc (.cells #[a, b, c] 24)).alloc (.cells #[a', b', c'] 24)) :
    Below w.heap.size w w0 ∧ Rul3 w0 w.heap.size a b c ∧ Rul3 w0 (w.heap.size + 1) a' b' c' := by
  have h1 : Below w.heap.size w (w.alloc (.cells #[a, b, c] 24)) := (Below.refl _ _).alloc (Nat.le_refl _) _
  have h2 : Below (w.alloc (.cells #[a, b, c] 24)).heap.size (w.alloc (.cells #[a, b, c] 24)) w0 := by rw [hw0]; exact (Below.refl _ _).alloc (Nat.le_refl _) _
  have hs : (w.alloc (.cells #[a, b, c] 24)).heap.size = w.heap.size + 1 := by simp
  refine ⟨h1.trans (h2.mono h1.size), (Rul3.new w a b c).next h2, ?_⟩
  have := Rul3.new (w.alloc (.cells #[a, b, c] 24)) a' b' c'
  rw [← hw0, hs] at this
  exact this

set_option maxRecDepth 100000 in
set_option maxHeartbeats 2000000 in
theorem rules_same (k r : Int) (p q : Option Addr) (n c d : Nat) (t : List Int) (w : World) (hn : n = t.length) (h : IntV w.heap.size w p c t) (h' : IntV w.heap.size w q d t) :
    Calls Tryz.prog 12 #[.agg #[.int .i64 k, .int .i64 r, .slice p n c], .agg #[.int .i64 k, .int .i64 r, .slice q n d]] w (Tells (.bool true) w) := by
  have H := Lib.hid (And.intro h (And.intro h' hn))
  clear h h' hn
  go_enter Tryz.func12, Tryz.ntmps12
  go_upto_region 1 with fail
  obtain ⟨w0, hw0⟩ : ∃ w0, w0 = (w.alloc (.cells #[.int .i64 k, .int .i64 r, .slice p n c] 24)).alloc (.cells #[.int .i64 k, .int .i64 r, .slice q n d] 24) := ⟨_, rfl⟩
  obtain ⟨hb0, hE0, hE1⟩ := two_boxes w _ _ _ _ _ _ w0 hw0
  rw [← hw0]
  obtain ⟨_, hc0, hc1, hc2⟩ := hE0.facts
  obtain ⟨_, hd0, hd1, hd2⟩ := hE1.facts
  have HE := Lib.hid hb0
  have hsz : (w.alloc (.cells #[.int .i64 k, .int .i64 r, .slice p n c] 24)).heap.size = w.heap.size + 1 := by simp
  clear hw0 hE0 hE1 hb0
  go_wp2_with fail
  refine (ints_any p q n n c d t t w0 H.out.2.2 H.out.2.2 (H.out.1.next HE.out) (H.out.2.1.next HE.out)).mono ?_
  rintro e w1 ⟨rfl, hb1⟩
  rw [sameI_self]
  have HF := Lib.hid (HE.out.trans (hb1.mono HE.out.size))
  clear hb1
  go_wp2_with fail
  go_ret
  exact ⟨rfl, HF.out⟩

theorem put3_block (w : World) (h : Nat) (a b c : Value) (g : Nat) (hg : g ≠ h) : (put3 w h a b c).heap[g]? = w.heap[g]? := by
  have set : ∀ (w : World) (i : Nat) (v : Value), (w.setCell ⟨h, i, none⟩ v).heap[g]? = w.heap[g]? := fun w i v => by
    show (w.heap.modify h _)[g]? = _
    rw [Array.getElem?_modify, if_neg (Ne.symm hg)]
  unfold put3
  rw [set, set, set]
/-- a rule whose table is lent -/
def LentR (w : World) (k r : Int) (t : List Int) (e : Ending) (w' : World) : Prop :=
  ∃ g, e = .returned (.agg #[.int .i64 k, .int .i64 r, .slice (some ⟨g, 0, none⟩) t.length (t.length + 2)]) ∧ w.heap.size ≤ g ∧ LentI w' g t ∧ Below w.heap.size w w'
set_option maxRecDepth 100000 in
set_option maxHeartbeats 4000000 in
theorem lentR_any (k r : Int) (p : Option Addr) (n c : Nat) (t : List Int) (w : World) (hn : n = t.length) (h : IntV w.heap.size w p c t) (hl : t.length ≤ 17592186043904) :
    Calls Tryz.prog 20 #[.agg #[.int .i64 k, .int .i64 r, .slice p n c]] w (LentR w k r t) := by
  have hlent : ∀ W, IntV W.heap.size W p c t → Calls Tryz.prog 14 #[.slice p n c] W (LentPostI W t) := fun W hW => by rw [hn]; exact lentI_any p c t W hW hl
  unfold LentPostI at hlent
  unfold LentR
  rw [← hn]
  simp only [← hn] at hlent
  have H := Lib.hid (And.intro h (And.intro hlent hn))
  clear h hlent hl hn
  go_enter Tryz.func20, Tryz.ntmps20
  go_upto_region 1 with fail
  obtain ⟨w0, hw0⟩ : ∃ w0, w0 = (w.alloc (.cells #[.int .i64 k, .int .i64 r, .slice p n c] 24)).alloc (.cells #[.int .i64 0, .int .i64 0, .slice none 0 0] 24) := ⟨_, rfl⟩
  obtain ⟨hb0, hE0, hE1⟩ := two_boxes w _ _ _ _ _ _ w0 hw0
  rw [← hw0]
  have hsz : (w.alloc (.cells #[.int .i64 k, .int .i64 r, .slice p n c] 24)).heap.size = w.heap.size + 1 := by simp
  have hs0 := hb0.size
  have hs1 := hE1.lt
  have hlen : ∀ wx, Below w0.heap.size w0 wx → Calls Tryz.prog 14 #[.slice p n c] wx fun e w' => e = .returned (.slice (some ⟨wx.heap.size, 0, none⟩) n (n + 2)) ∧ LentI w' wx.heap.size t ∧ Below wx.heap.size wx w' := fun wx hb => H.out.2.1 wx ((H.out.1.next hb0).next hb)
  have hxA : ∀ wx : World, Below w0.heap.size w0 wx → wx.cell? ⟨w.heap.size, 0, none⟩ = some (.int .i64 k) := fun wx hbx => (hE0.next hbx).facts.2.1
  have hxB : ∀ wx : World, Below w0.heap.size w0 wx → wx.cell? ⟨w.heap.size, 1, none⟩ = some (.int .i64 r) := fun wx hbx => (hE0.next hbx).facts.2.2.1
  have hxC : ∀ wx : World, Below w0.heap.size w0 wx → wx.cell? ⟨w.heap.size, 2, none⟩ = some (.slice p n c) := fun wx hbx => (hE0.next hbx).facts.2.2.2
  have hd0 : Below w0.heap.size w0 w0.drew := (Below.refl _ _).drew
  have HE := Lib.hid (And.intro hE1 hb0)
  clear hw0 hE0 hE1 hb0
  go_region_held3 (fun w' => w'.cell? ⟨w.heap.size, 0, none⟩ = some (.int .i64 k) ∧ w'.cell? ⟨w.heap.size, 1, none⟩ = some (.int .i64 r) ∧ w'.cell? ⟨w.heap.size, 2, none⟩ = some (.slice p n c)) (first | exact ⟨hxA _ hd0, hxB _ hd0, hxC _ hd0⟩ | exact ⟨hxA _ (Below.refl _ _), hxB _ (Below.refl _ _), hxC _ (Below.refl _ _)⟩ | exact ⟨hA1, hB1, hC1⟩ | go_keep) (first | (go_at_call 14; refine (hlen _ (by first | exact hd0 | exact Below.refl _ _)).mono ?_; rintro e wl ⟨rfl, hLl, hbl⟩; have hBl : Below w0.heap.size w0 wl := (by first | exact hd0.trans (hbl.mono hd0.size) | exact hbl); have hA1 := hxA wl hBl; have hB1 := hxB wl hBl; have hC1 := hxC wl hBl; obtain ⟨⟨hf0, hf1, hf2⟩, hz0, hz1, hz2⟩ := (HE.out.1.next hBl).facts))
  all_goals
    have HF := Lib.hid (And.intro hLl (HE.out.2.trans (hBl.mono (by omega))))
    clear hxA hxB hxC hlen hbl hBl hLl hA1 hB1 hC1
    go_wp2_with fail
    refine bodyPost_ret (v := .agg #[.int .i64 k, .int .i64 r, .slice (some ⟨w0.heap.size, 0, none⟩) n (n + 2)]) (by simp [results, Tryz.results20, go_sem, hz0, hz1, hz2]) rfl ⟨w0.heap.size, rfl, hs0, ?_, ?_⟩
    · exact LentI.block (put3_block wl (w.heap.size + 1) _ _ _ _ (by omega)) HF.out.1
    · exact put3_below HF.out.2 (by omega) _ _ _

set_option maxRecDepth 100000 in
set_option maxHeartbeats 2000000 in
theorem keptR_any (g : Nat) (k r : Int) (p : Option Addr) (n m c : Nat) (t : List Int) (w : World) (hg : LentI w g t) (h : IntV w.heap.size w p c t) (hl : t.length ≤ 17592186043904) (hn : n = t.length) (hm : m = t.length + 2) :
    Calls Tryz.prog 22 #[.agg #[.int .i64 k, .int .i64 r, .slice (some ⟨g, 0, none⟩) n m], .agg #[.int .i64 k, .int .i64 r, .slice p n c]] w (Tells (.bool true) w) := by
  have H := Lib.hid (And.intro h (And.intro hg (And.intro hn (And.intro hm hl))))
  clear h hg hn hm hl
  go_enter Tryz.func22, Tryz.ntmps22
  go_upto_region 1 with fail
  obtain ⟨w0, hw0⟩ : ∃ w0, w0 = (w.alloc (.cells #[.int .i64 k, .int .i64 r, .slice (some ⟨g, 0, none⟩) n m] 24)).alloc (.cells #[.int .i64 k, .int .i64 r, .slice p n c] 24) := ⟨_, rfl⟩
  obtain ⟨hb0, hE0, hE1⟩ := two_boxes w _ _ _ _ _ _ w0 hw0
  rw [← hw0]
  obtain ⟨_, hc0, hc1, hc2⟩ := hE0.facts
  obtain ⟨_, hd0, hd1, hd2⟩ := hE1.facts
  have HE := Lib.hid hb0
  have hsz : (w.alloc (.cells #[.int .i64 k, .int .i64 r, .slice (some ⟨g, 0, none⟩) n m] 24)).heap.size = w.heap.size + 1 := by simp
  clear hw0 hE0 hE1 hb0
  go_wp2_with fail
  have hk := keptI_any g p n m c t w0 (H.out.2.1.below HE.out) (H.out.1.next HE.out) H.out.2.2.2.2 H.out.2.2.1 H.out.2.2.2.1
  rw [← H.out.2.2.1] at hk
  refine hk.mono ?_
  rintro e w1 ⟨rfl, hb1⟩
  have HF := Lib.hid (HE.out.trans (hb1.mono HE.out.size))
  clear hb1 hk
  go_wp2_with fail
  go_ret
  exact ⟨rfl, HF.out⟩

def T110 : List Int := [0, 1, 1, 1, 0, 1, 1, 0]
def txt110 : ByteArray := { data := #[50, 46, 49, 46, 49, 49, 48] }
def ParsePost110 (w : World) (e : Ending) (w' : World) : Prop :=
  ∃ p c, e = .returned (.tuple #[.agg #[.int .i64 2, .int .i64 1, .slice p 8 c], .nilIface]) ∧ IntO w.heap.size w' p c T110 ∧ Below w.heap.size w w'
theorem ok110 : OkR 2 1 T110 := ⟨by decide, by decide, by decide, by decide, fun x hx => by unfold T110 at hx; simp at hx; omega⟩
theorem parse_110 (w : World) : Calls Tryz.prog 9 #[.string txt110] w (ParsePost110 w) := by
  have hK : symK txt110 = 2 := by decide +kernel
  have hR : symR txt110 = 1 := by decide +kernel
  have hN : numOf (bsOf (restS txt110)) = 110 := by decide +kernel
  have h := rparse_ok txt110 w (by decide +kernel) (by decide +kernel) (by rw [hK, hR]; decide) (by decide +kernel) (by rw [hK, hR, hN]; decide)
  rw [hK, hR, hN] at h
  refine h.mono ?_
  rintro e w' ⟨t, ht, hc, p, c, he, ho, hb⟩
  obtain rfl : t = T110 := code_inj ht ok110 (by rw [hc]; decide +kernel)
  exact ⟨p, c, he, ho, hb⟩
def W5 : List Int := [0, 0, 1, 1, 1]
theorem ok5 : okW 2 W5 := fun x hx => by unfold W5 at hx; simp at hx; omega
theorem img110 : imgW 2 1 T110 W5 = [1, 1, 0] := by decide +kernel
theorem step_110 (p q : Option Addr) (c d : Nat) (w : World) (h : IntV w.heap.size w p c T110) (hl : IntV w.heap.size w q d W5) :
    Calls Tryz.prog 23 #[.agg #[.int .i64 2, .int .i64 1, .slice p 8 c], .slice q 5 d] w (IntOk w [1, 1, 0]) := by
  have := step_ok 2 1 p q 8 c 5 d T110 W5 w rfl rfl h hl (chkT_ok ok110 (by decide) ok5)
  have e : imgW (2 : Int).toNat (1 : Int).toNat T110 W5 = [1, 1, 0] := img110
  rwa [e] at this
theorem check_5 (w : World) (A : Nat → Addr) (hr : Roots w A) : Calls Tryz.prog 25 #[.agg #[.int .i64 5, .int .i64 0, .slice none 0 0]] w (Err1 w A ruleOp 0 1) :=
  rcheck_bad 5 0 none 0 0 [] w A hr rfl (IntV.nothing w) 0 (by decide)

set_option maxRecDepth 100000 in
set_option maxHeartbeats 8000000 in
theorem awakeR (w : World) (A : Nat → Addr) (hr : Roots w A) : Calls Tryz.prog 6 #[] w (Tells (.bool true) w) := by
  have HR := Lib.hid hr
  clear hr
  go_enter Tryz.func6, Tryz.ntmps6
  go_wp2_with fail
  refine (parse_110 w).mono ?_
  rintro e w1 ⟨p1, c1, rfl, ho1, hb1⟩
  go_upto_region 2 with fail
  obtain ⟨w2, hw2⟩ : ∃ w2, w2 = w1.alloc (.cells #[.int .i64 2, .int .i64 1, .slice p1 8 c1] 24) := ⟨_, rfl⟩
  have hb2 : Below w1.heap.size w1 w2 := by rw [hw2]; exact (Below.refl _ _).alloc (Nat.le_refl _) _
  have hE2 : Rul3 w2 w1.heap.size (.int .i64 2) (.int .i64 1) (.slice p1 8 c1) := by rw [hw2]; exact Rul3.new w1 _ _ _
  rw [← hw2]
  obtain ⟨_, hc0, hc1, hc2⟩ := hE2.facts
  have S2 := Lib.hid (And.intro ((((Si.start w).next hb1).push ho1.toV).next hb2) hE2)
  clear hw2 hb2 hE2 ho1 hb1
  go_wp2_with fail
  have S3 := Lib.hid (S2.out.1.lit T110 #[.int .i64 0, .int .i64 1, .int .i64 1, .int .i64 1, .int .i64 0, .int .i64 1, .int .i64 1, .int .i64 0] 3 rfl (by decide))
  refine (rules_same 2 1 _ _ 8 _ _ T110 _ rfl (S3.out.get 1 rfl) (S3.out.get 0 rfl)).mono ?_
  rintro e w3 ⟨rfl, hb3⟩
  have hbx := ((Below.refl w2.heap.size w2).alloc (Nat.le_refl _) (.cells #[.int .i64 0, .int .i64 1, .int .i64 1, .int .i64 1, .int .i64 0, .int .i64 1, .int .i64 1, .int .i64 0] 3))
  have hE3 := S2.out.2.next (hbx.trans (hb3.mono hbx.size))
  clear hc0 hc1 hc2
  obtain ⟨_, hc0, hc1, hc2⟩ := hE3.facts
  have S4 := Lib.hid (S3.out.next hb3)
  clear hb3 S3 hbx hE3
  go_wp2_with fail
  have S5 := Lib.hid (S4.out.lit W5 #[.int .i64 0, .int .i64 0, .int .i64 1, .int .i64 1, .int .i64 1] 3 rfl (by decide))
  refine (step_110 _ _ _ _ _ (S5.out.get 2 rfl) (S5.out.get 0 rfl)).mono ?_
  rintro e w4 ⟨p4, c4, rfl, ho4, hb4⟩
  have S6 := Lib.hid ((S5.out.next hb4).push ho4.toV)
  clear hb4 ho4 S4 S5
  go_wp2_with fail
  have S7 := Lib.hid (S6.out.lit [1, 1, 0] #[.int .i64 1, .int .i64 1, .int .i64 0] 3 rfl (by decide))
  refine (ints_any _ _ _ _ _ _ [1, 1, 0] [1, 1, 0] _ rfl rfl (S7.out.get 1 rfl) (S7.out.get 0 rfl)).mono ?_
  rintro e w5 ⟨rfl, hb5⟩
  rw [sameI_self]
  have S8 := Lib.hid (S7.out.next hb5)
  clear hb5 S6 S7
  go_wp2_with fail
  refine (check_5 _ A (HR.out.below S8.out.below)).mono ?_
  rintro e w6 ⟨b6, rfl, _, hb6⟩
  have S9 := Lib.hid (S8.out.next hb6).below
  clear hb6
  go_wp2_with fail
  go_ret
  exact ⟨rfl, S9.out⟩
end Go.Proofs.YtgdjnohhofbcnaaGreatDoor
end
section
namespace Go.Proofs.YtgdjnohhofbcnaaGreatDoor
open Go.RowKit Go.Extern.Stop Go.Stop Go.Extern WordM RuleM NatM

/-- the program's: nil, or a Fault of this package at this place over the number's error -/
def ErrA (w : World) (A : Nat → Addr) (op : ByteArray) (x : Option (Nat × Nat)) (v : Value) : Prop := match x with
  | none => v = .nilIface
  | some (i, m) => ∃ b, v = .iface 85 (.pointer (some ⟨b, 0, none⟩)) ∧ (Tree.fault b op i (.leaf (A m))).lies w
/-- the document's: its number, and its two slices of one length -/
def ErrB (w : World) (op : ByteArray) (x : Option (Nat × Nat)) (a : Int) (po pa : Option Addr) (n : Nat) : Prop := match x with
  | none => a = 0 ∧ po = none ∧ pa = none ∧ n = 0
  | some (i, m) => a = m ∧ n = 1 ∧ WantV w po pa 1 1 [(op, i)]
theorem ErrA.next {w w' : World} {A : Nat → Addr} {op : ByteArray} {x : Option (Nat × Nat)} {v : Value} (hb : Below w.heap.size w w') (h : ErrA w A op x v) : ErrA w' A op x v := by
  cases x with
  | none => exact h
  | some y =>
    obtain ⟨b, h1, h2⟩ := h
    exact ⟨b, h1, Tree.lies_below hb (t := .fault b op y.1 (.leaf (A y.2))) h2⟩
theorem ErrB.next {w w' : World} {op : ByteArray} {x : Option (Nat × Nat)} {a : Int} {po pa : Option Addr} {n : Nat} (hb : Below w.heap.size w w') (h : ErrB w op x a po pa n) : ErrB w' op x a po pa n := by
  cases x with
  | none => exact h
  | some y => exact ⟨h.1, h.2.1, h.2.2.below hb⟩
/-- numbers that are api's -/
def numOk (x : Option (Nat × Nat)) : Prop := ∀ y, x = some y → 1 ≤ y.2 ∧ y.2 ≤ 11
theorem is_pair {w : World} {A : Nat → Addr} {op : ByteArray} {x : Option (Nat × Nat)} {v : Value} {a : Int} {po pa : Option Addr} {n : Nat} (hr : Roots w A) (hT : TypeVar w) (hx : numOk x) (h : ErrA w A op x v) (h' : ErrB w op x a po pa n) :
    Calls Tryz.prog 11 #[v, .agg #[.int .i64 a, .slice po n n, .slice pa n n]] w (Tells (.bool true) w) := by
  cases x with
  | none =>
    obtain ⟨rfl, rfl, rfl, rfl⟩ := h'
    obtain rfl : v = .nilIface := h
    exact Is_none none none 0 0 0 0 w
  | some y =>
    obtain ⟨rfl, rfl, hw⟩ := h'
    obtain ⟨b, rfl, hl⟩ := h
    exact Is_chain [(b, op, (y.1 : Int))] y.2 (hx y rfl) po pa 1 1 1 w A hr hT hl hw rfl

/-- the posts -/
def PostA (w : World) (A : Nat → Addr) (op : ByteArray) (x : Option (Nat × Nat)) (e : Ending) (w' : World) : Prop := ∃ v, e = .returned v ∧ ErrA w' A op x v ∧ Below w.heap.size w w'
def PostB (w : World) (op : ByteArray) (x : Option (Nat × Nat)) (e : Ending) (w' : World) : Prop :=
  ∃ a po pa n, e = .returned (.agg #[.int .i64 a, .slice po n n, .slice pa n n]) ∧ ErrB w' op x a po pa n ∧ Below w.heap.size w w'
/-- behind a first result, of which P tells -/
def PostA2 (w : World) (A : Nat → Addr) (op : ByteArray) (x : Option (Nat × Nat)) (u : Value) (e : Ending) (w' : World) : Prop := ∃ v, e = .returned (.tuple #[u, v]) ∧ ErrA w' A op x v ∧ Below w.heap.size w w'
def PostB2 (w : World) (op : ByteArray) (x : Option (Nat × Nat)) (u : Value) (e : Ending) (w' : World) : Prop :=
  ∃ a po pa n, e = .returned (.tuple #[u, .agg #[.int .i64 a, .slice po n n, .slice pa n n]]) ∧ ErrB w' op x a po pa n ∧ Below w.heap.size w w'
theorem RefErrR.b {w w' : World} {i m : Nat} {v : Value} (h : RefErrR w i m v w') : ∃ a po pa n, v = .agg #[.int .i64 a, .slice po n n, .slice pa n n] ∧ ErrB w' ruleOp (some (i, m)) a po pa n ∧ Below w.heap.size w w' := by
  obtain ⟨g, g', rfl, _, hw, hb⟩ := h
  exact ⟨_, _, _, _, rfl, ⟨rfl, rfl, hw⟩, hb⟩

/-- the fault of a rule, with its number -/
def fltR (k r : Int) (t : List Int) : Option (Nat × Nat) := (chkR k r t).map fun i => (i, 1)
theorem numOk_fltR (k r : Int) (t : List Int) : numOk (fltR k r t) := fun y hy => by
  unfold fltR at hy
  obtain ⟨i, _, rfl⟩ := Option.map_eq_some_iff.1 hy
  simp
theorem numOk_chkS (k r : Int) (t : List Int) : numOk (chkS k r t) := fun y hy => by
  unfold chkS at hy
  split at hy
  · obtain rfl := Option.some.inj hy; simp
  · split at hy
    · obtain rfl := Option.some.inj hy; simp
    · cases hy
/-- where Size refuses -/
def chkZ (k r : Int) : Option (Nat × Nat) := if (k < 1 ∨ 4 < k) ∨ r < 0 ∨ 3 < r then some (0, 3) else none
def sizeZ (k r : Int) : Int := if (k < 1 ∨ 4 < k) ∨ r < 0 ∨ 3 < r then 0 else ((k.toNat ^ (2 * r.toNat + 1) : Nat) : Int)
theorem numOk_chkZ (k r : Int) : numOk (chkZ k r) := fun y hy => by
  unfold chkZ at hy
  split at hy
  · obtain rfl := Option.some.inj hy; simp
  · cases hy
theorem size_a (k r : Int) (w : World) (A : Nat → Addr) (hr : Roots w A) : Calls Tryz.prog 85 #[.int .i64 k, .int .i64 r] w (PostA2 w A ruleOp (chkZ k r) (.int .i64 (sizeZ k r))) := by
  unfold chkZ sizeZ
  split
  · rename_i h
    exact (size_bad k r w A hr h).mono fun e w' ⟨b, he, hl, hb⟩ => ⟨_, he, ⟨b, rfl, hl⟩, hb⟩
  · rename_i h
    obtain ⟨K, rfl⟩ : ∃ K : Nat, k = K := ⟨k.toNat, by omega⟩
    obtain ⟨R, rfl⟩ : ∃ R : Nat, r = R := ⟨r.toNat, by omega⟩
    rw [Int.toNat_natCast, Int.toNat_natCast]
    exact (size_ok K R w (by omega) (by omega) (by omega)).mono fun e w' ⟨he, hw⟩ => ⟨_, he, rfl, by rw [← hw]; exact Below.refl _ _⟩
theorem size_b (k r : Int) (w : World) : Calls Tryz.prog 39 #[.int .i64 k, .int .i64 r] w (PostB2 w ruleOp (chkZ k r) (.int .i64 (sizeZ k r))) := by
  unfold chkZ sizeZ
  split
  · rename_i h
    exact (size_ref_bad k r w h).mono fun e w' ⟨v, he, hv⟩ => by
      obtain ⟨a, po, pa, n, rfl, h1, h2⟩ := RefErrR.b (i := 0) (m := 3) hv
      exact ⟨a, po, pa, n, he, h1, h2⟩
  · rename_i h
    obtain ⟨K, rfl⟩ : ∃ K : Nat, k = K := ⟨k.toNat, by omega⟩
    obtain ⟨R, rfl⟩ : ∃ R : Nat, r = R := ⟨r.toNat, by omega⟩
    rw [Int.toNat_natCast, Int.toNat_natCast]
    exact (size_ref_ok K R w (by omega) (by omega) (by omega)).mono fun e w' ⟨he, hb⟩ => ⟨0, none, none, 0, he, ⟨rfl, rfl, rfl, rfl⟩, hb⟩
theorem check_a (k r : Int) (p : Option Addr) (n c : Nat) (t : List Int) (w : World) (A : Nat → Addr) (hr : Roots w A) (hn : n = t.length) (h : IntV w.heap.size w p c t) :
    Calls Tryz.prog 25 #[.agg #[.int .i64 k, .int .i64 r, .slice p n c]] w (PostA w A ruleOp (fltR k r t)) := by
  unfold fltR
  cases hc : chkR k r t with
  | some i => exact (rcheck_bad k r p n c t w A hr hn h i hc).mono fun e w' ⟨b, he, hl, hb⟩ => ⟨_, he, ⟨b, rfl, hl⟩, hb⟩
  | none =>
    obtain ⟨K, R, rfl, rfl, ho⟩ := chkR_none hc
    exact (rcheck_ok K R p n c t w hn h ho).mono fun e w' ⟨he, hb⟩ => ⟨_, he, rfl, hb⟩
theorem check_b (k r : Int) (p : Option Addr) (n c : Nat) (t : List Int) (w : World) (hn : n = t.length) (h : IntV w.heap.size w p c t) :
    Calls Tryz.prog 144 #[.agg #[.int .i64 k, .int .i64 r, .slice p n c]] w (PostB w ruleOp (fltR k r t)) := by
  unfold fltR
  cases hc : chkR k r t with
  | some i =>
    exact (rcheck_ref_bad k r p n c t w hn h i hc).mono fun e w' ⟨v, he, hv⟩ => by
      obtain ⟨a, po, pa, m, rfl, h1, h2⟩ := RefErrR.b (i := i) (m := 1) hv
      exact ⟨a, po, pa, m, he, h1, h2⟩
  | none =>
    obtain ⟨K, R, rfl, rfl, ho⟩ := chkR_none hc
    exact (rcheck_ref_ok K R p n c t w hn h ho).mono fun e w' ⟨he, hb⟩ => ⟨0, none, none, 0, he, ⟨rfl, rfl, rfl, rfl⟩, hb⟩
theorem small_a (k r : Int) (p : Option Addr) (n c : Nat) (t : List Int) (w : World) (A : Nat → Addr) (hr : Roots w A) (hn : n = t.length) (h : IntV w.heap.size w p c t) :
    Calls Tryz.prog 86 #[.agg #[.int .i64 k, .int .i64 r, .slice p n c]] w (PostA w A ruleOp (chkS k r t)) := by
  cases hc : chkS k r t with
  | some y => exact (small_bad k r p n c t w A hr hn h y.1 y.2 hc).mono fun e w' ⟨b, he, hl, hb⟩ => ⟨_, he, ⟨b, rfl, hl⟩, hb⟩
  | none =>
    obtain ⟨K, R, rfl, rfl, ho, hs⟩ := chkS_none hc
    exact (small_ok K R p n c t w hn h ho hs).mono fun e w' ⟨he, hb⟩ => ⟨_, he, rfl, hb⟩
theorem small_b (k r : Int) (p : Option Addr) (n c : Nat) (t : List Int) (w : World) (hn : n = t.length) (h : IntV w.heap.size w p c t) :
    Calls Tryz.prog 92 #[.agg #[.int .i64 k, .int .i64 r, .slice p n c]] w (PostB w ruleOp (chkS k r t)) := by
  unfold chkS
  cases hc : chkR k r t with
  | some i =>
    exact (small_ref_fault k r p n c t w hn h i hc).mono fun e w' ⟨v, he, hv⟩ => by
      obtain ⟨a, po, pa, m, rfl, h1, h2⟩ := RefErrR.b (i := i) (m := 1) hv
      exact ⟨a, po, pa, m, he, h1, h2⟩
  | none =>
    obtain ⟨K, R, rfl, rfl, ho⟩ := chkR_none hc
    simp only []
    split
    · exact (small_ref_big K R p n c t w hn h ho (by omega)).mono fun e w' ⟨v, he, hv⟩ => by
        obtain ⟨a, po, pa, m, rfl, h1, h2⟩ := RefErrR.b (i := 0) (m := 4) hv
        exact ⟨a, po, pa, m, he, h1, h2⟩
    · exact (small_ref_ok K R p n c t w hn h ho (by omega)).mono fun e w' ⟨he, hb⟩ => ⟨0, none, none, 0, he, ⟨rfl, rfl, rfl, rfl⟩, hb⟩
end Go.Proofs.YtgdjnohhofbcnaaGreatDoor
end
section
namespace Go.Proofs.YtgdjnohhofbcnaaGreatDoor
open Go.RowKit Go.Extern.Stop Go.Stop Go.Extern WordM RuleM NatM

theorem chkS_num {k r : Int} {t : List Int} {i m : Nat} (h : chkS k r t = some (i, m)) : m ≠ 0 := by
  have := numOk_chkS k r t _ h
  simp at this; omega
theorem numOk_chkF (k r : Int) (i : Nat) : numOk (chkF k r i) := fun y hy => by
  unfold chkF at hy
  split at hy
  · obtain rfl := Option.some.inj hy; simp
  · split at hy
    · obtain rfl := Option.some.inj hy; simp
    · split at hy
      · obtain rfl := Option.some.inj hy; simp
      · cases hy
theorem chkF_none {k r : Int} {i : Nat} (h : chkF k r i = none) : ∃ K R : Nat, k = K ∧ r = R ∧ 1 ≤ K ∧ K ≤ 4 ∧ R ≤ 3 ∧ K ^ (2 * R + 1) ≤ 256 ∧ i < K ^ (K ^ (2 * R + 1)) := by
  unfold chkF at h
  split at h
  · cases h
  · split at h
    · cases h
    · split at h
      · cases h
      · obtain ⟨K, rfl⟩ : ∃ K : Nat, k = K := ⟨k.toNat, by omega⟩
        obtain ⟨R, rfl⟩ : ∃ R : Nat, r = R := ⟨r.toNat, by omega⟩
        rw [Int.toNat_natCast, Int.toNat_natCast] at *
        exact ⟨K, R, rfl, rfl, by omega, by omega, by omega, by omega, by omega⟩
/-- what Code tells beside the error -/
def codeN (k r : Int) (t : List Int) : Nat := match chkS k r t with
  | some _ => 0
  | none => codeR k.toNat t
def NumA (w : World) (A : Nat → Addr) (op : ByteArray) (x : Option (Nat × Nat)) (N : Nat) (e : Ending) (w' : World) : Prop :=
  ∃ p c v, e = .returned (.tuple #[.slice p (D32 N).length c, v]) ∧ NatO w.heap.size w' p c (D32 N) ∧ ErrA w' A op x v ∧ Below w.heap.size w w'
def NumB (w : World) (op : ByteArray) (x : Option (Nat × Nat)) (N : Nat) (e : Ending) (w' : World) : Prop :=
  ∃ p c a po pa n, e = .returned (.tuple #[.slice p (D32 N).length c, .agg #[.int .i64 a, .slice po n n, .slice pa n n]]) ∧ NatO w.heap.size w' p c (D32 N) ∧ ErrB w' op x a po pa n ∧ Below w.heap.size w w'
theorem nat_none {P : List Nat → Prop} (h : P []) : P (D32 0) := by rw [D32_nil.2 rfl]; exact h
theorem code_a (k r : Int) (p : Option Addr) (n c : Nat) (t : List Int) (w : World) (A : Nat → Addr) (hr : Roots w A) (hn : n = t.length) (h : IntV w.heap.size w p c t) :
    Calls Tryz.prog 26 #[.agg #[.int .i64 k, .int .i64 r, .slice p n c]] w (NumA w A ruleOp (chkS k r t) (codeN k r t)) := by
  unfold codeN
  cases hc : chkS k r t with
  | some y => exact (code_bad k r p n c t w A hr hn h y.1 y.2 hc).mono fun e w' ⟨b, he, hb1, hb2⟩ => ⟨none, 0, _, by simp only []; rw [D32_nil.2 rfl]; exact he, by simp only []; rw [D32_nil.2 rfl]; exact NatO.nothing _ _, ⟨b, rfl, hb1⟩, hb2⟩
  | none =>
    obtain ⟨K, R, rfl, rfl, ho, hs⟩ := chkS_none hc
    exact (code_ok K R p n c t w hn h ho hs).mono fun e w' ⟨p', c', he, ho', hb⟩ => ⟨p', c', _, he, ho', rfl, hb⟩
theorem code_b (k r : Int) (p : Option Addr) (n c : Nat) (t : List Int) (w : World) (hn : n = t.length) (h : IntV w.heap.size w p c t) :
    Calls Tryz.prog 29 #[.agg #[.int .i64 k, .int .i64 r, .slice p n c]] w (NumB w ruleOp (chkS k r t) (codeN k r t)) := by
  unfold codeN
  cases hc : chkS k r t with
  | some y =>
    exact (code_ref_bad k r p n c t w hn h y.1 y.2 (chkS_num hc) hc).mono fun e w' ⟨v, he, hv⟩ => by
      obtain ⟨a, po, pa, z, rfl, h1, h2⟩ := RefErrR.b (i := y.1) (m := y.2) hv
      exact ⟨none, 0, a, po, pa, z, by simp only []; rw [D32_nil.2 rfl]; exact he, by simp only []; rw [D32_nil.2 rfl]; exact NatO.nothing _ _, h1, h2⟩
  | none =>
    obtain ⟨K, R, rfl, rfl, ho, hs⟩ := chkS_none hc
    exact (code_ref_ok K R p n c t w hn h ho (by omega)).mono fun e w' ⟨p', c', he, ho', hb⟩ => ⟨p', c', 0, none, none, 0, he, ho', ⟨rfl, rfl, rfl, rfl⟩, hb⟩
/-- what From tells beside the error -/
def FromIs (k r : Int) (i : Nat) (K R : Int) (t : List Int) : Prop := match chkF k r i with
  | some _ => K = 0 ∧ R = 0 ∧ t = []
  | none => K = k ∧ R = r ∧ OkR k.toNat r.toNat t ∧ codeR k.toNat t = i
theorem FromIs.unique {k r : Int} {i : Nat} {K R K' R' : Int} {t t' : List Int} (h : FromIs k r i K R t) (h' : FromIs k r i K' R' t') : K = K' ∧ R = R' ∧ t = t' := by
  unfold FromIs at h h'
  cases hc : chkF k r i with
  | some y =>
    rw [hc] at h h'
    obtain ⟨rfl, rfl, rfl⟩ := h
    obtain ⟨rfl, rfl, rfl⟩ := h'
    exact ⟨rfl, rfl, rfl⟩
  | none =>
    rw [hc] at h h'
    obtain ⟨rfl, rfl, h1, h2⟩ := h
    obtain ⟨rfl, rfl, h3, h4⟩ := h'
    exact ⟨rfl, rfl, code_inj h1 h3 (by rw [h2, h4])⟩
def RuleA (w : World) (A : Nat → Addr) (k r : Int) (i : Nat) (e : Ending) (w' : World) : Prop :=
  ∃ K R t p c v, FromIs k r i K R t ∧ e = .returned (.tuple #[.agg #[.int .i64 K, .int .i64 R, .slice p t.length c], v]) ∧ IntO w.heap.size w' p c t ∧ ErrA w' A ruleOp (chkF k r i) v ∧ Below w.heap.size w w'
def RuleB (w : World) (k r : Int) (i : Nat) (e : Ending) (w' : World) : Prop :=
  ∃ K R t p c a po pa n, FromIs k r i K R t ∧ e = .returned (.tuple #[.agg #[.int .i64 K, .int .i64 R, .slice p t.length c], .agg #[.int .i64 a, .slice po n n, .slice pa n n]]) ∧ IntO w.heap.size w' p c t ∧ ErrB w' ruleOp (chkF k r i) a po pa n ∧ Below w.heap.size w w'
theorem from_a (k r : Int) (p : Option Addr) (m c : Nat) (a : List Nat) (w : World) (A : Nat → Addr) (hr : Roots w A) (hm : m = a.length) (h : NatV w.heap.size w p c a) (hl : a.length ≤ 100000) :
    Calls Tryz.prog 37 #[.int .i64 k, .int .i64 r, .slice p m c] w (RuleA w A k r (V32 a)) := by
  cases hc : chkF k r (V32 a) with
  | some y =>
    exact (from_bad k r p m c a w A hr hm h y.1 y.2 hc).mono fun e w' ⟨b, he, hb1, hb2⟩ => ⟨0, 0, [], none, 0, _, by unfold FromIs; rw [hc]; exact ⟨rfl, rfl, rfl⟩, he, IntO.nothing _ _, by rw [hc]; exact ⟨b, rfl, hb1⟩, hb2⟩
  | none =>
    obtain ⟨K, R, rfl, rfl, h1, h4, h3, hs, hlt⟩ := chkF_none hc
    exact (from_ok K R p m c a w hm h hl h1 h4 h3 hs hlt).mono fun e w' ⟨t, ho, hcd, p', c', he, ho', hb⟩ => ⟨K, R, t, p', c', _, by unfold FromIs; rw [hc]; exact ⟨rfl, rfl, ho, hcd⟩, he, ho', by rw [hc]; rfl, hb⟩
theorem from_b (k r : Int) (p : Option Addr) (m c : Nat) (a : List Nat) (w : World) (hm : a.length = m) (h : NatV w.heap.size w p c a) (hl : a.length ≤ 1000) :
    Calls Tryz.prog 42 #[.int .i64 k, .int .i64 r, .slice p m c] w (RuleB w k r (V32 a)) := by
  cases hc : chkF k r (V32 a) with
  | some y =>
    exact (from_ref_bad k r p m c a w hm h hl y.1 y.2 hc).mono fun e w' ⟨v, he, hv⟩ => by
      obtain ⟨a', po, pa, z, rfl, h1, h2⟩ := RefErrR.b (i := y.1) (m := y.2) hv
      exact ⟨0, 0, [], none, 0, a', po, pa, z, by unfold FromIs; rw [hc]; exact ⟨rfl, rfl, rfl⟩, he, IntO.nothing _ _, by rw [hc]; exact h1, h2⟩
  | none =>
    obtain ⟨K, R, rfl, rfl, h1, h4, h3, hs, hlt⟩ := chkF_none hc
    exact (from_ref_ok K R p m c a w hm h hl h1 h4 h3 hs hlt).mono fun e w' ⟨t, p', c', ho, hcd, he, ho', hb⟩ => ⟨K, R, t, p', c', 0, none, none, 0, by unfold FromIs; rw [hc]; exact ⟨rfl, rfl, ho, hcd⟩, he, ho', by rw [hc]; exact ⟨rfl, rfl, rfl, rfl⟩, hb⟩
end Go.Proofs.YtgdjnohhofbcnaaGreatDoor
end
section
namespace Go.Proofs.YtgdjnohhofbcnaaGreatDoor
open Go.RowKit Go.Extern.Stop Go.Stop Go.Extern WordM RuleM NatM

/-- the document's error, its two slices of any capacity -/
def WCh (w : World) (x : Option (List (ByteArray × Int) × Nat)) (a : Int) (po pa : Option Addr) (n co ca : Nat) : Prop := match x with
  | none => a = 0 ∧ po = none ∧ pa = none ∧ n = 0 ∧ co = 0 ∧ ca = 0
  | some (L, m) => a = m ∧ n = L.length ∧ WantV w po pa co ca L
/-- what Parse refuses -/
def chkP (s : ByteArray) : Option (List (ByteArray × Int) × Nat) :=
  if 8192 < s.size then some ([(ruleOp, 0)], 4) else if fwT s < 4 then some ([(ruleOp, (fwT s : Int))], 6) else if 256 < symK s ^ (2 * symR s + 1) then some ([(ruleOp, 0)], 4) else
    match parseBad (bsOf (restS s)) with
    | some y => some ([(ruleOp, 4), (natOp, (y.1 : Int))], y.2)
    | none => if symK s ^ (symK s ^ (2 * symR s + 1)) ≤ numOf (bsOf (restS s)) then some ([(ruleOp, 4)], 3) else none
/-- what Parse tells beside the error -/
def ParseIs (s : ByteArray) (K R : Int) (t : List Int) : Prop := match chkP s with
  | some _ => K = 0 ∧ R = 0 ∧ t = []
  | none => K = (symK s : Int) ∧ R = (symR s : Int) ∧ OkR (symK s) (symR s) t ∧ codeR (symK s) t = numOf (bsOf (restS s))
def ParseA (w : World) (A : Nat → Addr) (s : ByteArray) (e : Ending) (w' : World) : Prop :=
  ∃ K R t p c v, ParseIs s K R t ∧ e = .returned (.tuple #[.agg #[.int .i64 K, .int .i64 R, .slice p t.length c], v]) ∧ IntO w.heap.size w' p c t ∧ PChn w' A (chkP s) v ∧ Below w.heap.size w w'
def ParseB (w : World) (s : ByteArray) (e : Ending) (w' : World) : Prop :=
  ∃ K R t p c a po pa n co ca, ParseIs s K R t ∧ e = .returned (.tuple #[.agg #[.int .i64 K, .int .i64 R, .slice p t.length c], .agg #[.int .i64 a, .slice po n co, .slice pa n ca]]) ∧ IntO w.heap.size w' p c t ∧ WCh w' (chkP s) a po pa n co ca ∧ Below w.heap.size w w'
theorem parseA_bad {w w' : World} {A : Nat → Addr} {s : ByteArray} {L : List (ByteArray × Int)} {m : Nat} {e : Ending} {b : Nat} (hc : chkP s = some (L, m)) (he : e = .returned (.tuple #[noRule, .iface 85 (.pointer (some ⟨b, 0, none⟩))])) (hl : Chn w' A b L m) (hb : Below w.heap.size w w') : ParseA w A s e w' :=
  ⟨0, 0, [], none, 0, _, by unfold ParseIs; rw [hc]; exact ⟨rfl, rfl, rfl⟩, he, IntO.nothing _ _, by rw [hc]; exact ⟨b, rfl, hl⟩, hb⟩
theorem parseB_bad {w w' : World} {s : ByteArray} {L : List (ByteArray × Int)} {m n co ca : Nat} {po pa : Option Addr} {e : Ending} (hc : chkP s = some (L, m)) (he : e = .returned (.tuple #[noRule, .agg #[.int .i64 (m : Int), .slice po n co, .slice pa n ca]])) (hn : n = L.length) (hl : WantV w' po pa co ca L) (hb : Below w.heap.size w w') : ParseB w s e w' :=
  ⟨0, 0, [], none, 0, _, _, _, _, _, _, by unfold ParseIs; rw [hc]; exact ⟨rfl, rfl, rfl⟩, he, IntO.nothing _ _, by rw [hc]; exact ⟨rfl, hn, hl⟩, hb⟩
theorem parse_a (s : ByteArray) (w : World) (A : Nat → Addr) (hr : Roots w A) : Calls Tryz.prog 9 #[.string s] w (ParseA w A s) := by
  by_cases h1 : 8192 < s.size
  · have hc : chkP s = some ([(ruleOp, 0)], 4) := by unfold chkP; rw [if_pos h1]
    exact (rparse_big s w A hr h1).mono fun e w' ⟨b, he, hl, hb⟩ => parseA_bad hc he (Chn.one hl) hb
  have h1' : s.size ≤ 8192 := Nat.le_of_not_lt h1
  by_cases h2 : fwT s < 4
  · have hc : chkP s = some ([(ruleOp, (fwT s : Int))], 6) := by unfold chkP; rw [if_neg h1, if_pos h2]
    exact (rparse_head s w A hr h1' h2).mono fun e w' ⟨b, he, hl, hb⟩ => parseA_bad hc he (Chn.one hl) hb
  have h2' : fwT s = 4 := Nat.le_antisymm (fwT_le s) (Nat.le_of_not_lt h2)
  by_cases h3 : 256 < symK s ^ (2 * symR s + 1)
  · have hc : chkP s = some ([(ruleOp, 0)], 4) := by unfold chkP; rw [if_neg h1, if_neg h2, if_pos h3]
    exact (rparse_size s w A hr h1' h2' h3).mono fun e w' ⟨b, he, hl, hb⟩ => parseA_bad hc he (Chn.one hl) hb
  have h3' := Nat.le_of_not_lt h3
  cases h4 : parseBad (bsOf (restS s)) with
  | some y =>
    have hc : chkP s = some ([(ruleOp, 4), (natOp, (y.1 : Int))], y.2) := by unfold chkP; rw [if_neg h1, if_neg h2, if_neg h3, h4]
    exact (rparse_num s w A hr h1' h2' h3' y.1 y.2 h4).mono fun e w' ⟨b, b', he, hl, hb⟩ => parseA_bad hc he ⟨ruleOp, 4, [(b', natOp, (y.1 : Int))], rfl, hl⟩ hb
  | none =>
    by_cases h5 : symK s ^ (symK s ^ (2 * symR s + 1)) ≤ numOf (bsOf (restS s))
    · have hc : chkP s = some ([(ruleOp, 4)], 3) := by unfold chkP; rw [if_neg h1, if_neg h2, if_neg h3, h4]; exact if_pos h5
      exact (rparse_from s w A hr h1' h2' h3' h4 h5).mono fun e w' ⟨b, he, hl, hb⟩ => parseA_bad hc he (Chn.one hl) hb
    · have hc : chkP s = none := by unfold chkP; rw [if_neg h1, if_neg h2, if_neg h3, h4]; exact if_neg h5
      exact (rparse_ok s w h1' h2' h3' h4 (Nat.lt_of_not_le h5)).mono fun e w' ⟨t, ho, hcd, p, c, he, ho', hb⟩ => ⟨_, _, t, p, c, _, by unfold ParseIs; rw [hc]; exact ⟨rfl, rfl, ho, hcd⟩, he, ho', by rw [hc]; rfl, hb⟩
theorem numOk_parse {l : List Nat} {y : Nat × Nat} (h : parseBad l = some y) : y.2 ≠ 0 := by
  unfold parseBad at h
  split at h
  · obtain rfl := Option.some.inj h; simp
  · split at h
    · obtain rfl := Option.some.inj h; simp
    · split at h
      · obtain rfl := Option.some.inj h; simp
      · split at h
        · obtain rfl := Option.some.inj h; simp
        · cases h
theorem parse_b (s : ByteArray) (w : World) : Calls Tryz.prog 10 #[.string s] w (ParseB w s) := by
  by_cases h1 : 8192 < s.size
  · have hc : chkP s = some ([(ruleOp, 0)], 4) := by unfold chkP; rw [if_pos h1]
    exact (rparse_ref_big s w h1).mono fun e w' ⟨v, he, g, g', hv, _, hw, hb⟩ => by subst hv; exact parseB_bad hc he rfl hw hb
  have h1' : s.size ≤ 8192 := Nat.le_of_not_lt h1
  by_cases h2 : fwT s < 4
  · have hc : chkP s = some ([(ruleOp, (fwT s : Int))], 6) := by unfold chkP; rw [if_neg h1, if_pos h2]
    exact (rparse_ref_head s w h1' h2).mono fun e w' ⟨v, he, g, g', hv, _, hw, hb⟩ => by subst hv; exact parseB_bad hc he rfl hw hb
  have h2' : fwT s = 4 := Nat.le_antisymm (fwT_le s) (Nat.le_of_not_lt h2)
  by_cases h3 : 256 < symK s ^ (2 * symR s + 1)
  · have hc : chkP s = some ([(ruleOp, 0)], 4) := by unfold chkP; rw [if_neg h1, if_neg h2, if_pos h3]
    exact (rparse_ref_size s w h1' h2' h3).mono fun e w' ⟨v, he, g, g', hv, _, hw, hb⟩ => by subst hv; exact parseB_bad hc he rfl hw hb
  have h3' := Nat.le_of_not_lt h3
  cases h4 : parseBad (bsOf (restS s)) with
  | some y =>
    have hc : chkP s = some ([(ruleOp, 4), (natOp, (y.1 : Int))], y.2) := by unfold chkP; rw [if_neg h1, if_neg h2, if_neg h3, h4]
    exact (rparse_ref_num s w h1' h2' h3' y.1 y.2 (numOk_parse h4) h4).mono fun e w' ⟨go, ga, co, ca, he, hw, hb⟩ => parseB_bad hc he rfl hw hb
  | none =>
    by_cases h5 : symK s ^ (symK s ^ (2 * symR s + 1)) ≤ numOf (bsOf (restS s))
    · have hc : chkP s = some ([(ruleOp, 4)], 3) := by unfold chkP; rw [if_neg h1, if_neg h2, if_neg h3, h4]; exact if_pos h5
      exact (rparse_ref_from s w h1' h2' h3' h4 h5).mono fun e w' ⟨v, he, g, g', hv, _, hw, hb⟩ => by subst hv; exact parseB_bad hc he rfl hw hb
    · have hc : chkP s = none := by unfold chkP; rw [if_neg h1, if_neg h2, if_neg h3, h4]; exact if_neg h5
      exact (rparse_ref_ok s w h1' h2' h3' h4 (Nat.lt_of_not_le h5)).mono fun e w' ⟨t, p, c, ho, hcd, he, ho', hb⟩ => ⟨_, _, t, p, c, 0, none, none, 0, 0, 0, by unfold ParseIs; rw [hc]; exact ⟨rfl, rfl, ho, hcd⟩, he, ho', by rw [hc]; exact ⟨rfl, rfl, rfl, rfl, rfl, rfl⟩, hb⟩
theorem is_wch {w : World} {A : Nat → Addr} {x : Option (List (ByteArray × Int) × Nat)} {v : Value} {a : Int} {po pa : Option Addr} {n co ca : Nat} (hr : Roots w A) (hT : TypeVar w) (hx : ∀ y, x = some y → 1 ≤ y.2 ∧ y.2 ≤ 11) (h : PChn w A x v) (h' : WCh w x a po pa n co ca) :
    Calls Tryz.prog 11 #[v, .agg #[.int .i64 a, .slice po n co, .slice pa n ca]] w (Tells (.bool true) w) := by
  cases x with
  | none =>
    obtain ⟨rfl, rfl, rfl, rfl, rfl, rfl⟩ := h'
    obtain rfl : v = .nilIface := h
    exact Is_none none none 0 0 0 0 w
  | some y =>
    obtain ⟨rfl, hn, hw⟩ := h'
    obtain ⟨b, rfl, op, pl, bs, hL, hl⟩ := h
    have hL2 : List.map Prod.snd ((b, op, pl) :: bs) = y.1 := hL
    exact Is_chain ((b, op, pl) :: bs) y.2 (hx y rfl) po pa n co ca w A hr hT hl (by rw [hL2]; exact hw) (by rw [hn, ← hL2, List.length_map])
/-- what Text tells -/
def txN (k r : Int) (t : List Int) : ByteArray := match chkS k r t with
  | some _ => ⟨#[]⟩
  | none => ruleText k.toNat r.toNat (codeR k.toNat t)
def chkX (k r : Int) (t : List Int) : Option (List (ByteArray × Int) × Nat) := (chkS k r t).map fun y => ([(ruleOp, (y.1 : Int))], y.2)
def TextA (w : World) (A : Nat → Addr) (k r : Int) (t : List Int) (e : Ending) (w' : World) : Prop :=
  ∃ v, e = .returned (.tuple #[.string (txN k r t), v]) ∧ PChn w' A (chkX k r t) v ∧ Below w.heap.size w w'
def TextB (w : World) (k r : Int) (t : List Int) (e : Ending) (w' : World) : Prop :=
  ∃ a po pa n co ca, e = .returned (.tuple #[.string (txN k r t), .agg #[.int .i64 a, .slice po n co, .slice pa n ca]]) ∧ WCh w' (chkX k r t) a po pa n co ca ∧ Below w.heap.size w w'
theorem text_a (k r : Int) (p : Option Addr) (n c : Nat) (t : List Int) (w : World) (A : Nat → Addr) (hr : Roots w A) (hn : n = t.length) (h : IntV w.heap.size w p c t) :
    Calls Tryz.prog 7 #[.agg #[.int .i64 k, .int .i64 r, .slice p n c]] w (TextA w A k r t) := by
  cases hc : chkS k r t with
  | some y =>
    exact (rtext_bad k r p n c t w A hr hn h y.1 y.2 hc).mono fun e w' ⟨b, he, hl, hb⟩ => ⟨_, by unfold txN; rw [hc]; exact he, by unfold chkX; rw [hc]; exact ⟨b, rfl, Chn.one hl⟩, hb⟩
  | none =>
    obtain ⟨K, R, rfl, rfl, ho, hs⟩ := chkS_none hc
    exact (rtext_ok K R p n c t w hn h ho hs (codeText_size ho hs)).mono fun e w' ⟨he, hb⟩ => ⟨_, by unfold txN; rw [hc]; exact he, by unfold chkX; rw [hc]; rfl, hb⟩
theorem text_b (k r : Int) (p : Option Addr) (n c : Nat) (t : List Int) (w : World) (hn : n = t.length) (h : IntV w.heap.size w p c t) :
    Calls Tryz.prog 8 #[.agg #[.int .i64 k, .int .i64 r, .slice p n c]] w (TextB w k r t) := by
  cases hc : chkS k r t with
  | some y =>
    exact (rtext_ref_bad k r p n c t w hn h y.1 y.2 (chkS_num hc) hc).mono fun e w' ⟨v, he, g, g', hv, _, hw, hb⟩ => by
      subst hv
      exact ⟨_, _, _, _, _, _, by unfold txN; rw [hc]; exact he, by unfold chkX; rw [hc]; exact ⟨rfl, rfl, hw⟩, hb⟩
  | none =>
    obtain ⟨K, R, rfl, rfl, ho, hs⟩ := chkS_none hc
    exact (rtext_ref_ok K R p n c t w hn h ho (by omega) (codeText_size ho hs)).mono fun e w' ⟨he, hb⟩ => ⟨0, none, none, 0, 0, 0, by unfold txN; rw [hc]; show e = .returned (.tuple #[.string (ruleText K R (codeR K t)), noErr]); rw [ruleText_eq K R _ ho.k4 ho.r3]; exact he, by unfold chkX; rw [hc]; exact ⟨rfl, rfl, rfl, rfl, rfl, rfl⟩, hb⟩
end Go.Proofs.YtgdjnohhofbcnaaGreatDoor
end
section
namespace Go.Proofs.YtgdjnohhofbcnaaGreatDoor
open Go.RowKit Go.Extern.Stop Go.Stop Go.Extern WordM RuleM NatM

theorem bsOf_app (a b : ByteArray) : bsOf (a ++ b) = bsOf a ++ bsOf b := by
  unfold bsOf
  rw [ByteArray.data_append, Array.toList_append, List.map_append]
theorem bsOf_head {K R : Nat} (hK : K ≤ 4) (hR : R ≤ 3) : bsOf (strOfNums ((headT K R).map fun (b : Nat) => (b : Int))) = headT K R := by
  apply bsOf_strOfNums
  intro x hx
  simp [headT] at hx
  omega
theorem bsOf_rule {K R N : Nat} (hK : K ≤ 4) (hR : R ≤ 3) : bsOf (ruleText K R N) = [48 + K, 46, 48 + R, 46] ++ bsOf (textOf N) := by
  rw [ruleText_eq K R N hK hR]
  unfold refText
  rw [bsOf_app, bsOf_head hK hR]; rfl
theorem rule_bytes {K R N : Nat} (hK : K ≤ 4) (hR : R ≤ 3) : byteS (ruleText K R N) 0 = 48 + K ∧ byteS (ruleText K R N) 1 = 46 ∧ byteS (ruleText K R N) 2 = 48 + R ∧ byteS (ruleText K R N) 3 = 46 := by
  unfold byteS
  rw [bsOf_rule hK hR]
  exact ⟨rfl, rfl, rfl, rfl⟩
theorem rule_size {K R N : Nat} (hK : K ≤ 4) (hR : R ≤ 3) : (ruleText K R N).size = 4 + (textOf N).size := by
  rw [← bsOf_length, bsOf_rule hK hR, List.length_append, bsOf_length]; rfl
theorem rule_fw {K R N : Nat} (h1 : 1 ≤ K) (hK : K ≤ 4) (hR : R ≤ 3) : fwT (ruleText K R N) = 4 := by
  obtain ⟨a, b, c, d⟩ := rule_bytes (N := N) hK hR
  unfold fwT fwS
  rw [a, b, c, d, rule_size hK hR, if_neg (by omega), if_neg (by omega), if_neg (by omega), if_neg (by omega)]
theorem rule_sym {K R N : Nat} (hK : K ≤ 4) (hR : R ≤ 3) : symK (ruleText K R N) = K ∧ symR (ruleText K R N) = R := by
  obtain ⟨a, b, c, d⟩ := rule_bytes (N := N) hK hR
  unfold symK symR
  rw [a, c]
  omega
theorem rule_rest {K R N : Nat} (hK : K ≤ 4) (hR : R ≤ 3) : bsOf (restS (ruleText K R N)) = bsOf (textOf N) := by
  have h : bsOf (restS (ruleText K R N)) = (bsOf (ruleText K R N)).drop 4 := by
    obtain ⟨T, hT⟩ : ∃ T, ruleText K R N = T := ⟨_, rfl⟩
    rw [hT]
    unfold restS bsOf
    rw [ByteArray.data_extract, Array.toList_extract]
    show List.map _ ((T.data.toList.drop 4).take (T.size - 4)) = _
    rw [List.take_of_length_le (by rw [List.length_drop, Array.length_toList]; exact Nat.le_refl _), List.map_drop]
  rw [h, bsOf_rule hK hR]
  rfl
/-- the text that a rule has reads again -/
theorem rule_num {K R N : Nat} (hK : K ≤ 4) (hR : R ≤ 3) : numOf (bsOf (restS (ruleText K R N))) = N := by
  rw [rule_rest hK hR, show bsOf (textOf N) = (decL N).map (48 + ·) from ?_]
  · exact (dec_back N).1
  · have e : textOf N = strOfNums (((decL N).map (48 + ·)).map fun (d : Nat) => (d : Int)) := by unfold textOf; rw [List.map_map]; rfl
    rw [e]
    apply bsOf_strOfNums
    intro x hx
    have := isDig_iff.1 ((dec_back N).2.1 x hx)
    omega
theorem parseBad_dec {N : Nat} (h : (textOf N).size ≤ 1200) : parseBad (bsOf (textOf N)) = none := by
  have e : textOf N = strOfNums (((decL N).map (48 + ·)).map fun (d : Nat) => (d : Int)) := by unfold textOf; rw [List.map_map]; rfl
  have hb : bsOf (textOf N) = (decL N).map (48 + ·) := by
    rw [e]
    apply bsOf_strOfNums
    intro x hx
    have := isDig_iff.1 ((dec_back N).2.1 x hx)
    omega
  rw [← bsOf_length, hb] at h
  rw [hb]
  obtain ⟨_, h2, h3, h4⟩ := dec_back N
  have hf : ((decL N).map (48 + ·)).findIdx? (fun b => !isDig b) = none := List.findIdx?_eq_none_iff.2 fun b hb => by rw [h2 b hb]; rfl
  unfold parseBad
  rw [if_neg (by omega), if_neg (by omega), hf]
  simp only
  rw [if_neg h4]
theorem codeText_1000 {K R : Nat} {t : List Int} (ho : OkR K R t) (hs : t.length ≤ 256) : (textOf (codeR K t)).size ≤ 1000 := by
  have h : codeR K t < 10 ^ 1000 := by
    refine Nat.lt_of_lt_of_le (code_lt ho) (Nat.le_trans (Nat.pow_le_pow_left ho.k4 _) (Nat.le_trans (Nat.pow_le_pow_right (by omega) (show K ^ (2 * R + 1) ≤ 256 by rw [← ho.len]; exact hs)) (by decide +kernel)))
  exact textOf_size (by omega) h
/-- what Text writes, Parse takes -/
theorem rule_chkP {K R : Nat} {t : List Int} (ho : OkR K R t) (hs : t.length ≤ 256) : chkP (ruleText K R (codeR K t)) = none := by
  have hk := ho.k4
  have hr := ho.r3
  have hz := codeText_1000 ho hs
  have hsz := rule_size (N := codeR K t) hk hr
  have hfw := rule_fw (N := codeR K t) ho.k1 hk hr
  obtain ⟨e1, e2⟩ := rule_sym (N := codeR K t) hk hr
  have hrest := rule_rest (N := codeR K t) hk hr
  have hnum := rule_num (N := codeR K t) hk hr
  have hlt := code_lt ho
  have hlen := ho.len
  unfold chkP
  rw [if_neg (by omega), if_neg (by omega), e1, e2, if_neg (by rw [← hlen]; omega), hnum, hrest, parseBad_dec (by omega)]
  exact if_neg (Nat.not_le.2 hlt)
theorem rest_bytes (T : ByteArray) : bsOf (restS T) = (bsOf T).drop 4 := by
  unfold restS bsOf
  rw [ByteArray.data_extract, Array.toList_extract]
  show List.map _ ((T.data.toList.drop 4).take (T.size - 4)) = _
  rw [List.take_of_length_le (by rw [List.length_drop, Array.length_toList]; exact Nat.le_refl _), List.map_drop]
/-- what Parse takes, Text writes again -/
theorem text_again {s : ByteArray} (h : chkP s = none) : ruleText (symK s) (symR s) (numOf (bsOf (restS s))) = s := by
  have hf : fwT s = 4 := by
    have := fwT_le s
    unfold chkP at h
    split at h
    · cases h
    · split at h
      · cases h
      · omega
  have hp : parseBad (bsOf (restS s)) = none := by
    unfold chkP at h
    split at h
    · cases h
    · split at h
      · cases h
      · split at h
        · cases h
        · split at h
          · cases h
          · assumption
  obtain ⟨k1, k4, r3⟩ := sym_range hf
  obtain ⟨h4s, ⟨b0, b0'⟩, b1, ⟨b2, b2'⟩, b3⟩ := fwT_four hf
  have hdig : bsOf (textOf (numOf (bsOf (restS s)))) = bsOf (restS s) := by
    obtain ⟨h2, h3, h4⟩ : 0 < (bsOf (restS s)).length ∧ (∀ b ∈ bsOf (restS s), isDig b = true) ∧ ¬ (1 < (bsOf (restS s)).length ∧ (bsOf (restS s))[0]? = some 48) := by
      unfold parseBad at hp
      split at hp
      · cases hp
      · split at hp
        · cases hp
        · split at hp
          · cases hp
          · rename_i hj
            split at hp
            · cases hp
            · rename_i hz
              exact ⟨by omega, fun b hb => by simpa using findIdx_none hj b hb, hz⟩
    have hr := dec_read h3 h2 h4
    obtain ⟨N, hN⟩ : ∃ N, numOf (bsOf (restS s)) = N := ⟨_, rfl⟩
    rw [hN] at hr ⊢
    have e : textOf N = strOfNums (((decL N).map (48 + ·)).map fun (d : Nat) => (d : Int)) := by unfold textOf; rw [List.map_map]; rfl
    rw [e, hr, strOfNums_bsOf]
  have hb : bsOf (ruleText (symK s) (symR s) (numOf (bsOf (restS s)))) = bsOf s := by
    rw [bsOf_rule k4 r3, hdig, rest_bytes]
    have hl : 4 ≤ (bsOf s).length := by rw [bsOf_length]; exact h4s
    have e0 : [48 + symK s, 46, 48 + symR s, 46] = (bsOf s).take 4 := by
      unfold symK symR
      unfold byteS at b0 b0' b1 b2 b2' b3 ⊢
      match hbs : bsOf s, hl with
      | a :: b :: c :: d :: l, _ =>
        rw [hbs] at b0 b0' b1 b2 b2' b3
        simp at b0 b0' b1 b2 b2' b3
        simp
        omega
    rw [e0, List.take_append_drop]
  have h1 := strOfNums_bsOf (ruleText (symK s) (symR s) (numOf (bsOf (restS s))))
  rw [hb, strOfNums_bsOf] at h1
  exact h1.symm
theorem ParseIs.unique {s : ByteArray} {K R K' R' : Int} {t t' : List Int} (h : ParseIs s K R t) (h' : ParseIs s K' R' t') : K = K' ∧ R = R' ∧ t = t' := by
  unfold ParseIs at h h'
  cases hc : chkP s with
  | some y =>
    rw [hc] at h h'
    obtain ⟨rfl, rfl, rfl⟩ := h
    obtain ⟨rfl, rfl, rfl⟩ := h'
    exact ⟨rfl, rfl, rfl⟩
  | none =>
    rw [hc] at h h'
    obtain ⟨rfl, rfl, h1, h2⟩ := h
    obtain ⟨rfl, rfl, h3, h4⟩ := h'
    exact ⟨rfl, rfl, code_inj h1 h3 (by rw [h2, h4])⟩
/-- read back from its own text: the rule -/
theorem ParseIs.back {K R : Nat} {t t' : List Int} {K' R' : Int} (ho : OkR K R t) (hs : t.length ≤ 256) (h : ParseIs (ruleText K R (codeR K t)) K' R' t') : K' = K ∧ R' = R ∧ t' = t := by
  unfold ParseIs at h
  rw [rule_chkP ho hs] at h
  obtain ⟨e1, e2⟩ := rule_sym (N := codeR K t) ho.k4 ho.r3
  have hnum := rule_num (N := codeR K t) ho.k4 ho.r3
  rw [e1, e2, hnum] at h
  exact ⟨h.1, h.2.1, code_inj h.2.2.1 ho h.2.2.2⟩
theorem numOk_chkP {s : ByteArray} : ∀ y, chkP s = some y → 1 ≤ y.2 ∧ y.2 ≤ 11 := fun y h => by
  unfold chkP at h
  split at h
  · obtain rfl := Option.some.inj h; simp
  · split at h
    · obtain rfl := Option.some.inj h; simp
    · split at h
      · obtain rfl := Option.some.inj h; simp
      · split at h
        · rename_i z hz
          obtain rfl := Option.some.inj h
          unfold parseBad at hz
          split at hz
          · obtain rfl := Option.some.inj hz; simp
          · split at hz
            · obtain rfl := Option.some.inj hz; simp
            · split at hz
              · obtain rfl := Option.some.inj hz; simp
              · split at hz
                · obtain rfl := Option.some.inj hz; simp
                · cases hz
        · split at h
          · obtain rfl := Option.some.inj h; simp
          · cases h
end Go.Proofs.YtgdjnohhofbcnaaGreatDoor
end
section
namespace Go.Proofs.YtgdjnohhofbcnaaGreatDoor
open Go.ChangeShapes Go.WideShapes Go.ChangeAt Go.RowKit WordM RuleM

theorem fld_int {H : Type} {enc : TypeId × Value → H} {W : World} {n : Nat} {c : Value} {y : DataW H × List MemPlace} (h : DataW.trod enc Tryz.prog W 0 (fun _ => true) true n 3 [c] = some y) : ∃ x : Int, c = .int .i64 x ∧ -9223372036854775808 ≤ x ∧ x ≤ 9223372036854775807 := by
  obtain ⟨x, hx, _, hw⟩ := DataW.trod_int Tryz.underlying3 h
  exact ⟨x, by simpa using hx, wf_i64 hw⟩
theorem fld_ints {H : Type} {enc : TypeId × Value → H} {W : World} {n : Nat} {c : Value} {y : DataW H × List MemPlace} (h : DataW.trod enc Tryz.prog W 0 (fun _ => true) true n 22 [c] = some y) (hlt : ∀ x ∈ y.2, x.block < W.heap.size) (hw : ∀ x ∈ y.1.weights Tryz.prog 22, x ≤ reachBytes) :
    ∃ (a : Option Addr) (cap : Nat) (l : List Int), c = .slice a l.length cap ∧ IntV W.heap.size W a cap l ∧ okI l ∧ l.length ≤ 17592186043904 := by
  have hs : ∃ a len cap, c = .slice a len cap := by
    rcases Go.Deep.open_slice Tryz.underlying22 h with ⟨hcs, _⟩ | ⟨a, len, cap, _, _, _, _, hcs, _⟩
    · exact ⟨none, 0, 0, by simpa using hcs⟩
    · exact ⟨some a, len, cap, by simpa using hcs⟩
  have ht : DataW.Trod enc Tryz.prog W 0 (fun _ => true) true 22 c y.1 y.2 := by
    refine ⟨n, ?_⟩
    obtain ⟨a, len, cap, rfl⟩ := hs
    simpa [Value.cells] using h
  obtain ⟨a, cap, l, rfl, h1, h2⟩ := open_intl hs ht hlt
  exact ⟨a, cap, l, rfl, h1, h2, open_reach ht hw⟩
theorem cellsRule3 : Tryz.prog.cellsOf 24 = 3 := by kernel_rfl
set_option maxRecDepth 100000 in
/-- a rule that came in: its table's length is in reach -/
theorem open_rule {H : Type} {enc : TypeId × Value → H} {W : World} {v : Value} {d : DataW H} {p : List MemPlace} {r : Reach} {b0 : Nat} (hv : Value.okWide Tryz.prog W r b0 24 v)
    (h : DataW.Trod enc Tryz.prog W 0 (fun _ => true) true 24 v d p) (hlt : ∀ x ∈ p, x.block < W.heap.size) (hw : ∀ x ∈ d.weights Tryz.prog 24, x ≤ reachBytes) :
    ∃ (k r : Int) (a : Option Addr) (cap : Nat) (l : List Int), v = .agg #[.int .i64 k, .int .i64 r, .slice a l.length cap] ∧ IntV W.heap.size W a cap l ∧ l.length ≤ 17592186043904 := by
  obtain ⟨v0, v1, v2, y0, y1, y2, n, rfl, rfl, rfl, h0, h1, h2⟩ := Go.Joins.open_agg3 Tryz.underlying24 (by kernel_rfl) cellsRule3 hv h
  obtain ⟨k, rfl, _⟩ := fld_int h0
  obtain ⟨q, rfl, _⟩ := fld_int h1
  obtain ⟨a, cap, l, rfl, h3, _, h4⟩ := fld_ints h2 (fun x hx => hlt x (by simp [hx])) (fun x hx => hw x (by
    unfold DataW.weights
    rw [Tryz.underlying24]
    exact weights_get _ _ 2 _ _ rfl rfl x hx))
  exact ⟨k, q, a, cap, l, rfl, h3, h4⟩
end Go.Proofs.YtgdjnohhofbcnaaGreatDoor
end
section
namespace Go.Proofs.YtgdjnohhofbcnaaGreatDoor
open Go.ChangeShapes Go.WideShapes Go.ChangeAt Go.RowKit NatM

theorem cells32_1 : Tryz.prog.cellsOf 94 = 1 := by kernel_rfl
theorem wf_u32 {n : Int} (h : (Lit.int .u32 n).wf = true) : 0 ≤ n ∧ n < 4294967296 := by
  have := bounds_u32 h
  omega
theorem open_nat {H : Type} {enc : TypeId × Value → H} {W : World} {v : Value} {d : DataW H} {p : List MemPlace} (hok : ∃ a len cap, v = .slice a len cap)
    (h : DataW.Trod enc Tryz.prog W 0 (fun _ => true) true 44 v d p) (hlt : ∀ x ∈ p, x.block < W.heap.size) :
    ∃ (a : Option Addr) (cap : Nat) (l : List Nat), v = .slice a l.length cap ∧ NatV W.heap.size W a cap l := by
  obtain ⟨a0, len, cap, rfl⟩ := hok
  obtain ⟨fuel, hf⟩ := h
  rcases open_ints Tryz.underlying44 Tryz.underlying94 cells32_1 hf with ⟨hcs, _⟩ | ⟨a, len', cap', zs, hcs, _, hl, hm, hz, hx, hcell, hwf⟩
  · simp [Value.cells] at hcs
    obtain ⟨rfl, rfl, rfl⟩ := hcs
    exact ⟨none, 0, [], rfl, okB_nil _, Nat.le_refl _, Nat.zero_le _, fun _ => rfl, fun h => absurd rfl h⟩
  · simp [Value.cells] at hcs
    obtain ⟨rfl, rfl, rfl⟩ := hcs
    simp only [if_true] at hz
    obtain ⟨rfl, rfl⟩ := Prod.mk.inj hx
    have hlen : ((zs.take len).map Int.toNat).length = len := by rw [List.length_map, List.length_take]; omega
    refine ⟨some a, cap, (zs.take len).map Int.toNat, by rw [hlen], ?_, by rw [hlen]; exact hl, hm, (fun h => by cases h), fun hn => ?_⟩
    · intro x hx
      obtain ⟨z, hz, rfl⟩ := List.mem_map.1 hx
      have := wf_u32 (hwf z (List.mem_of_mem_take hz))
      omega
    · obtain ⟨b, off, spot⟩ := a
      have h0 : 0 < zs.length := by
        have := List.length_pos_iff.2 hn
        rw [hlen] at this
        omega
      have hspot : spot = none := by simpa [Addr.add] using World.cell?_spot (hcell 0 h0)
      subst hspot
      refine ⟨b, off, rfl, hlt (.cell b off) (MemPlace.mem_row.2 ⟨0, h0, by simp⟩), fun j x hx => ?_⟩
      have hj := get_lt hx
      rw [hlen] at hj
      have hjz : j < zs.length := by omega
      have hc := hcell j hjz
      have hw := wf_u32 (hwf _ (List.getElem_mem hjz))
      have e : zs.getD j 0 = (x : Int) := by
        rw [List.getElem?_map, List.getElem?_take, if_pos hj, List.getElem?_eq_getElem hjz] at hx
        have := Option.some.inj hx
        rw [List.getD_eq_getElem?_getD, List.getElem?_eq_getElem hjz]
        show zs[j] = _
        omega
      rw [e, add_plain] at hc
      exact hc
end Go.Proofs.YtgdjnohhofbcnaaGreatDoor
end
section
namespace Go.Proofs.YtgdjnohhofbcnaaGreatDoor
open Go.ChangeShapes Go.WideShapes Go.ChangeAt Go.RowKit

def tabled (l : List (String × DataW Unit)) : List (String × DataW Unit) := ("math/bits.deBruijn32tab", Rows.laid_math_bits_deBruijn32tab) :: ("math/bits.deBruijn64tab", Rows.laid_math_bits_deBruijn64tab) :: ("internal/strconv.uint64pow10", Rows.laid_internal_strconv_uint64pow10) :: l
theorem roots_of_tabled {W : World} (h : laidMetH Tryz.prog (tabled thirteen) W) : ∃ A, Roots W A ∧ TypeVar W := by
  have h' : laidMet Tryz.prog (tabled twelve) W ∧ handlesMet Tryz.prog [("errors.errorType", Rows.laid_errors_errorType)] W := h
  obtain ⟨A, hA⟩ := roots_of_twelve h'.1.tail.tail.tail
  exact ⟨A, hA, typeVar_of_handle h'.2⟩
theorem roots_of_tabled12 {W : World} (h : laidMetH Tryz.prog (tabled twelve) W) : ∃ A, Roots W A := by
  have h' : laidMet Tryz.prog (tabled twelve) W := h
  exact roots_of_twelve h'.tail.tail.tail
/-- The cells of a table's datum. -/
def flatCellB (d : DataW Unit) : Value := match d with
  | .lit (.int k n) => .int k n
  | _ => .nilIface
def flatB (d : DataW Unit) : List Value := match d with
  | .agg l => l.map flatCellB
  | _ => []
def layCellsB (vs : List Value) (o : Obj) : Obj := match o with
  | .cells _ t frozen => .cells vs.toArray t frozen
  | o => o
noncomputable def laidWorldT (os : Os) : World :=
  { laidWorld os with heap := ((((laidWorld os).heap.modify 15 (layCellsB (flatB Rows.laid_math_bits_deBruijn32tab))).modify 16 (layCellsB (flatB Rows.laid_math_bits_deBruijn64tab)))).modify 14 (layCellsB (flatB Rows.laid_internal_strconv_uint64pow10)) }
end Go.Proofs.YtgdjnohhofbcnaaGreatDoor
end
