/- The document's own package of rules by its contracts: From. -/
import Derived.Test.YthafjbegkifekaaDoorBRefRA
import Derived.Test.YthafjbegkifekaaDoorBRefWE
import Derived.Test.YthafjbegkifekaaDoorB3
import Derived.Test.YthafjbegkifekaaDoorBRefI
import Derived.Test.YthafjbegkifekaaDoorBRefJ
namespace Go.Proofs.YthafjbegkifekaaDoor
open Go.RowKit Go.Extern.Stop Go.Stop Go.Extern WordM RuleM NatM

/-- what Pow tells, the error written out -/
def PowOutR (w : World) (N : Nat) (e : Ending) (w' : World) : Prop :=
  ∃ p c, e = .returned (.tuple #[.slice p (D32 N).length c, .agg #[.int .i64 0, .slice none 0 0, .slice none 0 0]]) ∧ NatO w.heap.size w' p c (D32 N) ∧ Below w.heap.size w w'
def SizeOutR (w : World) (n : Nat) (e : Ending) (w' : World) : Prop := e = .returned (.tuple #[.int .i64 (n : Int), .agg #[.int .i64 0, .slice none 0 0, .slice none 0 0]]) ∧ Below w.heap.size w w'
def OverOutR (w : World) (q d : Nat) (e : Ending) (w' : World) : Prop :=
  ∃ p c, e = .returned (.tuple #[.slice p (D32 q).length c, .int .u32 ((d : Nat) : Int), .agg #[.int .i64 0, .slice none 0 0, .slice none 0 0]]) ∧ NatO w.heap.size w' p c (D32 q) ∧ Below w.heap.size w w'
theorem Rul3.setOther {w : World} {h : Nat} {a b c : Value} (k : Rul3 w h a b c) (g i : Nat) (hg : g ≠ h) (v : Value) : Rul3 (w.setCell ⟨g, i, none⟩ v) h a b c := ⟨by
  show (w.heap.modify g _)[h]? = _
  rw [Array.getElem?_modify, if_neg hg]
  exact k.heap⟩
theorem Rul3.putOther {w : World} {h : Nat} {a b c : Value} (k : Rul3 w h a b c) (g : Nat) (hg : g ≠ h) (x y z : Value) : Rul3 (put3 w g x y z) h a b c := ((k.setOther g 0 hg x).setOther g 1 hg y).setOther g 2 hg z
theorem D32_small {K S : Nat} (h4 : K ≤ 4) (hS : S ≤ 256) : (D32 (K ^ S)).length ≤ 300 :=
  Nat.le_trans (D32_len (k := S + 1) (Nat.lt_of_le_of_lt (Nat.pow_le_pow_left (Nat.le_trans h4 (by omega)) S) (Nat.pow_lt_pow_right (by omega) (by omega)))) (by omega)

/-- the rule with this number, and no error -/
def FromRef (w : World) (k r i : Nat) (e : Ending) (w' : World) : Prop :=
  ∃ t p c, OkR k r t ∧ codeR k t = i ∧ e = .returned (.tuple #[.agg #[.int .i64 (k : Int), .int .i64 (r : Int), .slice p t.length c], noErr]) ∧ IntO w.heap.size w' p c t ∧ Below w.heap.size w w'
def FromRefRel (wK : World) (K R S V : Nat) (v13 v14 : Value) (wr : World) : Prop :=
  ∃ (i X : Nat) (q : Option Addr) (cq : Nat) (x : List Int), i ≤ S ∧ v14 = .int .i64 (i : Int) ∧ v13 = .slice q (D32 X).length cq ∧ NatV wr.heap.size wr q cq (D32 X) ∧ (D32 X).length ≤ 100000 ∧
    x.length = i ∧ okW K x ∧ valW K x.reverse + K ^ i * X = V ∧ IntO wK.heap.size wr (some ⟨wK.heap.size, 0, none⟩) S (x ++ List.replicate (S - i) 0) ∧ Rul3 wr (wK.heap.size + 1) (.int .i64 (K : Int)) (.int .i64 (R : Int)) (.slice (some ⟨wK.heap.size, 0, none⟩) S S) ∧ Below wK.heap.size wK wr
set_option maxRecDepth 100000 in
set_option maxHeartbeats 8000000 in
theorem from_ref_ok (K R : Nat) (p : Option Addr) (al c : Nat) (a : List Nat) (w : World) (hal : a.length = al) (h : NatV w.heap.size w p c a) (hl : a.length ≤ 1000) (h1 : 1 ≤ K) (h4 : K ≤ 4) (h3 : R ≤ 3) (hs : K ^ (2 * R + 1) ≤ 256) (hlt : V32 a < K ^ (K ^ (2 * R + 1))) :
    Calls Tryd.prog 30 #[.int .i64 (K : Int), .int .i64 (R : Int), .slice p al c] w (FromRef w K R (V32 a)) := by
  have hsz : ∀ W, Calls Tryd.prog 12 #[.int .i64 (K : Int), .int .i64 (R : Int)] W (SizeOutR W (K ^ (2 * R + 1))) := fun W => size_ref_ok K R W h1 h4 h3
  obtain ⟨S, hS⟩ : ∃ S, K ^ (2 * R + 1) = S := ⟨_, rfl⟩
  rw [hS] at hs hlt
  simp only [hS] at hsz
  have HZ := Lib.hid hsz
  have hpw : ∀ W, Calls Tryd.prog 57 #[.int .u32 (K : Int), .int .i64 (S : Int)] W (PowOutR W (K ^ S)) := fun W => pow_ref K S (by omega) (by omega) W
  have hpl := D32_small h4 hs
  have hltp := hlt
  obtain ⟨PW, hPW⟩ : ∃ PW, K ^ S = PW := ⟨_, rfl⟩
  rw [hPW] at hpl hlt
  simp only [hPW] at hpw
  have HW := Lib.hid hpw
  have H := Lib.hid (And.intro h (And.intro hl (And.intro hpl (cmp_lt hlt))))
  have HV := Lib.hid (And.intro hltp hS)
  have hwk : IntKind.u32.wrap (K : Int) = (K : Int) := by rw [IntKind.wrap_u32]; omega
  have hs' : ¬ (256 : Int) < (S : Int) := by omega
  have hmk := makeI S (by omega)
  clear hsz hpw hPW hlt hpl h hl hltp hS
  go_enter Tryd.func30, Tryd.ntmps30
  go_upto_region 1 with fail
  obtain ⟨w0, hw0⟩ : ∃ w0, w0 = (w.alloc (.cells #[.int .i64 0, .int .i64 0, .slice none 0 0] 24)).alloc (.cells #[.int .i64 0, .slice none 0 0, .slice none 0 0] 33) := ⟨_, rfl⟩
  obtain ⟨hb0, hR0, hE0⟩ := start_both w _ _ _ w0 hw0
  rw [← hw0]
  have hszb : (w.alloc (.cells #[.int .i64 0, .int .i64 0, .slice none 0 0] 24)).heap.size = w.heap.size + 1 := by simp
  have HE := Lib.hid (And.intro hR0 (And.intro hE0 hb0))
  clear hw0 hR0 hE0 hb0
  go_wp2_with fail
  refine (HZ.out w0).mono ?_
  rintro e w1 ⟨rfl, hb1⟩
  obtain ⟨wB, hwB⟩ : ∃ x, x = w1.alloc (.cells #[.int .i64 0, .slice none 0 0, .slice none 0 0] 33) := ⟨_, rfl⟩
  have hbB : Below w1.heap.size w1 wB := by rw [hwB]; exact (Below.refl _ _).alloc (Nat.le_refl _) _
  have hEB : Err3 wB w1.heap.size (.int .i64 0) (.slice none 0 0) (.slice none 0 0) := by rw [hwB]; exact ⟨heap_newN w1 _⟩
  have hRB := (HE.out.1.next hb1).next hbB
  have hE1 := (HE.out.2.1.next hb1).next hbB
  have hbw : Below w.heap.size w wB := (HE.out.2.2.trans (hb1.mono HE.out.2.2.size)).trans (hbB.mono (Nat.le_trans HE.out.2.2.size hb1.size))
  obtain ⟨_, hk0, hk1, hk2⟩ := hEB.facts
  have H1 := Lib.hid (And.intro hRB (And.intro hE1 hbw))
  clear hb1 hbB hEB hE1 hbw hRB
  go_upto_region 2 with fail
  rw [← hwB]
  clear hwB
  go_wp2_with fail
  refine (bad_no (.slice none 0 0) (.slice none 0 0) wB).mono ?_
  rintro e wq ⟨rfl, hbq⟩
  have HQ := Lib.hid (And.intro (H1.out.1.next hbq) (And.intro (H1.out.2.1.next hbq) (H1.out.2.2.trans (hbq.mono H1.out.2.2.size))))
  clear hbq hk0 hk1 hk2
  go_wp2_with fail
  refine (HW.out wq).mono ?_
  rintro e w5 ⟨p5, c5, rfl, ho5, hb5⟩
  go_upto_region 7 with fail
  obtain ⟨wP, hwP⟩ : ∃ x, x = w5.alloc (.cells #[.int .i64 0, .slice none 0 0, .slice none 0 0] 33) := ⟨_, rfl⟩
  have hbP : Below w5.heap.size w5 wP := by rw [hwP]; exact (Below.refl _ _).alloc (Nat.le_refl _) _
  rw [← hwP]
  have hqP := hb5.trans (hbP.mono hb5.size)
  have HP := Lib.hid (And.intro (HQ.out.1.next hqP) (And.intro (HQ.out.2.1.next hqP) (And.intro (HQ.out.2.2.trans (hqP.mono HQ.out.2.2.size)) (ho5.next hbP).toV)))
  clear hwP hbP hqP ho5 hb5
  go_wp2_with fail
  have hcmp := cmp_ref p p5 c c5 a (D32 PW) wP (H.out.1.next HP.out.2.2.1) HP.out.2.2.2 (by have := H.out.2.1; omega) (by have := H.out.2.2.1; omega)
  rw [V32_D32, H.out.2.2.2] at hcmp
  rw [hal] at hcmp
  refine hcmp.mono ?_
  clear hcmp
  rintro e wK ⟨rfl, hbK⟩
  have hK1 := HP.out.1.next hbK
  have hK2 := HP.out.2.1.next hbK
  have HK := Lib.hid (And.intro hK1 (And.intro hK2 (HP.out.2.2.1.trans (hbK.mono HP.out.2.2.1.size))))
  clear hbK hK1 hK2
  go_wp2_with fail
  have hmk1 := hmk wK
  clear hmk
  go_upto_region 10 with fail
  have hO0 := IntO.made wK S (by omega)
  have hbm : Below wK.heap.size wK (wK.alloc (.cells (madeCells #[.int .i64 0] S) 3)) := (Below.refl _ _).alloc (Nat.le_refl _) _
  have hsm : (wK.alloc (.cells (madeCells #[.int .i64 0] S) 3)).heap.size = wK.heap.size + 1 := by simp
  obtain ⟨wM, hwM⟩ : ∃ x, x = (wK.alloc (.cells (madeCells #[.int .i64 0] S) 3)).alloc (.cells #[.int .i64 (K : Int), .int .i64 (R : Int), .slice (some ⟨wK.heap.size, 0, none⟩) S S] 24) := ⟨_, rfl⟩
  have hbM : Below (wK.alloc (.cells (madeCells #[.int .i64 0] S) 3)).heap.size (wK.alloc (.cells (madeCells #[.int .i64 0] S) 3)) wM := by rw [hwM]; exact (Below.refl _ _).alloc (Nat.le_refl _) _
  have hEM := Rul3.new (wK.alloc (.cells (madeCells #[.int .i64 0] S) 3)) (.int .i64 (K : Int)) (.int .i64 (R : Int)) (.slice (some ⟨wK.heap.size, 0, none⟩) S S)
  rw [← hwM, hsm] at hEM
  rw [← hwM]
  have hOM := hO0.next hbM
  have hKM : Below wK.heap.size wK wM := hbm.trans (hbM.mono (by omega))
  have HM := Lib.hid (And.intro hEM (And.intro hOM hKM))
  clear hEM hOM hKM hbM hwM hsm hbm hO0 hmk1
  go_wp2_with fail
  have hnorm := norm_any p c a wM ((H.out.1.next HK.out.2.2).next HM.out.2.2) (by have := H.out.2.1; omega)
  rw [hal] at hnorm
  refine hnorm.mono ?_
  clear hnorm
  rintro e w9 ⟨p9, c9, rfl, ho9, hb9⟩
  have H9 := Lib.hid (And.intro ho9.toV (And.intro (HM.out.1.next hb9) (And.intro (HM.out.2.1.next hb9) (HM.out.2.2.trans (hb9.mono HM.out.2.2.size)))))
  clear ho9 hb9
  obtain ⟨V, hV⟩ : ∃ V, V32 a = V := ⟨_, rfl⟩
  rw [hV]
  have HVV := Lib.hid hV
  clear hV
  go_wp2_with fail
  go_loopw [13, 14] (fun v13 v14 wr => FromRefRel wK K R S V v13 v14 wr) (fun _ v _ => S - (intOf v).toNat)
  case atStart => exact ⟨0, V, p9, c9, [], Nat.zero_le _, rfl, rfl, by rw [← HVV.out]; exact H9.out.1, Nat.le_trans (by rw [← HVV.out]; exact D32_le H.out.1.ok) (by have := H.out.2.1; omega), rfl, okW_nil K, by simp [valW], by simpa using H9.out.2.2.1, H9.out.2.1, H9.out.2.2.2⟩
  case round =>
    obtain ⟨i, X, q, cq, x, hi, rfl, rfl, hq, hql, hxl, hxo, hxv, ho, hbx, hb⟩ := hrel
    by_cases hlt : i < S
    · have hov : Calls Tryd.prog 60 #[.slice q (D32 X).length cq, .int .u32 (K : Int)] wr (OverOutR wr (X / K) (X % K)) := by
        have := over_ref q cq (D32 X) K wr hq (by omega) (by omega) (by omega)
        rw [V32_D32] at this
        exact this
      have hdl : X % K < K := Nat.mod_lt _ (by omega)
      have hst := at_step (k := K) (p := i) (i := X) (i0 := V) (l := x.reverse) (by rw [List.length_reverse, hxl]) hxv
      obtain ⟨D, hD⟩ : ∃ D, X % K = D := ⟨_, rfl⟩
      obtain ⟨Q, hQ⟩ : ∃ Q, X / K = Q := ⟨_, rfl⟩
      have hQl : (D32 Q).length ≤ 100000 := by
        have h1 : Q ≤ X := by rw [← hQ]; exact Nat.div_le_self _ _
        rcases Nat.lt_or_ge 100000 (D32 Q).length with h2 | h2
        · have := cmp_len (m := X) (n := Q) (by omega)
          omega
        · exact h2
      rw [hD] at hov hdl hst
      rw [hQ] at hov hst
      have HR := Lib.hid (And.intro hov (And.intro hst (And.intro hxl (And.intro hxo (And.intro ho (And.intro hbx (And.intro hb hQl)))))))
      have hD4 : D < 4 := by omega
      have HDK := Lib.hid hdl
      clear hov hst hxl hxo ho hbx hb hq hxv hD hQ hql hQl hdl
      go_wp2_with fail
      refine HR.out.1.mono ?_
      rintro e wO ⟨pO, cO, rfl, hoO, hbO⟩
      go_upto_region 15 with fail
      obtain ⟨wS, hwS⟩ : ∃ x, x = wO.alloc (.cells #[.int .i64 0, .slice none 0 0, .slice none 0 0] 33) := ⟨_, rfl⟩
      have hbS : Below wO.heap.size wO wS := by rw [hwS]; exact (Below.refl _ _).alloc (Nat.le_refl _) _
      rw [← hwS]
      have hrS := hbO.trans (hbS.mono hbO.size)
      have hrow := HR.out.2.2.2.2.1.next hrS
      have hbox := HR.out.2.2.2.2.2.1.next hrS
      have hlen : (x ++ List.replicate (S - i) (0 : Int)).length = S := by rw [List.length_append, List.length_replicate, HR.out.2.2.1]; omega
      have hset : ∀ v : Int, (x ++ List.replicate (S - i) (0 : Int)).set i v = x ++ [v] ++ List.replicate (S - (i + 1)) 0 := fun v => by
        obtain ⟨m, hm⟩ : ∃ m, S - i = m + 1 := ⟨S - i - 1, by omega⟩
        rw [hm, show S - (i + 1) = m by omega, List.replicate_succ, List.set_append_right _ _ (by rw [HR.out.2.2.1]; omega), HR.out.2.2.1, Nat.sub_self]
        simp
      obtain ⟨xs, hxs⟩ : ∃ xs, x ++ List.replicate (S - i) (0 : Int) = xs := ⟨_, rfl⟩
      rw [hxs] at hrow hlen
      simp only [hxs] at hset
      have hown : wS.ownsRow wK.heap.size 3 1 (.slice (some ⟨wK.heap.size, 0, none⟩) S S) S (cI xs) := by
        unfold IntO at hrow
        rwa [hlen] at hrow
      obtain ⟨y0, hy0⟩ := getI (l := xs) (k := i) (by omega)
      have hcy : wS.cell? ⟨wK.heap.size, i, none⟩ = some (.int .i64 y0) := (hown.cellAt i (by omega)).trans (cI_get hy0)
      have hfy : wS.frozen? ⟨wK.heap.size, i, none⟩ = false := hown.frozenAt i
      obtain ⟨s1, _⟩ := hown.stored i (.int .i64 (D : Int))
      rw [← cI_set, hset] at s1
      obtain ⟨_, hk0, hk1, hk2⟩ := hbox.facts
      have hltg : wK.heap.size < wr.heap.size := by have := HR.out.2.2.2.2.2.1.lt; omega
      have hbox2 := hbox.setOther wK.heap.size i (by omega) (.int .i64 (D : Int))
      have hbK2 : Below wK.heap.size wK (wS.setCell ⟨wK.heap.size, i, none⟩ (.int .i64 (D : Int))) := (HR.out.2.2.2.2.2.2.1.trans (hrS.mono HR.out.2.2.2.2.2.2.1.size)).setCell (p := ⟨wK.heap.size, i, none⟩) (Nat.le_refl _) _
      have hq2 : NatO wr.heap.size (wS.setCell ⟨wK.heap.size, i, none⟩ (.int .i64 (D : Int))) pO cO (D32 Q) := ⟨ownsRow_setCell_below (hoO.next hbS).own (a := ⟨wK.heap.size, i, none⟩) hltg _, (hoO.next hbS).ok⟩
      have HF := Lib.hid (And.intro s1 (And.intro hbox2 (And.intro hbK2 hq2.toV)))
      clear hwS hbS hrS hrow hbox hlen hset hxs hown hy0 s1 hbox2 hbK2 hq2 hoO hbO
      go_wp2_with fail
      go_roundw
      case rel =>
        refine ⟨i + 1, Q, pO, cO, x ++ [(D : Int)], by omega, by go_num, rfl, HF.out.2.2.2, HR.out.2.2.2.2.2.2.2, by rw [List.length_append, HR.out.2.2.1]; rfl, ?_, ?_, ?_, HF.out.2.1, HF.out.2.2.1⟩
        · exact okW_app HR.out.2.2.2.1 (fun y hy => by simp at hy; have := HDK.out; omega)
        · rw [List.reverse_append]; exact HR.out.2.1
        · unfold IntO
          have : (x ++ [(D : Int)] ++ List.replicate (S - (i + 1)) (0 : Int)).length = S := by rw [List.length_append, List.length_append, List.length_replicate, HR.out.2.2.1]; simp; omega
          rw [this]; exact HF.out.1
      case measure => simp [intOf]; omega
    · obtain rfl : i = S := by omega
      have hval : valW K x.reverse = V := at_done (n := i) (i := X) (l := x.reverse) hxv (by rw [← HVV.out]; exact HV.out.1)
      have hok : OkR K R x := ⟨h1, h4, h3, by rw [hxl, HV.out.2], hxo⟩
      have hx0 : x ++ List.replicate (i - i) (0 : Int) = x := by rw [Nat.sub_self, List.replicate_zero, List.append_nil]
      rw [hx0] at ho
      obtain ⟨_, hk0, hk1, hk2⟩ := hbx.facts
      obtain ⟨⟨hf0, hf1, hf2⟩, hc0, hc1, hc2⟩ := (HK.out.2.1.next hb).facts
      obtain ⟨⟨he0, he1, he2⟩, hd0, hd1, hd2⟩ := (HK.out.1.next hb).facts
      have hlt7 : w.heap.size + 1 < wK.heap.size := HK.out.2.1.lt
      have HF := Lib.hid (And.intro hval (And.intro hok (And.intro ho (And.intro (HK.out.2.2.trans (hb.mono HK.out.2.2.size)) hxl))))
      have hne1 : wK.heap.size + 1 ≠ w.heap.size := by omega
      have hne2 : wK.heap.size + 1 ≠ w.heap.size + 1 := by omega
      clear hval hok ho hbx hb hx0 hxl hxv hxo hq hql
      go_wp2_with fail
      refine bodyPost_ret (v := .tuple #[.agg #[.int .i64 (K : Int), .int .i64 (R : Int), .slice (some ⟨wK.heap.size, 0, none⟩) i i], noErr]) (by simp [results, Tryd.results30, go_sem, hc0, hc1, hc2, hd0, hd1, hd2, noErr]) rfl ⟨x, some ⟨wK.heap.size, 0, none⟩, i, HF.out.2.1, by rw [HVV.out]; exact HF.out.1, by rw [HF.out.2.2.2.2], ?_, ?_⟩
      · exact ((HF.out.2.2.1.put3 (by omega) _ _ _).put3 hlt7 _ _ _).base (by omega)
      · exact put3_below (put3_below HF.out.2.2.2.1 (Nat.le_refl _) _ _ _) (Nat.le_succ _) _ _ _


set_option maxRecDepth 100000 in
set_option maxHeartbeats 8000000 in
theorem from_ref_bad (k r : Int) (p : Option Addr) (al c : Nat) (a : List Nat) (w : World) (hal : a.length = al) (h : NatV w.heap.size w p c a) (hl : a.length ≤ 1000) (i m : Nat) (hc : chkF k r (V32 a) = some (i, m)) :
    Calls Tryd.prog 30 #[.int .i64 k, .int .i64 r, .slice p al c] w (RefErrR2 w noRule i m) := by
  unfold chkF at hc
  split at hc
  · obtain ⟨rfl, rfl⟩ := Prod.mk.inj (Option.some.inj hc)
    rename_i hk
    have hsz := fun W => size_ref_bad k r W hk
    have HZ := Lib.hid hsz
    clear hsz hal h hl hc hk
    go_enter Tryd.func30, Tryd.ntmps30
    go_upto_region 1 with fail
    obtain ⟨w0, hw0⟩ : ∃ w0, w0 = (w.alloc (.cells #[.int .i64 0, .int .i64 0, .slice none 0 0] 24)).alloc (.cells #[.int .i64 0, .slice none 0 0, .slice none 0 0] 33) := ⟨_, rfl⟩
    obtain ⟨hb0, hR0, hE0⟩ := start_both w _ _ _ w0 hw0
    rw [← hw0]
    have hszb : (w.alloc (.cells #[.int .i64 0, .int .i64 0, .slice none 0 0] 24)).heap.size = w.heap.size + 1 := by simp
    have HE := Lib.hid (And.intro hR0 (And.intro hE0 hb0))
    clear hw0 hR0 hE0 hb0
    go_wp2_with fail
    refine (HZ.out w0).mono ?_
    rintro e w1 ⟨v, rfl, g, g', rfl, ⟨hg1, hg2⟩, hw, hb1⟩
    obtain ⟨wB, hwB⟩ : ∃ x, x = w1.alloc (.cells #[.int .i64 3, .slice (some ⟨g, 0, none⟩) 1 1, .slice (some ⟨g', 0, none⟩) 1 1] 33) := ⟨_, rfl⟩
    have hbB : Below w1.heap.size w1 wB := by rw [hwB]; exact (Below.refl _ _).alloc (Nat.le_refl _) _
    have hEB : Err3 wB w1.heap.size (.int .i64 3) (.slice (some ⟨g, 0, none⟩) 1 1) (.slice (some ⟨g', 0, none⟩) 1 1) := by rw [hwB]; exact ⟨heap_newN w1 _⟩
    have hE1 := (HE.out.2.1.next hb1).next hbB
    have hR1 := (HE.out.1.next hb1).next hbB
    have hlt0 := HE.out.2.1.lt
    have hbw : Below w.heap.size w wB := (HE.out.2.2.trans (hb1.mono HE.out.2.2.size)).trans (hbB.mono (Nat.le_trans HE.out.2.2.size hb1.size))
    have hs1 := hb1.size
    obtain ⟨_, hk0, hk1, hk2⟩ := hEB.facts
    have H1 := Lib.hid (And.intro hE1 (And.intro hEB (And.intro hbw (And.intro (hw.next hbB) hR1))))
    clear hb1 hbB hEB hE1 hbw hw hR1
    go_upto_region 2 with fail
    rw [← hwB]
    clear hwB
    go_wp2_with fail
    refine (bad_yes 3 (by omega) (.slice (some ⟨g, 0, none⟩) 1 1) (.slice (some ⟨g', 0, none⟩) 1 1) wB).mono ?_
    rintro e wq ⟨rfl, hbq⟩
    have hRq := H1.out.2.2.2.2.next hbq
    obtain ⟨⟨hf0, hf1, hf2⟩, hc0, hc1, hc2⟩ := (H1.out.1.next hbq).facts
    obtain ⟨⟨he0, he1, he2⟩, hd0, hd1, hd2⟩ := hRq.facts
    obtain ⟨_, hg0, hg1', hg2'⟩ := (H1.out.2.1.next hbq).facts
    have HQ := Lib.hid (And.intro (H1.out.2.2.1.trans (hbq.mono H1.out.2.2.1.size)) (And.intro (H1.out.2.2.2.1.next hbq) hRq))
    clear hbq hk0 hk1 hk2 hRq
    have hne : w1.heap.size ≠ w.heap.size + 1 := by omega
    have hne0 : w1.heap.size ≠ w.heap.size := by omega
    go_wp2_with fail
    go_region
    all_goals
      go_wp2_with fail
      refine bodyPost_ret (v := .tuple #[noRule, .agg #[.int .i64 3, .slice (some ⟨g, 0, none⟩) 1 1, .slice (some ⟨g', 0, none⟩) 1 1]]) (by simp [results, Tryd.results30, go_sem, hc0, hc1, hc2, hd0, hd1, hd2, noRule]) rfl ⟨_, rfl, g, g', rfl, ⟨by omega, by omega⟩, ?_, ?_⟩
      · exact ((HQ.out.2.1.put3 (h := w.heap.size) (by omega) (by omega) _ _ _).put3 (h := w.heap.size + 1) (by omega) (by omega) _ _ _).next (Below.refl _ _).drew
      · exact (put3_below (put3_below HQ.out.1 (Nat.le_refl _) _ _ _) (Nat.le_succ _) _ _ _).drew
  · rename_i hk
    obtain ⟨K, rfl⟩ : ∃ K : Nat, k = K := ⟨k.toNat, by omega⟩
    obtain ⟨R, rfl⟩ : ∃ R : Nat, r = R := ⟨r.toNat, by omega⟩
    have h1 : 1 ≤ K := by omega
    have h4 : K ≤ 4 := by omega
    have h3 : R ≤ 3 := by omega
    rw [Int.toNat_natCast, Int.toNat_natCast] at hc
    have hsz : ∀ W, Calls Tryd.prog 12 #[.int .i64 (K : Int), .int .i64 (R : Int)] W (SizeOutR W (K ^ (2 * R + 1))) := fun W => size_ref_ok K R W h1 h4 h3
    have hSle := pow_le h4 h3
    obtain ⟨S, hS⟩ : ∃ S, K ^ (2 * R + 1) = S := ⟨_, rfl⟩
    rw [hS] at hc hSle
    simp only [hS] at hsz
    have HZ := Lib.hid hsz
    split at hc
    · obtain ⟨rfl, rfl⟩ := Prod.mk.inj (Option.some.inj hc)
      have hs' : (256 : Int) < (S : Int) := by omega
      clear hsz hc hk hS h hl hal
      go_enter Tryd.func30, Tryd.ntmps30
      go_upto_region 1 with fail
      obtain ⟨w0, hw0⟩ : ∃ w0, w0 = (w.alloc (.cells #[.int .i64 0, .int .i64 0, .slice none 0 0] 24)).alloc (.cells #[.int .i64 0, .slice none 0 0, .slice none 0 0] 33) := ⟨_, rfl⟩
      obtain ⟨hb0, hR0, hE0⟩ := start_both w _ _ _ w0 hw0
      rw [← hw0]
      have hszb : (w.alloc (.cells #[.int .i64 0, .int .i64 0, .slice none 0 0] 24)).heap.size = w.heap.size + 1 := by simp
      have HE := Lib.hid (And.intro hR0 (And.intro hE0 hb0))
      clear hw0 hR0 hE0 hb0
      go_wp2_with fail
      refine (HZ.out w0).mono ?_
      rintro e w1 ⟨rfl, hb1⟩
      obtain ⟨wB, hwB⟩ : ∃ x, x = w1.alloc (.cells #[.int .i64 0, .slice none 0 0, .slice none 0 0] 33) := ⟨_, rfl⟩
      have hbB : Below w1.heap.size w1 wB := by rw [hwB]; exact (Below.refl _ _).alloc (Nat.le_refl _) _
      have hEB : Err3 wB w1.heap.size (.int .i64 0) (.slice none 0 0) (.slice none 0 0) := by rw [hwB]; exact ⟨heap_newN w1 _⟩
      have hRB := (HE.out.1.next hb1).next hbB
      have hE1 := (HE.out.2.1.next hb1).next hbB
      have hbw : Below w.heap.size w wB := (HE.out.2.2.trans (hb1.mono HE.out.2.2.size)).trans (hbB.mono (Nat.le_trans HE.out.2.2.size hb1.size))
      obtain ⟨_, hk0, hk1, hk2⟩ := hEB.facts
      have H1 := Lib.hid (And.intro hRB (And.intro hE1 hbw))
      clear hb1 hbB hEB hE1 hbw hRB
      go_upto_region 2 with fail
      rw [← hwB]
      clear hwB
      go_wp2_with fail
      refine (bad_no (.slice none 0 0) (.slice none 0 0) wB).mono ?_
      rintro e wq ⟨rfl, hbq⟩
      have HQ := Lib.hid (And.intro (H1.out.1.next hbq) (And.intro (H1.out.2.1.next hbq) (H1.out.2.2.trans (hbq.mono H1.out.2.2.size))))
      clear hbq hk0 hk1 hk2
      go_wp2_with fail
      refine (raw_fresh ruleOp 0 4 wq).mono ?_
      rintro e w2 ⟨g, g', rfl, hg, hcg, hcg', hb2⟩
      obtain ⟨⟨hf0, hf1, hf2⟩, hc0, hc1, hc2⟩ := (HQ.out.2.1.next hb2).facts
      obtain ⟨⟨he0, he1, he2⟩, hd0, hd1, hd2⟩ := (HQ.out.1.next hb2).facts
      have hs2 := put3_same (HQ.out.1.next hb2)
      have HB := Lib.hid (And.intro (RefErrR.laid (k := 4) HQ.out.2.2 (Nat.le_succ _) HQ.out.2.1.lt hg hcg hcg' hb2) hs2)
      clear hb2 hcg hcg' hg hs2
      go_wp2_with fail
      refine bodyPost_ret (v := .tuple #[noRule, .agg #[.int .i64 4, .slice (some ⟨g, 0, none⟩) 1 1, .slice (some ⟨g', 0, none⟩) 1 1]]) (by simp [results, Tryd.results30, go_sem, hc0, hc1, hc2, hd0, hd1, hd2, noRule]) rfl ⟨_, rfl, ?_⟩
      show RefErrR _ _ _ _ (put3 (put3 w2 w.heap.size _ _ _) (w.heap.size + 1) _ _ _)
      rw [HB.out.2]
      exact HB.out.1 _ _ _
    · rename_i hsm
      split at hc
      · obtain ⟨rfl, rfl⟩ := Prod.mk.inj (Option.some.inj hc)
        rename_i hge
        have hs : S ≤ 256 := by omega
        have hpw : ∀ W, Calls Tryd.prog 57 #[.int .u32 (K : Int), .int .i64 (S : Int)] W (PowOutR W (K ^ S)) := fun W => pow_ref K S (by omega) (by omega) W
        have hpl := D32_small h4 hs
        have hcv : ∃ z : Int, 0 ≤ z ∧ cmpN (V32 a) (K ^ S) = z := by
          rcases Nat.lt_or_ge (K ^ S) (V32 a) with h1 | h1
          · exact ⟨1, by omega, by rw [cmp_gt h1]⟩
          · exact ⟨0, by omega, by rw [show V32 a = K ^ S by omega, cmp_eq]⟩
        obtain ⟨z, hz0, hcz⟩ := hcv
        obtain ⟨PW, hPW⟩ : ∃ PW, K ^ S = PW := ⟨_, rfl⟩
        rw [hPW] at hpl hcz
        simp only [hPW] at hpw
        have HW := Lib.hid hpw
        have H := Lib.hid (And.intro h (And.intro hl (And.intro hpl hcz)))
        have hwk : IntKind.u32.wrap (K : Int) = (K : Int) := by rw [IntKind.wrap_u32]; omega
        have hs' : ¬ (256 : Int) < (S : Int) := by omega
        clear hsz hpw hPW hpl h hl hc hge hcz hk hS hsm hSle
        go_enter Tryd.func30, Tryd.ntmps30
        go_upto_region 1 with fail
        obtain ⟨w0, hw0⟩ : ∃ w0, w0 = (w.alloc (.cells #[.int .i64 0, .int .i64 0, .slice none 0 0] 24)).alloc (.cells #[.int .i64 0, .slice none 0 0, .slice none 0 0] 33) := ⟨_, rfl⟩
        obtain ⟨hb0, hR0, hE0⟩ := start_both w _ _ _ w0 hw0
        rw [← hw0]
        have hszb : (w.alloc (.cells #[.int .i64 0, .int .i64 0, .slice none 0 0] 24)).heap.size = w.heap.size + 1 := by simp
        have HE := Lib.hid (And.intro hR0 (And.intro hE0 hb0))
        clear hw0 hR0 hE0 hb0
        go_wp2_with fail
        refine (HZ.out w0).mono ?_
        rintro e w1 ⟨rfl, hb1⟩
        obtain ⟨wB, hwB⟩ : ∃ x, x = w1.alloc (.cells #[.int .i64 0, .slice none 0 0, .slice none 0 0] 33) := ⟨_, rfl⟩
        have hbB : Below w1.heap.size w1 wB := by rw [hwB]; exact (Below.refl _ _).alloc (Nat.le_refl _) _
        have hEB : Err3 wB w1.heap.size (.int .i64 0) (.slice none 0 0) (.slice none 0 0) := by rw [hwB]; exact ⟨heap_newN w1 _⟩
        have hRB := (HE.out.1.next hb1).next hbB
        have hE1 := (HE.out.2.1.next hb1).next hbB
        have hbw : Below w.heap.size w wB := (HE.out.2.2.trans (hb1.mono HE.out.2.2.size)).trans (hbB.mono (Nat.le_trans HE.out.2.2.size hb1.size))
        obtain ⟨_, hk0, hk1, hk2⟩ := hEB.facts
        have H1 := Lib.hid (And.intro hRB (And.intro hE1 hbw))
        clear hb1 hbB hEB hE1 hbw hRB
        go_upto_region 2 with fail
        rw [← hwB]
        clear hwB
        go_wp2_with fail
        refine (bad_no (.slice none 0 0) (.slice none 0 0) wB).mono ?_
        rintro e wq ⟨rfl, hbq⟩
        have HQ := Lib.hid (And.intro (H1.out.1.next hbq) (And.intro (H1.out.2.1.next hbq) (H1.out.2.2.trans (hbq.mono H1.out.2.2.size))))
        clear hbq hk0 hk1 hk2
        go_wp2_with fail
        refine (HW.out wq).mono ?_
        rintro e w5 ⟨p5, c5, rfl, ho5, hb5⟩
        go_upto_region 7 with fail
        obtain ⟨wP, hwP⟩ : ∃ x, x = w5.alloc (.cells #[.int .i64 0, .slice none 0 0, .slice none 0 0] 33) := ⟨_, rfl⟩
        have hbP : Below w5.heap.size w5 wP := by rw [hwP]; exact (Below.refl _ _).alloc (Nat.le_refl _) _
        rw [← hwP]
        have hqP := hb5.trans (hbP.mono hb5.size)
        have HP := Lib.hid (And.intro (HQ.out.1.next hqP) (And.intro (HQ.out.2.1.next hqP) (And.intro (HQ.out.2.2.trans (hqP.mono HQ.out.2.2.size)) (ho5.next hbP).toV)))
        clear hwP hbP hqP ho5 hb5
        go_wp2_with fail
        have hcmp := cmp_ref p p5 c c5 a (D32 PW) wP (H.out.1.next HP.out.2.2.1) HP.out.2.2.2 (by have := H.out.2.1; omega) (by have := H.out.2.2.1; omega)
        rw [V32_D32, H.out.2.2.2] at hcmp
        rw [hal] at hcmp
        refine hcmp.mono ?_
        clear hcmp
        rintro e wK ⟨rfl, hbK⟩
        have hK1 := HP.out.1.next hbK
        have hK2 := HP.out.2.1.next hbK
        have HK := Lib.hid (And.intro hK1 (And.intro hK2 (HP.out.2.2.1.trans (hbK.mono HP.out.2.2.1.size))))
        clear hbK hK1 hK2
        go_wp2_with fail
        refine (raw_fresh ruleOp 1 3 wK).mono ?_
        rintro e w2 ⟨g, g', rfl, hg, hcg, hcg', hb2⟩
        obtain ⟨⟨hf0, hf1, hf2⟩, hc0, hc1, hc2⟩ := (HK.out.2.1.next hb2).facts
        obtain ⟨⟨he0, he1, he2⟩, hd0, hd1, hd2⟩ := (HK.out.1.next hb2).facts
        have hs2 := put3_same (HK.out.1.next hb2)
        have HB := Lib.hid (And.intro (RefErrR.laid (k := 3) HK.out.2.2 (Nat.le_succ _) HK.out.2.1.lt hg hcg hcg' hb2) hs2)
        clear hb2 hcg hcg' hg hs2
        go_wp2_with fail
        refine bodyPost_ret (v := .tuple #[noRule, .agg #[.int .i64 3, .slice (some ⟨g, 0, none⟩) 1 1, .slice (some ⟨g', 0, none⟩) 1 1]]) (by simp [results, Tryd.results30, go_sem, hc0, hc1, hc2, hd0, hd1, hd2, noRule]) rfl ⟨_, rfl, ?_⟩
        show RefErrR _ _ _ _ (put3 (put3 w2 w.heap.size _ _ _) (w.heap.size + 1) _ _ _)
        rw [HB.out.2]
        exact HB.out.1 _ _ _
      · cases hc
end Go.Proofs.YthafjbegkifekaaDoor
