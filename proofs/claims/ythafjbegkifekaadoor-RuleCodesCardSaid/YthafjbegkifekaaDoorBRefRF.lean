/- The document's own package of rules by its contracts: Code. -/
import Derived.Test.YthafjbegkifekaaDoorBRefRC
import Derived.Test.YthafjbegkifekaaDoorBRefH
import Derived.Test.YthafjbegkifekaaDoorB3
import Derived.Deep.RegionHeld3
import Derived.Deep.DrawnRows
namespace Go.Proofs.YthafjbegkifekaaDoor
open Go.RowKit Go.Extern.Stop Go.Stop Go.Extern WordM RuleM NatM
attribute [local go_sem ↓] Go.wp_at_zero Go.wp_at_succ

theorem small_ref_bad (k r : Int) (p : Option Addr) (n c : Nat) (t : List Int) (w : World) (hn : n = t.length) (h : IntV w.heap.size w p c t) (i m : Nat) (hc : chkS k r t = some (i, m)) :
    Calls Tryd.prog 17 #[.agg #[.int .i64 k, .int .i64 r, .slice p n c]] w (RefErrR1 w i m) := by
  unfold chkS at hc
  split at hc
  · obtain ⟨rfl, rfl⟩ := Prod.mk.inj (Option.some.inj hc)
    rename_i hcr
    exact small_ref_fault k r p n c t w hn h _ hcr
  · rename_i hcr
    split at hc
    · obtain ⟨rfl, rfl⟩ := Prod.mk.inj (Option.some.inj hc)
      obtain ⟨K, R, rfl, rfl, ho⟩ := chkR_none hcr
      exact small_ref_big K R p n c t w hn h ho (by omega)
    · cases hc
def CodeRel (w : World) (K n : Nat) (tr : List Int) (v5 v6 : Value) (wr : World) : Prop :=
  ∃ (j : Nat) (q : Option Addr) (cq : Nat), j ≤ n ∧ v6 = .int .i64 ((j : Int) - 1) ∧ v5 = .slice q (D32 (valW K (tr.take (n - j)))).length cq ∧ NatO w.heap.size wr q cq (D32 (valW K (tr.take (n - j)))) ∧ Below w.heap.size w wr
set_option maxRecDepth 100000 in
set_option maxHeartbeats 8000000 in
theorem code_ref_ok (K R : Nat) (p : Option Addr) (n c : Nat) (t : List Int) (w : World) (hn : n = t.length) (h : IntV w.heap.size w p c t) (ho : OkR K R t) (hn256 : n ≤ 256) :
    Calls Tryd.prog 28 #[.agg #[.int .i64 (K : Int), .int .i64 (R : Int), .slice p n c]] w (RefOk2 w (codeR K t)) := by
  have h4 := ho.k4
  have h1 := ho.k1
  have hnpos : 1 ≤ n := by rw [hn, ho.len]; exact pow_pos h1
  have hcap := h.cap
  have hle := h.le
  unfold maxLen at hcap
  have hnc : n ≤ c := by omega
  have hwk : IntKind.u64.wrap (K : Int) = (K : Int) := by rw [IntKind.wrap_u64]; omega
  have hw1 : IntKind.i64.wrap ((n : Int) - 1) = (n : Int) - 1 := by rw [IntWalk.i64_in _ (by omega)]
  obtain ⟨tr, htr⟩ : ∃ tr, t.reverse = tr := ⟨_, rfl⟩
  have htl : tr.length = n := by rw [← htr, List.length_reverse, hn]
  have hto : okW K tr := by rw [← htr]; exact ho.rev
  have hget : ∀ i, i < n → tr[n - (i + 1)]? = t[i]? := fun i hi => by
    rw [← htr, List.getElem?_reverse (by omega)]
    congr 1
    omega
  have hcode : codeR K t = valW K tr := by unfold codeR; rw [htr]
  rw [hcode]
  have HW := Lib.hid (And.intro htl (And.intro hto hget))
  have H := Lib.hid (And.intro h (And.intro hn ho))
  clear h hn ho htr htl hto hget hcode hcap hle
  go_enter Tryd.func28, Tryd.ntmps28
  go_upto_region 1 with fail
  obtain ⟨w0, hw0⟩ : ∃ w0, w0 = (w.alloc (.cells #[.int .i64 (K : Int), .int .i64 (R : Int), .slice p n c] 24)).alloc (.cells #[.int .i64 0, .slice none 0 0, .slice none 0 0] 33) := ⟨_, rfl⟩
  obtain ⟨hb0, hR0, hE0⟩ := start_both w _ _ _ w0 hw0
  rw [← hw0]
  have hszb : (w.alloc (.cells #[.int .i64 (K : Int), .int .i64 (R : Int), .slice p n c] 24)).heap.size = w.heap.size + 1 := by simp
  obtain ⟨_, hr0, hr1, hr2⟩ := hR0.facts
  have HE := Lib.hid (And.intro hR0 (And.intro hE0 hb0))
  clear hw0 hR0 hE0 hb0
  go_wp2_with fail
  have hck : Calls Tryd.prog 17 #[.agg #[.int .i64 (K : Int), .int .i64 (R : Int), .slice p n c]] w0 (Tells (.agg #[.int .i64 0, .slice none 0 0, .slice none 0 0]) w0) := small_ref_ok K R p n c t w0 H.out.2.1 (H.out.1.next HE.out.2.2) H.out.2.2 hn256
  refine hck.mono ?_
  clear hck
  rintro e w1 ⟨rfl, hb1⟩
  obtain ⟨wB, hwB⟩ : ∃ x, x = w1.alloc (.cells #[.int .i64 0, .slice none 0 0, .slice none 0 0] 33) := ⟨_, rfl⟩
  have hbB : Below w1.heap.size w1 wB := by rw [hwB]; exact (Below.refl _ _).alloc (Nat.le_refl _) _
  have hEB : Err3 wB w1.heap.size (.int .i64 0) (.slice none 0 0) (.slice none 0 0) := by rw [hwB]; exact ⟨heap_newN w1 _⟩
  have hRB := (HE.out.1.next hb1).next hbB
  have hE1 := (HE.out.2.1.next hb1).next hbB
  have hbw : Below w.heap.size w wB := (HE.out.2.2.trans (hb1.mono HE.out.2.2.size)).trans (hbB.mono (Nat.le_trans HE.out.2.2.size hb1.size))
  clear hr0 hr1 hr2
  obtain ⟨_, hk0, hk1, hk2⟩ := hEB.facts
  have H1 := Lib.hid (And.intro hRB (And.intro hE1 hbw))
  clear hb1 hbB hEB hE1 hbw hRB
  go_upto_region 2 with fail
  rw [← hwB]
  clear hwB
  go_wp2_with fail
  refine (bad_no (.slice none 0 0) (.slice none 0 0) wB).mono ?_
  rintro e wq ⟨rfl, hbq⟩
  have hRq := H1.out.1.next hbq
  have hEq := H1.out.2.1.next hbq
  clear hk0 hk1 hk2
  obtain ⟨_, hr0, hr1, hr2⟩ := hRq.facts
  have hltq := hEq.lt
  have HQ := Lib.hid (And.intro hEq (And.intro (H1.out.2.2.trans (hbq.mono H1.out.2.2.size)) hRq))
  clear hbq hRq hEq
  go_wp2_with fail
  go_loopw [5, 6] (fun v5 v6 wr => CodeRel wq K n tr v5 v6 wr) (fun _ v _ => (intOf v + 1).toNat)
  case atStart => exact ⟨n, none, 0, Nat.le_refl _, rfl, by rw [Nat.sub_self, List.take_zero, show valW K [] = 0 from rfl, D32_nil.2 rfl]; rfl, by rw [Nat.sub_self, List.take_zero, show valW K [] = 0 from rfl, D32_nil.2 rfl]; exact NatO.nothing _ _, Below.refl _ _⟩
  case round =>
    obtain ⟨j, q, cq, hj, rfl, rfl, hoq, hb⟩ := hrel
    have hRr := HQ.out.2.2.next hb
    have hbw := HQ.out.2.1.trans (hb.mono HQ.out.2.1.size)
    clear hr0 hr1 hr2
    obtain ⟨_, hr0, hr1, hr2⟩ := hRr.facts
    rcases Nat.eq_zero_or_pos j with rfl | hj0
    · have he : tr.take (n - 0) = tr := by rw [Nat.sub_zero, ← HW.out.1, List.take_length]
      rw [he] at hoq ⊢
      have hE := HQ.out.1.next hb
      obtain ⟨⟨hf0, hf1, hf2⟩, hc0, hc1, hc2⟩ := hE.facts
      have HF := Lib.hid (And.intro hoq hbw)
      clear hoq hb he hbw hRr hE
      go_wp2_with fail
      refine bodyPost_ret (v := .tuple #[.slice q (D32 (valW K tr)).length cq, noErr]) (by simp [results, Tryd.results28, go_sem, hc0, hc1, hc2, noErr]) rfl ⟨_, _, rfl, ?_, ?_⟩
      · exact (HF.out.1.put3 hltq _ _ _).base (by omega)
      · exact put3_below HF.out.2 (Nat.le_succ _) _ _ _
    · obtain ⟨i, rfl⟩ : ∃ i, j = i + 1 := ⟨j - 1, by omega⟩
      have e1 : (((i + 1 : Nat) : Int) - 1) = (i : Int) := by omega
      rw [e1]
      have hnl := H.out.2.1
      obtain ⟨b, off, rfl, hbb, hcc⟩ := H.out.1.cell (by rintro rfl; simp at hnl; omega)
      obtain ⟨x, hx⟩ := getI (l := t) (k := i) (by omega)
      have hcx : ∀ wx : World, Below wr.heap.size wr wx → wx.cell? ⟨b, off + i, none⟩ = some (.int .i64 x) := fun wx hbx => ((hbw.trans (hbx.mono hbw.size)).cell (p := ⟨b, off + i, none⟩) hbb).trans (hcc i x hx)
      have hxo := H.out.2.2.ok x (List.mem_of_getElem? hx)
      obtain ⟨y, rfl⟩ : ∃ y : Nat, x = (y : Int) := ⟨x.toNat, by omega⟩
      have hgx := (HW.out.2.2 i (by omega)).trans hx
      have hst := valW_take (k := K) hgx
      rw [Int.toNat_natCast, show n - (i + 1) + 1 = n - i by omega] at hst
      have hvl := valW_len h4 (okW_take HW.out.2.1 (n - (i + 1)))
      have hvl2 := valW_len h4 (okW_take HW.out.2.1 (n - i))
      rw [List.length_take] at hvl hvl2
      obtain ⟨v, hv⟩ : ∃ v, valW K (tr.take (n - (i + 1))) = v := ⟨_, rfl⟩
      rw [hv] at hoq hst hvl ⊢
      have hy4 : y ≤ 4 := by omega
      have hvl' : (D32 v).length ≤ 100000 := by omega
      have hvm : (D32 (v * K)).length ≤ 100000 := by
        have h1 : v * K ≤ v * K + y := Nat.le_add_right _ _
        rw [hst] at hvl2
        rcases Nat.lt_or_ge 100000 (D32 (v * K)).length with h2 | h2
        · have := cmp_len (m := v * K + y) (n := v * K) (by omega)
          omega
        · exact h2
      have hwy : IntKind.u64.wrap (y : Int) = (y : Int) := by rw [IntKind.wrap_u64]; omega
      have hkl : (D32 K).length ≤ 100000 := by
        have := D32_len (n := K) (k := 1) (by omega)
        omega
      have hyl : (D32 y).length ≤ 100000 := by
        have := D32_len (n := y) (k := 1) (by omega)
        omega
      have hf1 : ∀ wx : World, Below wr.heap.size wr wx → Calls Tryd.prog 55 #[.int .u64 (K : Int)] wx (NatPost wx K) := fun wx _ => from_ref K wx (by omega)
      have hf2 : ∀ (wx : World) (pa : Option Addr) (ca : Nat), Below wr.heap.size wr wx → NatV wx.heap.size wx pa ca (D32 K) → Calls Tryd.prog 54 #[.slice q (D32 v).length cq, .slice pa (D32 K).length ca] wx (NatPost wx (v * K)) := fun wx pa ca hbx hk => by
        have := mul_ref q pa cq ca (D32 v) (D32 K) wx (hoq.next hbx).toV hk (by omega) (by omega)
        rwa [V32_D32, V32_D32] at this
      have hf3 : ∀ wx : World, Below wr.heap.size wr wx → Calls Tryd.prog 55 #[.int .u64 (y : Int)] wx (NatPost wx y) := fun wx _ => from_ref y wx (by omega)
      have hf4 : ∀ (wx : World) (pa pb : Option Addr) (ca cb : Nat), NatV wx.heap.size wx pa ca (D32 (v * K)) → NatV wx.heap.size wx pb cb (D32 y) → Calls Tryd.prog 53 #[.slice pa (D32 (v * K)).length ca, .slice pb (D32 y).length cb] wx (NatPost wx (v * K + y)) := fun wx pa pb ca cb h1 h2 => by
        have := add_ref pa pb ca cb (D32 (v * K)) (D32 y) wx h1 h2 (by omega) (by omega)
        rwa [V32_D32, V32_D32] at this
      have hxA : ∀ wx : World, Below wr.heap.size wr wx → wx.cell? ⟨w.heap.size, 0, none⟩ = some (.int .i64 (K : Int)) := fun wx hbx => (hRr.next hbx).facts.2.1
      have hxC : ∀ wx : World, Below wr.heap.size wr wx → wx.cell? ⟨w.heap.size, 2, none⟩ = some (.slice (some ⟨b, off, none⟩) n c) := fun wx hbx => (hRr.next hbx).facts.2.2.2
      have hd0 : Below wr.heap.size wr wr.drew := (Below.refl _ _).drew
      have hin : i < n := by omega
      have hin' : (i : Int) < (n : Int) := by omega
      have HS := Lib.hid (And.intro hst hb)
      clear hcc hx hxo hst hvl hvl2 hv hoq hb hvm hnl hvl' hkl hyl hgx hbw hRr e1
      go_wp2_with fail
      go_region_held3 (fun w' => w'.cell? ⟨w.heap.size, 0, none⟩ = some (.int .i64 (K : Int)) ∧ w'.cell? ⟨w.heap.size, 2, none⟩ = some (.slice (some ⟨b, off, none⟩) n c) ∧ w'.cell? ⟨b, off + i, none⟩ = some (.int .i64 (y : Int))) (first | exact ⟨hxA _ (by assumption), hxC _ (by assumption), hcx _ (by assumption)⟩ | exact ⟨hxA _ (Below.refl _ _), hxC _ (Below.refl _ _), hcx _ (Below.refl _ _)⟩ | go_keep) (first
        | (go_at_call 55; have hhb := hBb; refine (hf3 _ hBb).mono ?_; rintro e wc ⟨pc, cc, rfl, hoc, hbc⟩; have hBc : Below wr.heap.size wr wc := hBb.trans (hbc.mono hBb.size))
        | (go_at_call 55; refine (hf1 _ (by first | assumption | exact Below.refl _ _)).mono ?_; rintro e wa ⟨pa, ca, rfl, hoa, hba⟩; have hBa : Below wr.heap.size wr wa := (by first | exact hba | exact hd0.trans (hba.mono hd0.size)))
        | (go_at_call 54; refine (hf2 _ pa ca hBa hoa.toV).mono ?_; rintro e wb ⟨pb, cb, rfl, hob, hbb'⟩; have hBb : Below wr.heap.size wr wb := hBa.trans (hbb'.mono hBa.size))
        | (go_at_call 53; refine (hf4 _ pb pc cb cc (hob.next hbc).toV hoc.toV).mono ?_; rintro e wd ⟨pd, cd, rfl, hod, hbd⟩; have hBd : Below wr.heap.size wr wd := hBc.trans (hbd.mono hBc.size)))
      all_goals
        have HF := Lib.hid (And.intro (hod.base (Nat.le_trans HS.out.2.size hBc.size)) (HS.out.2.trans (hBd.mono HS.out.2.size)))
        have hj1 : i ≤ n := by omega
        have wi1 : IntKind.i64.wrap ((i : Int) - 1) = (i : Int) - 1 := by rw [IntWalk.i64_in _ (by omega)]
        clear hf1 hf2 hf3 hf4 hxA hxC hcx hba hbb' hbc hbd hBa hBb hBc hBd hoa hob hoc hod
        go_wp2_with fail
        go_roundw
        case rel => exact ⟨i, pd, cd, hj1, rfl, by rw [HS.out.1], by rw [HS.out.1]; exact HF.out.1, HF.out.2⟩
        case measure => simp [intOf]

set_option maxRecDepth 100000 in
set_option maxHeartbeats 8000000 in
theorem code_ref_bad (k r : Int) (p : Option Addr) (n c : Nat) (t : List Int) (w : World) (hn : n = t.length) (h : IntV w.heap.size w p c t) (i m : Nat) (hm : m ≠ 0) (hc : chkS k r t = some (i, m)) :
    Calls Tryd.prog 28 #[.agg #[.int .i64 k, .int .i64 r, .slice p n c]] w (RefErrR2 w (.slice none 0 0) i m) := by
  have H := Lib.hid (And.intro h (And.intro hn hc))
  clear h hn hc
  go_enter Tryd.func28, Tryd.ntmps28
  go_upto_region 1 with fail
  obtain ⟨w0, hw0⟩ : ∃ w0, w0 = (w.alloc (.cells #[.int .i64 k, .int .i64 r, .slice p n c] 24)).alloc (.cells #[.int .i64 0, .slice none 0 0, .slice none 0 0] 33) := ⟨_, rfl⟩
  obtain ⟨hb0, hR0, hE0⟩ := start_both w _ _ _ w0 hw0
  rw [← hw0]
  have hszb : (w.alloc (.cells #[.int .i64 k, .int .i64 r, .slice p n c] 24)).heap.size = w.heap.size + 1 := by simp
  obtain ⟨_, hr0, hr1, hr2⟩ := hR0.facts
  have HE := Lib.hid (And.intro hR0 (And.intro hE0 hb0))
  clear hw0 hR0 hE0 hb0
  go_wp2_with fail
  refine (small_ref_bad k r p n c t w0 H.out.2.1 (H.out.1.next HE.out.2.2) i m H.out.2.2).mono ?_
  rintro e w1 ⟨v, rfl, g, g', rfl, ⟨hg1, hg2⟩, hw, hb1⟩
  obtain ⟨wB, hwB⟩ : ∃ x, x = w1.alloc (.cells #[.int .i64 (m : Int), .slice (some ⟨g, 0, none⟩) 1 1, .slice (some ⟨g', 0, none⟩) 1 1] 33) := ⟨_, rfl⟩
  have hbB : Below w1.heap.size w1 wB := by rw [hwB]; exact (Below.refl _ _).alloc (Nat.le_refl _) _
  have hEB : Err3 wB w1.heap.size (.int .i64 (m : Int)) (.slice (some ⟨g, 0, none⟩) 1 1) (.slice (some ⟨g', 0, none⟩) 1 1) := by rw [hwB]; exact ⟨heap_newN w1 _⟩
  have hE1 := (HE.out.2.1.next hb1).next hbB
  have hlt0 := HE.out.2.1.lt
  have hbw : Below w.heap.size w wB := (HE.out.2.2.trans (hb1.mono HE.out.2.2.size)).trans (hbB.mono (Nat.le_trans HE.out.2.2.size hb1.size))
  have hs1 := hb1.size
  clear hr0 hr1 hr2
  obtain ⟨_, hk0, hk1, hk2⟩ := hEB.facts
  have H1 := Lib.hid (And.intro hE1 (And.intro hEB (And.intro hbw (hw.next hbB))))
  clear hb1 hbB hEB hE1 hbw hw
  go_upto_region 2 with fail
  rw [← hwB]
  clear hwB
  go_wp2_with fail
  refine (bad_yes (m : Int) (by omega) (.slice (some ⟨g, 0, none⟩) 1 1) (.slice (some ⟨g', 0, none⟩) 1 1) wB).mono ?_
  rintro e wq ⟨rfl, hbq⟩
  obtain ⟨⟨hf0, hf1, hf2⟩, hc0, hc1, hc2⟩ := (H1.out.1.next hbq).facts
  obtain ⟨_, hg0, hg1', hg2'⟩ := (H1.out.2.1.next hbq).facts
  have HQ := Lib.hid (And.intro (H1.out.2.2.1.trans (hbq.mono H1.out.2.2.1.size)) (H1.out.2.2.2.next hbq))
  clear hbq hk0 hk1 hk2
  have hne : w1.heap.size ≠ w.heap.size + 1 := by omega
  go_wp2_with fail
  go_region
  go_wp2_with fail
  refine bodyPost_ret (v := .tuple #[.slice none 0 0, .agg #[.int .i64 (m : Int), .slice (some ⟨g, 0, none⟩) 1 1, .slice (some ⟨g', 0, none⟩) 1 1]]) (by simp [results, Tryd.results28, go_sem, hc0, hc1, hc2]) rfl ⟨_, rfl, g, g', rfl, ⟨by omega, by omega⟩, ?_, ?_⟩
  · exact (HQ.out.2.put3 (by omega) (by omega) _ _ _).next (Below.refl _ _).drew
  · exact (put3_below HQ.out.1 (Nat.le_succ _) _ _ _).drew
end Go.Proofs.YthafjbegkifekaaDoor
