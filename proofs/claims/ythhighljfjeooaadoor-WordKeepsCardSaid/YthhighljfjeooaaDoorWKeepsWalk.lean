/- WordKeeps: its walk: whatever the list and the number, it answers true and old memory stays. -/
import Derived.Test.YthhighljfjeooaaDoorLawWord
import Derived.Test.YthhighljfjeooaaDoorWordG
import Derived.Test.YthhighljfjeooaaDoorKeepI
import Derived.Test.YthhighljfjeooaaDoorRefWA
namespace Go.Proofs.YthhighljfjeooaaDoor
open Go.RowKit Go.Extern.Stop Go.Stop Go.Extern WordM NatM

theorem turnW_zero (l : List Int) : turnW l 0 = l := by
  unfold turnW turnN
  rw [Int.zero_emod]
  exact rot_zero l
theorem timesW_one (l : List Int) : timesW l 1 = l := rfl
/-- the lent list is written over -/
def BumpI (w : World) (B g n : Nat) (Lo : List MkI) (v : Value) (wr : World) : Prop :=
  ∃ (i : Nat) (t : List Int), i ≤ n ∧ v = .int .i64 (i : Int) ∧ t.length = n ∧ Kq w wr B [(g, t)] Lo
theorem Kq.one {w w1 w2 : World} {g : Nat} {l : List Int} (hb1 : Below w.heap.size w w1) (hg : g = w1.heap.size) (hx : LentI w2 g l) (hb2 : Below w1.heap.size w1 w2) : Kq w w2 w2.heap.size [(g, l)] [] := by
  have h1 := hb1.size
  have h2 := hx.lt
  refine ⟨hb1.trans (hb2.mono h1), fun i x hi => ?_, fun i j x y hi hj hne => ?_, Nat.le_refl _, by omega, fun i e he => by simp at he, fun i j e f _ he => by simp at he⟩
  · rcases i with _ | i
    · obtain rfl := Option.some.inj hi
      exact ⟨hx, by show w.heap.size ≤ g; omega, h2⟩
    · simp at hi
  · rcases i with _ | i
    · rcases j with _ | j
      · exact absurd rfl hne
      · simp at hj
    · simp at hi
set_option maxRecDepth 100000 in
set_option maxHeartbeats 16000000 in
theorem wkeeps_any (p : Option Addr) (c : Nat) (l : List Int) (z : Int) (w : World) (ha : IntV w.heap.size w p c l) :
    Calls Tryd.prog 9 #[.slice p l.length c, .int .i64 z] w (Tells (.bool true) w) := by
  have hcap := ha.cap
  have hle := ha.le
  unfold maxLen at hcap
  obtain ⟨n, hn⟩ : ∃ n, l.length = n := ⟨_, rfl⟩
  rw [hn] at hle ⊢
  have HA := Lib.hid (And.intro ha hn)
  clear ha hn
  go_enter Tryd.func9, Tryd.ntmps9
  go_wp2_with fail
  refine (awakeW _).mono ?_
  rintro e w1 ⟨rfl, hb1⟩
  have B1 := Lib.hid hb1
  clear hb1
  by_cases hal : 100 < n
  · go_wp2_with fail
    go_ret
    exact ⟨rfl, B1.out⟩
  have hlent := lentI_any p c l w1 (HA.out.1.next B1.out) (by have := HA.out.2; omega)
  rw [HA.out.2] at hlent
  have HL := Lib.hid hlent
  clear hlent
  go_wp2_with fail
  refine HL.out.mono ?_
  rintro e w2 ⟨he, hx, hb2⟩
  rw [HA.out.2] at he
  obtain rfl := he
  obtain ⟨g, hg⟩ : ∃ g, w1.heap.size = g := ⟨_, rfl⟩
  rw [hg] at hx ⊢
  have hK := Kq.one B1.out hg.symm hx hb2
  obtain ⟨B, hB⟩ : ∃ B, w2.heap.size = B := ⟨_, rfl⟩
  rw [hB] at hK
  have K2 := Lib.hid hK
  have hal' : n ≤ 100 := by omega
  have hxv : ∀ (wx : World) (Lo : List MkI), Kq w wx B [(g, l)] Lo → IntV wx.heap.size wx (some ⟨g, 0, none⟩) (n + 2) l := fun wx Lo K => (K.lent 0 _ rfl).1.vn (by rw [HA.out.2]) (by show l.length ≤ _; have := HA.out.2; omega)
  have HX := Lib.hid hxv
  have hln : l.length ≤ 17592186044000 := by have := HA.out.2; omega
  have HLN := Lib.hid hln
  have hbk : ∀ W, IntV W.heap.size W (some ⟨g, 0, none⟩) (n + 2) l → Calls Tryd.prog 29 #[.slice (some ⟨g, 0, none⟩) n (n + 2)] W (IntPost W l.reverse) := fun W hW => back_any _ _ _ l W HA.out.2.symm hW HLN.out
  have HBK := Lib.hid hbk
  clear hK hx hb2 hg hB hal hxv HL hln hbk B1
  go_wp2_with fail
  refine (HBK.out _ (HX.out _ _ K2.out)).mono ?_
  rintro e w3 ⟨p3, c3, rfl, ho, hb⟩
  rw [List.length_reverse, HA.out.2]
  have K3 := Lib.hid (K2.out.push hb ho)
  clear ho hb K2
  go_wp2_with fail
  refine (turn_any _ _ _ l z _ HA.out.2.symm (HX.out _ _ K3.out) HLN.out).mono ?_
  rintro e w4 ⟨p4, c4, rfl, ho, hb⟩
  rw [turnW_length, HA.out.2]
  have K4 := Lib.hid (K3.out.push hb ho)
  clear ho hb K3
  go_wp2_with fail
  refine (turn_any _ _ _ l 0 _ HA.out.2.symm (HX.out _ _ K4.out) HLN.out).mono ?_
  rintro e w5 ⟨p5, c5, rfl, ho, hb⟩
  rw [turnW_zero] at ho ⊢
  rw [HA.out.2]
  have K5 := Lib.hid (K4.out.push hb ho)
  clear ho hb K4
  have htm : ∀ W, IntV W.heap.size W (some ⟨g, 0, none⟩) (n + 2) l → Calls Tryd.prog 41 #[.slice (some ⟨g, 0, none⟩) n (n + 2), .int .i64 1] W (IntOk W l) := fun W hW => times_ok _ n (n + 2) 1 l W HA.out.2.symm hW (by omega) (by
    rcases Nat.eq_zero_or_pos n with h | h
    · exact Or.inl h
    · right
      exact (Nat.le_div_iff_mul_le h).2 (by omega))
  have HT := Lib.hid htm
  clear htm
  go_wp2_with fail
  refine (HT.out _ (HX.out _ _ K5.out)).mono ?_
  rintro e w6 ⟨p6, c6, rfl, ho, hb⟩
  rw [HA.out.2]
  have K6 := Lib.hid (K5.out.push hb ho)
  clear ho hb K5
  go_wp2_with fail
  refine (HT.out _ (HX.out _ _ K6.out)).mono ?_
  rintro e w7 ⟨p7, c7, rfl, ho, hb⟩
  rw [HA.out.2]
  have K7 := Lib.hid (K6.out.push hb ho)
  clear ho hb K6
  go_wp2_with fail
  refine (HBK.out _ (HX.out _ _ K7.out)).mono ?_
  rintro e w8 ⟨p8, c8, rfl, ho, hb⟩
  rw [List.length_reverse, HA.out.2]
  have K8 := Lib.hid (K7.out.push hb ho)
  clear ho hb K7
  obtain ⟨Lo, hLo⟩ : ∃ Lo : List MkI, Lo = [((p8, c8, l.reverse), w7.heap.size, w8.heap.size), ((p7, c7, l), w6.heap.size, w7.heap.size), ((p6, c6, l), w5.heap.size, w6.heap.size), ((p5, c5, l), w4.heap.size, w5.heap.size), ((p4, c4, turnW l z), w3.heap.size, w4.heap.size), ((p3, c3, l.reverse), w2.heap.size, w3.heap.size)] := ⟨_, rfl⟩
  have hK : Kq w w8 B [(g, l)] Lo := by rw [hLo]; exact K8.out
  have hgets : Lo[0]? = some ((p8, c8, l.reverse), w7.heap.size, w8.heap.size) ∧ Lo[1]? = some ((p7, c7, l), w6.heap.size, w7.heap.size) ∧ Lo[2]? = some ((p6, c6, l), w5.heap.size, w6.heap.size) ∧ Lo[3]? = some ((p5, c5, l), w4.heap.size, w5.heap.size) ∧ Lo[4]? = some ((p4, c4, turnW l z), w3.heap.size, w4.heap.size) ∧ Lo[5]? = some ((p3, c3, l.reverse), w2.heap.size, w3.heap.size) := by
    rw [hLo]; exact ⟨rfl, rfl, rfl, rfl, rfl, rfl⟩
  have HG := Lib.hid hgets
  have K9 := Lib.hid hK
  clear hLo hK K8 hgets
  have hsame : ∀ (W : World) (q q' : Option Addr) (d d' : Nat), IntV W.heap.size W q d l → IntV W.heap.size W q' d' l → Calls Tryd.prog 28 #[.slice q n d, .slice q' n d'] W (Tells (.bool true) W) := fun W q q' d d' h h' => by
    have := ints_any q q' n n d d' l l W HA.out.2.symm HA.out.2.symm h h'
    rwa [sameI_self] at this
  have hsameR : ∀ (W : World) (q q' : Option Addr) (d d' : Nat), IntV W.heap.size W q d l.reverse → IntV W.heap.size W q' d' l.reverse → Calls Tryd.prog 28 #[.slice q n d, .slice q' n d'] W (Tells (.bool true) W) := fun W q q' d d' h h' => by
    have := ints_any q q' n n d d' l.reverse l.reverse W (by rw [List.length_reverse, HA.out.2]) (by rw [List.length_reverse, HA.out.2]) h h'
    rwa [sameI_self] at this
  have HS := Lib.hid (And.intro hsame hsameR)
  clear hsame hsameR
  have hkept := keptI_any g p n (n + 2) c l w8 (K9.out.lent 0 _ rfl).1 (K9.out.old HA.out.1) (by have := HA.out.2; omega) HA.out.2.symm (by rw [HA.out.2])
  rw [HA.out.2] at hkept
  have HK := Lib.hid hkept
  clear hkept
  go_wp2_with fail
  refine HK.out.mono ?_
  rintro e w9 ⟨rfl, hb⟩
  have K10 := Lib.hid (K9.out.next hb)
  clear hb K9 HK
  go_wp2_with fail
  refine (HS.out.1 _ _ _ _ _ (K10.out.get 3 HG.out.2.2.2.1) (K10.out.old HA.out.1)).mono ?_
  rintro e w10 ⟨rfl, hb⟩
  have K11 := Lib.hid (K10.out.next hb)
  clear hb K10
  go_wp2_with fail
  refine (HS.out.1 _ _ _ _ _ (K11.out.get 2 HG.out.2.2.1) (K11.out.old HA.out.1)).mono ?_
  rintro e w11 ⟨rfl, hb⟩
  have K12 := Lib.hid (K11.out.next hb)
  clear hb K11
  go_wp2_with fail
  refine (HS.out.1 _ _ _ _ _ (K12.out.get 1 HG.out.2.1) (K12.out.old HA.out.1)).mono ?_
  rintro e w12 ⟨rfl, hb⟩
  have K13 := Lib.hid (K12.out.next hb)
  clear hb K12
  go_wp2_with fail
  refine (HS.out.2 _ _ _ _ _ (K13.out.get 5 HG.out.2.2.2.2.2) (K13.out.get 0 HG.out.1)).mono ?_
  rintro e w13 ⟨rfl, hb⟩
  have K14 := Lib.hid (K13.out.next hb)
  clear hb K13
  go_wp2_with fail
  go_loopw [14] (fun v wr => BumpI w B g n Lo v wr) (fun v _ => n - (intOf v).toNat)
  case atStart => exact ⟨0, l, Nat.zero_le _, rfl, HA.out.2, K14.out⟩
  case round =>
    obtain ⟨i, t, hi, rfl, htl, hK⟩ := hrel
    by_cases hlt : i < n
    · obtain ⟨x, hx⟩ := getI (l := t) (k := i) (by omega)
      have hlx := (hK.lent 0 _ rfl).1
      have hcx : wr.cell? ⟨g, i, none⟩ = some (.int .i64 x) := LentI.cell hlx (by rw [List.getElem?_append_left (by show i < t.length; omega)]; exact hx)
      have hfx : wr.frozen? ⟨g, i, none⟩ = false := frozen_of_row wr g i _ _ hlx
      have hnew := fun v => hK.setx 0 g t rfl i v (by omega)
      have HN := Lib.hid (And.intro hnew htl)
      clear hnew hK hx hlx htl
      go_wp2_with fail
      go_roundw
      case rel => exact ⟨i + 1, t.set i _, by omega, by go_num, by rw [List.length_set]; exact HN.out.2, HN.out.1 _⟩
      case measure => simp [intOf]; omega
    · obtain rfl : i = n := by omega
      have K15 := Lib.hid hK
      have HTL := Lib.hid htl
      have htv : ∀ (wx : World) (Lo : List MkI), Kq w wx B [(g, t)] Lo → IntV wx.heap.size wx (some ⟨g, 0, none⟩) (i + 2) t := fun wx Lo K => (K.lent 0 _ rfl).1.vn (by rw [HTL.out]) (by show t.length ≤ _; have := HTL.out; omega)
      have HTV := Lib.hid htv
      clear hK htl htv
      go_wp2_with fail
      refine (copyI_any _ _ _ t _ HTL.out.symm (HTV.out _ _ K15.out) (by have := HTL.out; omega)).mono ?_
      rintro e w15 ⟨p15, c15, rfl, ho, hb⟩
      rw [HTL.out]
      have K16 := Lib.hid (K15.out.push hb ho)
      clear ho hb K15
      go_wp2_with fail
      refine (HS.out.1 _ _ _ _ _ (K16.out.get 4 HG.out.2.2.2.1) (K16.out.old HA.out.1)).mono ?_
      rintro e w16 ⟨rfl, hb⟩
      have K17 := Lib.hid (K16.out.next hb)
      clear hb K16
      go_wp2_with fail
      refine (HS.out.1 _ _ _ _ _ (K17.out.get 3 HG.out.2.2.1) (K17.out.old HA.out.1)).mono ?_
      rintro e w17 ⟨rfl, hb⟩
      have K18 := Lib.hid (K17.out.next hb)
      clear hb K17
      go_wp2_with fail
      refine (back_ref p i c l w17 HA.out.2.symm (K18.out.old HA.out.1) HLN.out).mono ?_
      rintro e w18 ⟨p18, c18, rfl, ho, hb⟩
      rw [List.length_reverse, HA.out.2]
      have K19 := Lib.hid (K18.out.push hb ho)
      clear ho hb K18
      go_wp2_with fail
      refine (HS.out.2 _ _ _ _ _ (K19.out.get 7 HG.out.2.2.2.2.2) (K19.out.get 0 rfl)).mono ?_
      rintro e w19 ⟨rfl, hb⟩
      have K20 := Lib.hid (K19.out.next hb)
      clear hb K19
      go_wp2_with fail
      refine (back_any _ _ _ t _ HTL.out.symm (HTV.out _ _ K20.out) (by have := HTL.out; omega)).mono ?_
      rintro e w20 ⟨p20, c20, rfl, ho, hb⟩
      rw [List.length_reverse, HTL.out]
      have K21 := Lib.hid (K20.out.push hb ho)
      clear ho hb K20
      go_wp2_with fail
      refine (back_ref _ _ _ t _ HTL.out.symm (K21.out.get 2 rfl) (by have := HTL.out; omega)).mono ?_
      rintro e w21 ⟨p21, c21, rfl, ho, hb⟩
      rw [List.length_reverse, HTL.out]
      have K22 := Lib.hid (K21.out.push hb ho)
      clear ho hb K21
      have hsT : Calls Tryd.prog 28 #[.slice p20 i c20, .slice p21 i c21] w21 (Tells (.bool true) w21) := by
        have := ints_any p20 p21 i i c20 c21 t.reverse t.reverse w21 (by rw [List.length_reverse, HTL.out]) (by rw [List.length_reverse, HTL.out]) (K22.out.get 1 rfl) (K22.out.get 0 rfl)
        rwa [sameI_self] at this
      have HST := Lib.hid hsT
      clear hsT
      go_wp2_with fail
      refine HST.out.mono ?_
      rintro e w22 ⟨rfl, hb⟩
      have K23 := Lib.hid (K22.out.next hb)
      clear hb K22 HST
      have hap := K23.out.apart_call [9, 8, 7, 6, 5, 4] (by decide) #[.slice p3 i c3, .slice p4 i c4, .slice p5 i c5, .slice p6 i c6, .slice p7 i c7, .slice p8 i c8] 40 6 rfl (by omega) (fun k j hk => by
        have hl := HA.out.2
        rcases k with _ | _ | _ | _ | _ | _ | k
        · obtain rfl := Option.some.inj hk
          exact ⟨_, HG.out.2.2.2.2.2, by simp [Sl.val, hl], by simp; omega⟩
        · obtain rfl := Option.some.inj hk
          exact ⟨_, HG.out.2.2.2.2.1, by simp [Sl.val, turnW_length, hl], by simp [turnW_length]; omega⟩
        · obtain rfl := Option.some.inj hk
          exact ⟨_, HG.out.2.2.2.1, by simp [Sl.val, hl], by simp; omega⟩
        · obtain rfl := Option.some.inj hk
          exact ⟨_, HG.out.2.2.1, by simp [Sl.val, hl], by simp; omega⟩
        · obtain rfl := Option.some.inj hk
          exact ⟨_, HG.out.2.1, by simp [Sl.val, hl], by simp; omega⟩
        · obtain rfl := Option.some.inj hk
          exact ⟨_, HG.out.1, by simp [Sl.val, hl], by simp; omega⟩
        · simp at hk)
      have HAP := Lib.hid hap
      clear hap
      go_wp2_with fail
      refine HAP.out.mono ?_
      rintro e w23 ⟨rfl, hb, hlt2, hmk⟩
      have hxx := (hlt2 0 _ rfl).vn (m := i + 2) (by show i + 2 = t.length + 2; rw [HTL.out]) (by show t.length ≤ _; have := HTL.out; omega)
      have hyy := hmk 3 _ rfl (by decide)
      have hfin : Calls Tryd.prog 28 #[.slice (some ⟨g, 0, none⟩) i (i + 2), .slice p15 i c15] w23 (Tells (.bool true) w23) := by
        have := ints_any (some ⟨g, 0, none⟩) p15 i i (i + 2) c15 t t w23 HTL.out.symm HTL.out.symm hxx hyy
        rwa [sameI_self] at this
      have HF := Lib.hid (And.intro hfin hb)
      clear hxx hyy hfin hb hlt2 hmk HAP
      go_wp2_with fail
      refine HF.out.1.mono ?_
      rintro e w24 ⟨rfl, hb⟩
      have HZ := Lib.hid (HF.out.2.trans (hb.mono HF.out.2.size))
      clear hb HF
      go_wp2_with fail
      go_ret
      exact ⟨rfl, HZ.out⟩
end Go.Proofs.YthhighljfjeooaaDoor
